import PyProof.Rows.All
import Wide.All
import OpenK.AllK
import Wide.FinOn
import HandS.ForMost
import HandS.Exc
import HandS.TryOnly
import HandS.ExcOwn
import HandS.WordsExc
import HandS.Flow
import HandS.Wide
import HandS.WideBits
import HandS.Defaults
import HandS.IsInst
import HandS.RaiseMore
import HandS.FStr
import HandS.Text
import HandS.StrMore
import HandS.Star
import HandS.Style
import HandS.ClsMeth
import HandS.Property
import HandS.CallLocal
import HandS.MakeKwOnly
import KE.KCallOwn
import PyProof.InstSpecial
import KE.KExcIs
import KE.KTryMore
import HandS.ExcInit
import HandS.ExcCtx
import HandS.HotCalls
import HandS.ExcField
import HandS.CallSlots
import HandS.Lambda
import HandS.EndTab
import HandS.SetFor
import HandS.Codes
import HandS.Walk
import HandS.DeepEq
import KE.KOpsOwn
import OpenK.KMeth
import HandS.TupMul
import HandS.OwnEq
import KE.OsRunLaw
import HandS.Words
import PySem.Challenge.RW_sizechains_k18_steps_made
set_option Elab.async false
set_option linter.all false
set_option exponentiation.threshold 10000
set_option maxRecDepth 100000
namespace Gd
open PySem PySem.Spec PyProof.Rows L2
/-! the head -/
def top (i : Nat) : Stmt := PySem.Challenge.pw_sizechains_k18_steps_made.main.body.getD i (.Pass ⟨0, 0, 0, 0⟩)
abbrev s__wall : Stmt := top 0
abbrev s_InvalidBox_init : Stmt := inClass (top 3) 0
abbrev s_InvalidKeep_init : Stmt := inClass (top 4) 0
abbrev s_InvalidTimes_init : Stmt := inClass (top 5) 0
abbrev s_InvalidText_init : Stmt := inClass (top 6) 0
abbrev s_is_integer : Stmt := top 8
abbrev s_is_positive : Stmt := top 9
abbrev s_is_numeral : Stmt := top 10
abbrev s_check_box : Stmt := top 13
abbrev s_Step_read : Stmt := inClass (top 14) 1
abbrev s_Step_details : Stmt := inClass (top 14) 2
abbrev s_Step_eq : Stmt := inClass (top 14) 3
abbrev s_Step_str : Stmt := inClass (top 14) 4
abbrev s_Step_repr : Stmt := inClass (top 14) 5
abbrev s_Scaling_init : Stmt := inClass (top 15) 0
abbrev s_Scaling_details : Stmt := inClass (top 15) 1
abbrev s_Scaling_factor : Stmt := inClass (top 15) 2
abbrev s_Shrink_init : Stmt := inClass (top 16) 1
abbrev s_Shrink_apply : Stmt := inClass (top 16) 2
abbrev s_Grow_init : Stmt := inClass (top 17) 1
abbrev s_Grow_apply : Stmt := inClass (top 17) 2
abbrev s_Crop_init : Stmt := inClass (top 18) 0
abbrev s_Crop_details : Stmt := inClass (top 18) 1
abbrev s_CropWidth_init : Stmt := inClass (top 19) 2
abbrev s_CropWidth_apply : Stmt := inClass (top 19) 3
abbrev s_CropHeight_init : Stmt := inClass (top 20) 2
abbrev s_CropHeight_apply : Stmt := inClass (top 20) 3
abbrev s_Turn_init : Stmt := inClass (top 21) 1
abbrev s_Turn_details : Stmt := inClass (top 21) 2
abbrev s_Turn_apply : Stmt := inClass (top 21) 3
abbrev s_Landscape_apply : Stmt := inClass (top 22) 1
abbrev s_Portrait_apply : Stmt := inClass (top 23) 1
abbrev s_find_sides : Stmt := top 24
abbrev s_scaling : Stmt := top 25
abbrev s_find_scaling : Stmt := top 26
abbrev s_find_crop : Stmt := top 27
abbrev s_find_turn : Stmt := top 28
abbrev s_find_step : Stmt := top 29
abbrev s_l_cell : Stmt := top 31
abbrev s_l_pool : Stmt := top 32
abbrev s_l_draw : Stmt := top 33
abbrev s_l_side : Stmt := top 34
abbrev s_l_drawn : Stmt := top 35
abbrev s_l_shown : Stmt := top 36
abbrev s_l_made_twice : Stmt := top 37
abbrev s_l_classes : Stmt := top 38
abbrev s_l_parts : Stmt := top 39
abbrev s_l_spec_right : Stmt := top 40
abbrev s_l_plain_right : Stmt := top 41
abbrev s_l_right : Stmt := top 42
abbrev s_law : Stmt := top 43
def K0 : PySem.Params → PySem.W.Frag := fun P => 
  (nat_lit 2, { cls := Value.none, data := Data.dict #[] }) ::
  (nat_lit 3, { cls := Value.type "dict", data := Data.dict #[{ hash := PyData.keyHash P (Str.ofString "__name__"), key := Value.str (Str.ofString "__name__") 165, val := Value.str (Str.ofString "law_sizechains_k18_steps_made") 819 }, { hash := PyData.keyHash P (Str.ofString "__doc__"), key := Value.str (Str.ofString "__doc__") 166, val := Value.none }, { hash := PyData.keyHash P (Str.ofString "__package__"), key := Value.str (Str.ofString "__package__") 167, val := Value.none }, { hash := PyData.keyHash P (Str.ofString "__loader__"), key := Value.str (Str.ofString "__loader__") 168, val := Value.builtin "__main__.__loader__#opaque" }, { hash := PyData.keyHash P (Str.ofString "__spec__"), key := Value.str (Str.ofString "__spec__") 169, val := Value.none }, { hash := PyData.keyHash P (Str.ofString "__annotations__"), key := Value.str (Str.ofString "__annotations__") 170, val := Value.ref 6 }, { hash := PyData.keyHash P (Str.ofString "__builtins__"), key := Value.str (Str.ofString "__builtins__") 171, val := Value.ref 4 }, { hash := PyData.keyHash P (Str.ofString "__file__"), key := Value.str (Str.ofString "__file__") 173, val := Value.str (Str.ofString "/claim/cut.py") 172 }, { hash := PyData.keyHash P (Str.ofString "__cached__"), key := Value.str (Str.ofString "__cached__") 174, val := Value.none }, { hash := PyData.keyHash P (Str.ofString "_wall"), key := Value.str (Str.ofString "_wall") 193, val := Value.ref 21 }, { hash := PyData.keyHash P (Str.ofString "PictureError"), key := Value.str (Str.ofString "PictureError") 213, val := Value.ref 31 }, { hash := PyData.keyHash P (Str.ofString "InvalidBox"), key := Value.str (Str.ofString "InvalidBox") 238, val := Value.ref 51 }, { hash := PyData.keyHash P (Str.ofString "InvalidKeep"), key := Value.str (Str.ofString "InvalidKeep") 263, val := Value.ref 70 }, { hash := PyData.keyHash P (Str.ofString "InvalidTimes"), key := Value.str (Str.ofString "InvalidTimes") 288, val := Value.ref 89 }, { hash := PyData.keyHash P (Str.ofString "InvalidText"), key := Value.str (Str.ofString "InvalidText") 313, val := Value.ref 108 }, { hash := PyData.keyHash P (Str.ofString "is_integer"), key := Value.str (Str.ofString "is_integer") 322, val := Value.ref 117 }, { hash := PyData.keyHash P (Str.ofString "is_positive"), key := Value.str (Str.ofString "is_positive") 329, val := Value.ref 124 }, { hash := PyData.keyHash P (Str.ofString "is_numeral"), key := Value.str (Str.ofString "is_numeral") 336, val := Value.ref 131 }, { hash := PyData.keyHash P (Str.ofString "MOST_SIDE"), key := Value.str (Str.ofString "MOST_SIDE") 340, val := Value.int 1000000 339 }, { hash := PyData.keyHash P (Str.ofString "check_box"), key := Value.str (Str.ofString "check_box") 351, val := Value.ref 138 }, { hash := PyData.keyHash P (Str.ofString "Step"), key := Value.str (Str.ofString "Step") 423, val := Value.ref 186 }, { hash := PyData.keyHash P (Str.ofString "Scaling"), key := Value.str (Str.ofString "Scaling") 468, val := Value.ref 221 }, { hash := PyData.keyHash P (Str.ofString "Shrink"), key := Value.str (Str.ofString "Shrink") 505, val := Value.ref 248 }, { hash := PyData.keyHash P (Str.ofString "Grow"), key := Value.str (Str.ofString "Grow") 542, val := Value.ref 275 }, { hash := PyData.keyHash P (Str.ofString "Crop"), key := Value.str (Str.ofString "Crop") 579, val := Value.ref 301 }, { hash := PyData.keyHash P (Str.ofString "CropWidth"), key := Value.str (Str.ofString "CropWidth") 621, val := Value.ref 329 }, { hash := PyData.keyHash P (Str.ofString "CropHeight"), key := Value.str (Str.ofString "CropHeight") 663, val := Value.ref 357 }, { hash := PyData.keyHash P (Str.ofString "Turn"), key := Value.str (Str.ofString "Turn") 706, val := Value.ref 391 }, { hash := PyData.keyHash P (Str.ofString "Landscape"), key := Value.str (Str.ofString "Landscape") 732, val := Value.ref 410 }, { hash := PyData.keyHash P (Str.ofString "Portrait"), key := Value.str (Str.ofString "Portrait") 758, val := Value.ref 429 }, { hash := PyData.keyHash P (Str.ofString "find_sides"), key := Value.str (Str.ofString "find_sides") 770, val := Value.ref 438 }, { hash := PyData.keyHash P (Str.ofString "scaling"), key := Value.str (Str.ofString "scaling") 780, val := Value.ref 445 }, { hash := PyData.keyHash P (Str.ofString "find_scaling"), key := Value.str (Str.ofString "find_scaling") 789, val := Value.ref 452 }, { hash := PyData.keyHash P (Str.ofString "find_crop"), key := Value.str (Str.ofString "find_crop") 799, val := Value.ref 459 }, { hash := PyData.keyHash P (Str.ofString "find_turn"), key := Value.str (Str.ofString "find_turn") 807, val := Value.ref 466 }, { hash := PyData.keyHash P (Str.ofString "find_step"), key := Value.str (Str.ofString "find_step") 818, val := Value.ref 473 }, { hash := PyData.keyHash P (Str.ofString "_law_cell"), key := Value.str (Str.ofString "_law_cell") 830, val := Value.ref 480 }, { hash := PyData.keyHash P (Str.ofString "_law_pool"), key := Value.str (Str.ofString "_law_pool") 838, val := Value.ref 487 }, { hash := PyData.keyHash P (Str.ofString "_law_draw"), key := Value.str (Str.ofString "_law_draw") 848, val := Value.ref 494 }, { hash := PyData.keyHash P (Str.ofString "_law_side"), key := Value.str (Str.ofString "_law_side") 857, val := Value.ref 501 }, { hash := PyData.keyHash P (Str.ofString "_law_drawn"), key := Value.str (Str.ofString "_law_drawn") 868, val := Value.ref 508 }, { hash := PyData.keyHash P (Str.ofString "_law_shown"), key := Value.str (Str.ofString "_law_shown") 876, val := Value.ref 515 }, { hash := PyData.keyHash P (Str.ofString "_law_made_twice"), key := Value.str (Str.ofString "_law_made_twice") 883, val := Value.ref 522 }, { hash := PyData.keyHash P (Str.ofString "_law_classes"), key := Value.str (Str.ofString "_law_classes") 891, val := Value.ref 529 }, { hash := PyData.keyHash P (Str.ofString "_law_parts"), key := Value.str (Str.ofString "_law_parts") 899, val := Value.ref 536 }, { hash := PyData.keyHash P (Str.ofString "_law_spec_right"), key := Value.str (Str.ofString "_law_spec_right") 905, val := Value.ref 541 }, { hash := PyData.keyHash P (Str.ofString "_law_plain_right"), key := Value.str (Str.ofString "_law_plain_right") 914, val := Value.ref 548 }, { hash := PyData.keyHash P (Str.ofString "_law_right"), key := Value.str (Str.ofString "_law_right") 920, val := Value.ref 553 }, { hash := PyData.keyHash P (Str.ofString "law"), key := Value.str (Str.ofString "law") 926, val := Value.ref 558 }] 49 }) ::
  (nat_lit 15, { cls := Value.type "tuple", data := Data.seq #[] }) ::
  (nat_lit 17, { cls := Value.type "tuple", data := Data.seq #[Value.str (Str.ofString "k") 190] }) ::
  (nat_lit 18, { cls := Value.type "tuple", data := Data.seq #[] }) ::
  (nat_lit 20, { cls := Value.type "code", data := Data.fields #[Value.str (Str.ofString "_wall") 187, Value.str (Str.ofString "_wall") 188, Value.str (Str.ofString "/claim/cut.py") 189, Value.int 1 0, Value.int 1 0, Value.int 0 0, Value.int 0 0, Value.int 3 0, Value.ref 15, Value.bool true, Value.int 181 0, Value.ref 16, Value.none, Value.ref 17, Value.ref 18, Value.ref 19, Value.int 191 0, Value.int 1 0, Value.str (Str.ofString "/claim/cut.py") 192] }) ::
  (nat_lit 21, ⟨Value.type "function", none, Data.func (PySem.W.fnOf (Str.ofString "_wall") (Str.ofString "_wall") (L2.defArgs s__wall) (L2.defBody s__wall) (L2.defScope s__wall) (Value.none) (Value.none) (Value.none) (Value.str (Str.ofString "__main__") 164) (none) (Value.ref 20) (Value.none)), #[]⟩) ::
  (nat_lit 22, { cls := Value.type "tuple", data := Data.seq #[Value.type "ValueError"] }) ::
  (nat_lit 29, { cls := Value.type "tuple", data := Data.seq #[] }) ::
  (nat_lit 30, { cls := Value.type "dict", data := Data.dict #[{ hash := PyData.keyHash P (Str.ofString "__module__"), key := Value.str (Str.ofString "__module__") 203, val := Value.str (Str.ofString "sizechains.errors") 194 }, { hash := PyData.keyHash P (Str.ofString "__firstlineno__"), key := Value.str (Str.ofString "__firstlineno__") 207, val := Value.int 5 206 }, { hash := PyData.keyHash P (Str.ofString "__static_attributes__"), key := Value.str (Str.ofString "__static_attributes__") 208, val := Value.ref 29 }, { hash := PyData.keyHash P (Str.ofString "__weakref__"), key := Value.str (Str.ofString "__weakref__") 210, val := Value.ref 32 }, { hash := PyData.keyHash P (Str.ofString "__doc__"), key := Value.str (Str.ofString "__doc__") 211, val := Value.none }] 3 }) ::
  (nat_lit 31, { cls := Value.type "type", data := Data.cls { name := Str.ofString "PictureError", bases := [Value.type "ValueError"], mro := [Value.ref 31, Value.type "ValueError", Value.type "Exception", Value.type "BaseException", Value.type "object"], ns := 30, qualname := Str.ofString "PictureError", subclasses := [Value.ref 51, Value.ref 70, Value.ref 89, Value.ref 108] }, slots := #[some (Value.ref 22), none, some (Value.str (Str.ofString "PictureError") 196), some (Value.str (Str.ofString "PictureError") 204), some (Value.builtin "ValueError.__new__"), some (Value.bool true)] }) ::
  (nat_lit 32, { cls := Value.type "getset_descriptor", data := Data.fields #[Value.str (Str.ofString "__weakref__") 209, Value.ref 31, Value.builtin "ExceptionGroup.__weakref__", Value.none] }) ::
  (nat_lit 35, { cls := Value.type "tuple", data := Data.seq #[Value.ref 31] }) ::
  (nat_lit 42, { cls := Value.type "tuple", data := Data.seq #[] }) ::
  (nat_lit 44, { cls := Value.type "tuple", data := Data.seq #[Value.str (Str.ofString "self") 229, Value.str (Str.ofString "value") 230] }) ::
  (nat_lit 45, { cls := Value.type "tuple", data := Data.seq #[] }) ::
  (nat_lit 47, { cls := Value.type "code", data := Data.fields #[Value.str (Str.ofString "__init__") 226, Value.str (Str.ofString "InvalidBox.__init__") 227, Value.str (Str.ofString "/claim/cut.py") 228, Value.int 9 0, Value.int 2 0, Value.int 0 0, Value.int 0 0, Value.int 3 0, Value.ref 42, Value.bool true, Value.int 181 0, Value.ref 43, Value.none, Value.ref 44, Value.ref 45, Value.ref 46, Value.int 231 0, Value.int 9 0, Value.str (Str.ofString "/claim/cut.py") 232] }) ::
  (nat_lit 48, ⟨Value.type "function", none, Data.func (PySem.W.fnOf (Str.ofString "__init__") (Str.ofString "InvalidBox.__init__") (L2.defArgs s_InvalidBox_init) (L2.defBody s_InvalidBox_init) (L2.defScope s_InvalidBox_init) (Value.none) (Value.none) (Value.none) (Value.str (Str.ofString "sizechains.errors") 194) (none) (Value.ref 47) (Value.none)), #[]⟩) ::
  (nat_lit 49, { cls := Value.type "tuple", data := Data.seq #[Value.str (Str.ofString "value") 234] }) ::
  (nat_lit 50, { cls := Value.type "dict", data := Data.dict #[{ hash := PyData.keyHash P (Str.ofString "__module__"), key := Value.str (Str.ofString "__module__") 221, val := Value.str (Str.ofString "sizechains.errors") 194 }, { hash := PyData.keyHash P (Str.ofString "__firstlineno__"), key := Value.str (Str.ofString "__firstlineno__") 225, val := Value.int 7 224 }, { hash := PyData.keyHash P (Str.ofString "__init__"), key := Value.str (Str.ofString "__init__") 233, val := Value.ref 48 }, { hash := PyData.keyHash P (Str.ofString "__static_attributes__"), key := Value.str (Str.ofString "__static_attributes__") 235, val := Value.ref 49 }, { hash := PyData.keyHash P (Str.ofString "__doc__"), key := Value.str (Str.ofString "__doc__") 236, val := Value.none }] 2 }) ::
  (nat_lit 51, { cls := Value.type "type", data := Data.cls { name := Str.ofString "InvalidBox", bases := [Value.ref 31], mro := [Value.ref 51, Value.ref 31, Value.type "ValueError", Value.type "Exception", Value.type "BaseException", Value.type "object"], ns := 50, qualname := Str.ofString "InvalidBox" }, slots := #[some (Value.ref 35), none, some (Value.str (Str.ofString "InvalidBox") 214), some (Value.str (Str.ofString "InvalidBox") 222), some (Value.builtin "ValueError.__new__"), some (Value.bool true)] }) ::
  (nat_lit 54, { cls := Value.type "tuple", data := Data.seq #[Value.ref 31] }) ::
  (nat_lit 61, { cls := Value.type "tuple", data := Data.seq #[] }) ::
  (nat_lit 63, { cls := Value.type "tuple", data := Data.seq #[Value.str (Str.ofString "self") 254, Value.str (Str.ofString "value") 255] }) ::
  (nat_lit 64, { cls := Value.type "tuple", data := Data.seq #[] }) ::
  (nat_lit 66, { cls := Value.type "code", data := Data.fields #[Value.str (Str.ofString "__init__") 251, Value.str (Str.ofString "InvalidKeep.__init__") 252, Value.str (Str.ofString "/claim/cut.py") 253, Value.int 13 0, Value.int 2 0, Value.int 0 0, Value.int 0 0, Value.int 3 0, Value.ref 61, Value.bool true, Value.int 181 0, Value.ref 62, Value.none, Value.ref 63, Value.ref 64, Value.ref 65, Value.int 256 0, Value.int 13 0, Value.str (Str.ofString "/claim/cut.py") 257] }) ::
  (nat_lit 67, ⟨Value.type "function", none, Data.func (PySem.W.fnOf (Str.ofString "__init__") (Str.ofString "InvalidKeep.__init__") (L2.defArgs s_InvalidKeep_init) (L2.defBody s_InvalidKeep_init) (L2.defScope s_InvalidKeep_init) (Value.none) (Value.none) (Value.none) (Value.str (Str.ofString "sizechains.errors") 194) (none) (Value.ref 66) (Value.none)), #[]⟩) ::
  (nat_lit 68, { cls := Value.type "tuple", data := Data.seq #[Value.str (Str.ofString "value") 259] }) ::
  (nat_lit 69, { cls := Value.type "dict", data := Data.dict #[{ hash := PyData.keyHash P (Str.ofString "__module__"), key := Value.str (Str.ofString "__module__") 246, val := Value.str (Str.ofString "sizechains.errors") 194 }, { hash := PyData.keyHash P (Str.ofString "__firstlineno__"), key := Value.str (Str.ofString "__firstlineno__") 250, val := Value.int 11 249 }, { hash := PyData.keyHash P (Str.ofString "__init__"), key := Value.str (Str.ofString "__init__") 258, val := Value.ref 67 }, { hash := PyData.keyHash P (Str.ofString "__static_attributes__"), key := Value.str (Str.ofString "__static_attributes__") 260, val := Value.ref 68 }, { hash := PyData.keyHash P (Str.ofString "__doc__"), key := Value.str (Str.ofString "__doc__") 261, val := Value.none }] 2 }) ::
  (nat_lit 70, { cls := Value.type "type", data := Data.cls { name := Str.ofString "InvalidKeep", bases := [Value.ref 31], mro := [Value.ref 70, Value.ref 31, Value.type "ValueError", Value.type "Exception", Value.type "BaseException", Value.type "object"], ns := 69, qualname := Str.ofString "InvalidKeep" }, slots := #[some (Value.ref 54), none, some (Value.str (Str.ofString "InvalidKeep") 239), some (Value.str (Str.ofString "InvalidKeep") 247), some (Value.builtin "ValueError.__new__"), some (Value.bool true)] }) ::
  (nat_lit 73, { cls := Value.type "tuple", data := Data.seq #[Value.ref 31] }) ::
  (nat_lit 80, { cls := Value.type "tuple", data := Data.seq #[] }) ::
  (nat_lit 82, { cls := Value.type "tuple", data := Data.seq #[Value.str (Str.ofString "self") 279, Value.str (Str.ofString "value") 280] }) ::
  (nat_lit 83, { cls := Value.type "tuple", data := Data.seq #[] }) ::
  (nat_lit 85, { cls := Value.type "code", data := Data.fields #[Value.str (Str.ofString "__init__") 276, Value.str (Str.ofString "InvalidTimes.__init__") 277, Value.str (Str.ofString "/claim/cut.py") 278, Value.int 17 0, Value.int 2 0, Value.int 0 0, Value.int 0 0, Value.int 3 0, Value.ref 80, Value.bool true, Value.int 181 0, Value.ref 81, Value.none, Value.ref 82, Value.ref 83, Value.ref 84, Value.int 281 0, Value.int 17 0, Value.str (Str.ofString "/claim/cut.py") 282] }) ::
  (nat_lit 86, ⟨Value.type "function", none, Data.func (PySem.W.fnOf (Str.ofString "__init__") (Str.ofString "InvalidTimes.__init__") (L2.defArgs s_InvalidTimes_init) (L2.defBody s_InvalidTimes_init) (L2.defScope s_InvalidTimes_init) (Value.none) (Value.none) (Value.none) (Value.str (Str.ofString "sizechains.errors") 194) (none) (Value.ref 85) (Value.none)), #[]⟩) ::
  (nat_lit 87, { cls := Value.type "tuple", data := Data.seq #[Value.str (Str.ofString "value") 284] }) ::
  (nat_lit 88, { cls := Value.type "dict", data := Data.dict #[{ hash := PyData.keyHash P (Str.ofString "__module__"), key := Value.str (Str.ofString "__module__") 271, val := Value.str (Str.ofString "sizechains.errors") 194 }, { hash := PyData.keyHash P (Str.ofString "__firstlineno__"), key := Value.str (Str.ofString "__firstlineno__") 275, val := Value.int 15 274 }, { hash := PyData.keyHash P (Str.ofString "__init__"), key := Value.str (Str.ofString "__init__") 283, val := Value.ref 86 }, { hash := PyData.keyHash P (Str.ofString "__static_attributes__"), key := Value.str (Str.ofString "__static_attributes__") 285, val := Value.ref 87 }, { hash := PyData.keyHash P (Str.ofString "__doc__"), key := Value.str (Str.ofString "__doc__") 286, val := Value.none }] 2 }) ::
  (nat_lit 89, { cls := Value.type "type", data := Data.cls { name := Str.ofString "InvalidTimes", bases := [Value.ref 31], mro := [Value.ref 89, Value.ref 31, Value.type "ValueError", Value.type "Exception", Value.type "BaseException", Value.type "object"], ns := 88, qualname := Str.ofString "InvalidTimes" }, slots := #[some (Value.ref 73), none, some (Value.str (Str.ofString "InvalidTimes") 264), some (Value.str (Str.ofString "InvalidTimes") 272), some (Value.builtin "ValueError.__new__"), some (Value.bool true)] }) ::
  (nat_lit 92, { cls := Value.type "tuple", data := Data.seq #[Value.ref 31] }) ::
  (nat_lit 99, { cls := Value.type "tuple", data := Data.seq #[] }) ::
  (nat_lit 101, { cls := Value.type "tuple", data := Data.seq #[Value.str (Str.ofString "self") 304, Value.str (Str.ofString "value") 305] }) ::
  (nat_lit 102, { cls := Value.type "tuple", data := Data.seq #[] }) ::
  (nat_lit 104, { cls := Value.type "code", data := Data.fields #[Value.str (Str.ofString "__init__") 301, Value.str (Str.ofString "InvalidText.__init__") 302, Value.str (Str.ofString "/claim/cut.py") 303, Value.int 21 0, Value.int 2 0, Value.int 0 0, Value.int 0 0, Value.int 3 0, Value.ref 99, Value.bool true, Value.int 181 0, Value.ref 100, Value.none, Value.ref 101, Value.ref 102, Value.ref 103, Value.int 306 0, Value.int 21 0, Value.str (Str.ofString "/claim/cut.py") 307] }) ::
  (nat_lit 105, ⟨Value.type "function", none, Data.func (PySem.W.fnOf (Str.ofString "__init__") (Str.ofString "InvalidText.__init__") (L2.defArgs s_InvalidText_init) (L2.defBody s_InvalidText_init) (L2.defScope s_InvalidText_init) (Value.none) (Value.none) (Value.none) (Value.str (Str.ofString "sizechains.errors") 194) (none) (Value.ref 104) (Value.none)), #[]⟩) ::
  (nat_lit 106, { cls := Value.type "tuple", data := Data.seq #[Value.str (Str.ofString "value") 309] }) ::
  (nat_lit 107, { cls := Value.type "dict", data := Data.dict #[{ hash := PyData.keyHash P (Str.ofString "__module__"), key := Value.str (Str.ofString "__module__") 296, val := Value.str (Str.ofString "sizechains.errors") 194 }, { hash := PyData.keyHash P (Str.ofString "__firstlineno__"), key := Value.str (Str.ofString "__firstlineno__") 300, val := Value.int 19 299 }, { hash := PyData.keyHash P (Str.ofString "__init__"), key := Value.str (Str.ofString "__init__") 308, val := Value.ref 105 }, { hash := PyData.keyHash P (Str.ofString "__static_attributes__"), key := Value.str (Str.ofString "__static_attributes__") 310, val := Value.ref 106 }, { hash := PyData.keyHash P (Str.ofString "__doc__"), key := Value.str (Str.ofString "__doc__") 311, val := Value.none }] 2 }) ::
  (nat_lit 108, { cls := Value.type "type", data := Data.cls { name := Str.ofString "InvalidText", bases := [Value.ref 31], mro := [Value.ref 108, Value.ref 31, Value.type "ValueError", Value.type "Exception", Value.type "BaseException", Value.type "object"], ns := 107, qualname := Str.ofString "InvalidText" }, slots := #[some (Value.ref 92), none, some (Value.str (Str.ofString "InvalidText") 289), some (Value.str (Str.ofString "InvalidText") 297), some (Value.builtin "ValueError.__new__"), some (Value.bool true)] }) ::
  (nat_lit 111, { cls := Value.type "tuple", data := Data.seq #[] }) ::
  (nat_lit 113, { cls := Value.type "tuple", data := Data.seq #[Value.str (Str.ofString "value") 319] }) ::
  (nat_lit 114, { cls := Value.type "tuple", data := Data.seq #[] }) ::
  (nat_lit 116, { cls := Value.type "code", data := Data.fields #[Value.str (Str.ofString "is_integer") 316, Value.str (Str.ofString "is_integer") 317, Value.str (Str.ofString "/claim/cut.py") 318, Value.int 24 0, Value.int 1 0, Value.int 0 0, Value.int 0 0, Value.int 3 0, Value.ref 111, Value.bool true, Value.int 181 0, Value.ref 112, Value.none, Value.ref 113, Value.ref 114, Value.ref 115, Value.int 320 0, Value.int 24 0, Value.str (Str.ofString "/claim/cut.py") 321] }) ::
  (nat_lit 117, ⟨Value.type "function", none, Data.func (PySem.W.fnOf (Str.ofString "is_integer") (Str.ofString "is_integer") (L2.defArgs s_is_integer) (L2.defBody s_is_integer) (L2.defScope s_is_integer) (Value.none) (Value.none) (Value.none) (Value.str (Str.ofString "sizechains.exact") 314) (none) (Value.ref 116) (Value.none)), #[]⟩) ::
  (nat_lit 118, { cls := Value.type "tuple", data := Data.seq #[] }) ::
  (nat_lit 120, { cls := Value.type "tuple", data := Data.seq #[Value.str (Str.ofString "value") 326] }) ::
  (nat_lit 121, { cls := Value.type "tuple", data := Data.seq #[] }) ::
  (nat_lit 123, { cls := Value.type "code", data := Data.fields #[Value.str (Str.ofString "is_positive") 323, Value.str (Str.ofString "is_positive") 324, Value.str (Str.ofString "/claim/cut.py") 325, Value.int 26 0, Value.int 1 0, Value.int 0 0, Value.int 0 0, Value.int 3 0, Value.ref 118, Value.bool true, Value.int 181 0, Value.ref 119, Value.none, Value.ref 120, Value.ref 121, Value.ref 122, Value.int 327 0, Value.int 26 0, Value.str (Str.ofString "/claim/cut.py") 328] }) ::
  (nat_lit 124, ⟨Value.type "function", none, Data.func (PySem.W.fnOf (Str.ofString "is_positive") (Str.ofString "is_positive") (L2.defArgs s_is_positive) (L2.defBody s_is_positive) (L2.defScope s_is_positive) (Value.none) (Value.none) (Value.none) (Value.str (Str.ofString "sizechains.exact") 314) (none) (Value.ref 123) (Value.none)), #[]⟩) ::
  (nat_lit 125, { cls := Value.type "tuple", data := Data.seq #[] }) ::
  (nat_lit 127, { cls := Value.type "tuple", data := Data.seq #[Value.str (Str.ofString "text") 333] }) ::
  (nat_lit 128, { cls := Value.type "tuple", data := Data.seq #[] }) ::
  (nat_lit 130, { cls := Value.type "code", data := Data.fields #[Value.str (Str.ofString "is_numeral") 330, Value.str (Str.ofString "is_numeral") 331, Value.str (Str.ofString "/claim/cut.py") 332, Value.int 28 0, Value.int 1 0, Value.int 0 0, Value.int 0 0, Value.int 3 0, Value.ref 125, Value.bool true, Value.int 181 0, Value.ref 126, Value.none, Value.ref 127, Value.ref 128, Value.ref 129, Value.int 334 0, Value.int 28 0, Value.str (Str.ofString "/claim/cut.py") 335] }) ::
  (nat_lit 131, ⟨Value.type "function", none, Data.func (PySem.W.fnOf (Str.ofString "is_numeral") (Str.ofString "is_numeral") (L2.defArgs s_is_numeral) (L2.defBody s_is_numeral) (L2.defScope s_is_numeral) (Value.none) (Value.none) (Value.none) (Value.str (Str.ofString "sizechains.exact") 314) (none) (Value.ref 130) (Value.none)), #[]⟩) ::
  (nat_lit 132, { cls := Value.type "tuple", data := Data.seq #[] }) ::
  (nat_lit 134, { cls := Value.type "tuple", data := Data.seq #[Value.str (Str.ofString "width") 346, Value.str (Str.ofString "height") 347, Value.str (Str.ofString "side") 348] }) ::
  (nat_lit 135, { cls := Value.type "tuple", data := Data.seq #[] }) ::
  (nat_lit 137, { cls := Value.type "code", data := Data.fields #[Value.str (Str.ofString "check_box") 343, Value.str (Str.ofString "check_box") 344, Value.str (Str.ofString "/claim/cut.py") 345, Value.int 32 0, Value.int 2 0, Value.int 0 0, Value.int 0 0, Value.int 3 0, Value.ref 132, Value.bool true, Value.int 181 0, Value.ref 133, Value.none, Value.ref 134, Value.ref 135, Value.ref 136, Value.int 349 0, Value.int 32 0, Value.str (Str.ofString "/claim/cut.py") 350] }) ::
  (nat_lit 138, ⟨Value.type "function", none, Data.func (PySem.W.fnOf (Str.ofString "check_box") (Str.ofString "check_box") (L2.defArgs s_check_box) (L2.defBody s_check_box) (L2.defScope s_check_box) (Value.none) (Value.none) (Value.none) (Value.str (Str.ofString "sizechains.steps") 341) (none) (Value.ref 137) (Value.none)), #[]⟩) ::
  (nat_lit 146, { cls := Value.type "tuple", data := Data.seq #[] }) ::
  (nat_lit 148, { cls := Value.type "tuple", data := Data.seq #[Value.str (Str.ofString "text") 369, Value.str (Str.ofString "step") 370] }) ::
  (nat_lit 149, { cls := Value.type "tuple", data := Data.seq #[] }) ::
  (nat_lit 151, { cls := Value.type "code", data := Data.fields #[Value.str (Str.ofString "read") 366, Value.str (Str.ofString "Step.read") 367, Value.str (Str.ofString "/claim/cut.py") 368, Value.int 39 0, Value.int 1 0, Value.int 0 0, Value.int 0 0, Value.int 3 0, Value.ref 146, Value.bool true, Value.int 181 0, Value.ref 147, Value.none, Value.ref 148, Value.ref 149, Value.ref 150, Value.int 371 0, Value.int 39 0, Value.str (Str.ofString "/claim/cut.py") 372] }) ::
  (nat_lit 152, ⟨Value.type "function", none, Data.func (PySem.W.fnOf (Str.ofString "read") (Str.ofString "Step.read") (L2.defArgs s_Step_read) (L2.defBody s_Step_read) (L2.defScope s_Step_read) (Value.none) (Value.none) (Value.none) (Value.str (Str.ofString "sizechains.steps") 341) (some 155) (Value.ref 151) (Value.none)), #[]⟩) ::
  (nat_lit 153, { cls := Value.type "dict", data := Data.dict #[{ hash := PyData.keyHash P (Str.ofString "__module__"), key := Value.str (Str.ofString "__module__") 374, val := Value.str (Str.ofString "sizechains.steps") 341 }, { hash := PyData.keyHash P (Str.ofString "__name__"), key := Value.str (Str.ofString "__name__") 377, val := Value.str (Str.ofString "read") 376 }, { hash := PyData.keyHash P (Str.ofString "__qualname__"), key := Value.str (Str.ofString "__qualname__") 380, val := Value.str (Str.ofString "Step.read") 379 }, { hash := PyData.keyHash P (Str.ofString "__doc__"), key := Value.str (Str.ofString "__doc__") 382, val := Value.none }, { hash := PyData.keyHash P (Str.ofString "__annotations__"), key := Value.str (Str.ofString "__annotations__") 384, val := Value.ref 155 }] 5 }) ::
  (nat_lit 154, { cls := Value.type "staticmethod", dict := some 153, data := Data.fields #[Value.ref 152, Value.bool false] }) ::
  (nat_lit 155, { cls := Value.type "dict", data := Data.dict #[] }) ::
  (nat_lit 156, { cls := Value.type "tuple", data := Data.seq #[] }) ::
  (nat_lit 158, { cls := Value.type "tuple", data := Data.seq #[Value.str (Str.ofString "self") 389] }) ::
  (nat_lit 159, { cls := Value.type "tuple", data := Data.seq #[] }) ::
  (nat_lit 161, { cls := Value.type "code", data := Data.fields #[Value.str (Str.ofString "details") 386, Value.str (Str.ofString "Step.details") 387, Value.str (Str.ofString "/claim/cut.py") 388, Value.int 46 0, Value.int 1 0, Value.int 0 0, Value.int 0 0, Value.int 3 0, Value.ref 156, Value.bool true, Value.int 181 0, Value.ref 157, Value.none, Value.ref 158, Value.ref 159, Value.ref 160, Value.int 390 0, Value.int 46 0, Value.str (Str.ofString "/claim/cut.py") 391] }) ::
  (nat_lit 162, ⟨Value.type "function", none, Data.func (PySem.W.fnOf (Str.ofString "details") (Str.ofString "Step.details") (L2.defArgs s_Step_details) (L2.defBody s_Step_details) (L2.defScope s_Step_details) (Value.none) (Value.none) (Value.none) (Value.str (Str.ofString "sizechains.steps") 341) (none) (Value.ref 161) (Value.none)), #[]⟩) ::
  (nat_lit 163, { cls := Value.type "tuple", data := Data.seq #[] }) ::
  (nat_lit 165, { cls := Value.type "tuple", data := Data.seq #[Value.str (Str.ofString "self") 396, Value.str (Str.ofString "other") 397] }) ::
  (nat_lit 166, { cls := Value.type "tuple", data := Data.seq #[] }) ::
  (nat_lit 168, { cls := Value.type "code", data := Data.fields #[Value.str (Str.ofString "__eq__") 393, Value.str (Str.ofString "Step.__eq__") 394, Value.str (Str.ofString "/claim/cut.py") 395, Value.int 49 0, Value.int 2 0, Value.int 0 0, Value.int 0 0, Value.int 3 0, Value.ref 163, Value.bool true, Value.int 181 0, Value.ref 164, Value.none, Value.ref 165, Value.ref 166, Value.ref 167, Value.int 398 0, Value.int 49 0, Value.str (Str.ofString "/claim/cut.py") 399] }) ::
  (nat_lit 169, ⟨Value.type "function", none, Data.func (PySem.W.fnOf (Str.ofString "__eq__") (Str.ofString "Step.__eq__") (L2.defArgs s_Step_eq) (L2.defBody s_Step_eq) (L2.defScope s_Step_eq) (Value.none) (Value.none) (Value.none) (Value.str (Str.ofString "sizechains.steps") 341) (none) (Value.ref 168) (Value.none)), #[]⟩) ::
  (nat_lit 170, { cls := Value.type "tuple", data := Data.seq #[] }) ::
  (nat_lit 172, { cls := Value.type "tuple", data := Data.seq #[Value.str (Str.ofString "self") 404] }) ::
  (nat_lit 173, { cls := Value.type "tuple", data := Data.seq #[] }) ::
  (nat_lit 175, { cls := Value.type "code", data := Data.fields #[Value.str (Str.ofString "__str__") 401, Value.str (Str.ofString "Step.__str__") 402, Value.str (Str.ofString "/claim/cut.py") 403, Value.int 52 0, Value.int 1 0, Value.int 0 0, Value.int 0 0, Value.int 3 0, Value.ref 170, Value.bool true, Value.int 181 0, Value.ref 171, Value.none, Value.ref 172, Value.ref 173, Value.ref 174, Value.int 405 0, Value.int 52 0, Value.str (Str.ofString "/claim/cut.py") 406] }) ::
  (nat_lit 176, ⟨Value.type "function", none, Data.func (PySem.W.fnOf (Str.ofString "__str__") (Str.ofString "Step.__str__") (L2.defArgs s_Step_str) (L2.defBody s_Step_str) (L2.defScope s_Step_str) (Value.none) (Value.none) (Value.none) (Value.str (Str.ofString "sizechains.steps") 341) (none) (Value.ref 175) (Value.none)), #[]⟩) ::
  (nat_lit 177, { cls := Value.type "tuple", data := Data.seq #[] }) ::
  (nat_lit 179, { cls := Value.type "tuple", data := Data.seq #[Value.str (Str.ofString "self") 411] }) ::
  (nat_lit 180, { cls := Value.type "tuple", data := Data.seq #[] }) ::
  (nat_lit 182, { cls := Value.type "code", data := Data.fields #[Value.str (Str.ofString "__repr__") 408, Value.str (Str.ofString "Step.__repr__") 409, Value.str (Str.ofString "/claim/cut.py") 410, Value.int 55 0, Value.int 1 0, Value.int 0 0, Value.int 0 0, Value.int 3 0, Value.ref 177, Value.bool true, Value.int 181 0, Value.ref 178, Value.none, Value.ref 179, Value.ref 180, Value.ref 181, Value.int 412 0, Value.int 55 0, Value.str (Str.ofString "/claim/cut.py") 413] }) ::
  (nat_lit 183, ⟨Value.type "function", none, Data.func (PySem.W.fnOf (Str.ofString "__repr__") (Str.ofString "Step.__repr__") (L2.defArgs s_Step_repr) (L2.defBody s_Step_repr) (L2.defScope s_Step_repr) (Value.none) (Value.none) (Value.none) (Value.str (Str.ofString "sizechains.steps") 341) (none) (Value.ref 182) (Value.none)), #[]⟩) ::
  (nat_lit 184, { cls := Value.type "tuple", data := Data.seq #[] }) ::
  (nat_lit 185, { cls := Value.type "dict", data := Data.dict #[{ hash := PyData.keyHash P (Str.ofString "__module__"), key := Value.str (Str.ofString "__module__") 359, val := Value.str (Str.ofString "sizechains.steps") 341 }, { hash := PyData.keyHash P (Str.ofString "__firstlineno__"), key := Value.str (Str.ofString "__firstlineno__") 363, val := Value.int 36 362 }, { hash := PyData.keyHash P (Str.ofString "WORD"), key := Value.str (Str.ofString "WORD") 365, val := Value.str (Str.ofString "") 364 }, { hash := PyData.keyHash P (Str.ofString "read"), key := Value.str (Str.ofString "read") 385, val := Value.ref 154 }, { hash := PyData.keyHash P (Str.ofString "details"), key := Value.str (Str.ofString "details") 392, val := Value.ref 162 }, { hash := PyData.keyHash P (Str.ofString "__eq__"), key := Value.str (Str.ofString "__eq__") 400, val := Value.ref 169 }, { hash := PyData.keyHash P (Str.ofString "__str__"), key := Value.str (Str.ofString "__str__") 407, val := Value.ref 176 }, { hash := PyData.keyHash P (Str.ofString "__repr__"), key := Value.str (Str.ofString "__repr__") 414, val := Value.ref 183 }, { hash := PyData.keyHash P (Str.ofString "__static_attributes__"), key := Value.str (Str.ofString "__static_attributes__") 415, val := Value.ref 184 }, { hash := PyData.keyHash P (Str.ofString "__dict__"), key := Value.str (Str.ofString "__dict__") 417, val := Value.ref 187 }, { hash := PyData.keyHash P (Str.ofString "__weakref__"), key := Value.str (Str.ofString "__weakref__") 419, val := Value.ref 188 }, { hash := PyData.keyHash P (Str.ofString "__doc__"), key := Value.str (Str.ofString "__doc__") 420, val := Value.none }, { hash := PyData.keyHash P (Str.ofString "__hash__"), key := Value.str (Str.ofString "__hash__") 421, val := Value.none }] 5 }) ::
  (nat_lit 186, { cls := Value.type "type", data := Data.cls { name := Str.ofString "Step", bases := [Value.type "object"], mro := [Value.ref 186, Value.type "object"], ns := 185, qualname := Str.ofString "Step", subclasses := [Value.ref 221, Value.ref 301, Value.ref 391, Value.ref 410, Value.ref 429] }, slots := #[none, none, some (Value.str (Str.ofString "Step") 352), some (Value.str (Str.ofString "Step") 360), some (Value.builtin "object.__new__"), some (Value.bool true)] }) ::
  (nat_lit 187, { cls := Value.type "getset_descriptor", data := Data.fields #[Value.str (Str.ofString "__dict__") 416, Value.ref 186, Value.builtin "function.__dict__", Value.builtin "function.__dict__#set"] }) ::
  (nat_lit 188, { cls := Value.type "getset_descriptor", data := Data.fields #[Value.str (Str.ofString "__weakref__") 418, Value.ref 186, Value.builtin "ExceptionGroup.__weakref__", Value.none] }) ::
  (nat_lit 191, { cls := Value.type "tuple", data := Data.seq #[Value.ref 186] }) ::
  (nat_lit 198, { cls := Value.type "tuple", data := Data.seq #[] }) ::
  (nat_lit 200, { cls := Value.type "tuple", data := Data.seq #[Value.str (Str.ofString "self") 439, Value.str (Str.ofString "width") 440, Value.str (Str.ofString "height") 441, Value.str (Str.ofString "cover") 442] }) ::
  (nat_lit 201, { cls := Value.type "tuple", data := Data.seq #[] }) ::
  (nat_lit 203, { cls := Value.type "code", data := Data.fields #[Value.str (Str.ofString "__init__") 436, Value.str (Str.ofString "Scaling.__init__") 437, Value.str (Str.ofString "/claim/cut.py") 438, Value.int 59 0, Value.int 4 0, Value.int 0 0, Value.int 0 0, Value.int 3 0, Value.ref 198, Value.bool true, Value.int 181 0, Value.ref 199, Value.none, Value.ref 200, Value.ref 201, Value.ref 202, Value.int 443 0, Value.int 59 0, Value.str (Str.ofString "/claim/cut.py") 444] }) ::
  (nat_lit 204, ⟨Value.type "function", none, Data.func (PySem.W.fnOf (Str.ofString "__init__") (Str.ofString "Scaling.__init__") (L2.defArgs s_Scaling_init) (L2.defBody s_Scaling_init) (L2.defScope s_Scaling_init) (Value.none) (Value.none) (Value.none) (Value.str (Str.ofString "sizechains.steps") 341) (none) (Value.ref 203) (Value.none)), #[]⟩) ::
  (nat_lit 205, { cls := Value.type "tuple", data := Data.seq #[] }) ::
  (nat_lit 207, { cls := Value.type "tuple", data := Data.seq #[Value.str (Str.ofString "self") 449, Value.str (Str.ofString "ending") 450] }) ::
  (nat_lit 208, { cls := Value.type "tuple", data := Data.seq #[] }) ::
  (nat_lit 210, { cls := Value.type "code", data := Data.fields #[Value.str (Str.ofString "details") 446, Value.str (Str.ofString "Scaling.details") 447, Value.str (Str.ofString "/claim/cut.py") 448, Value.int 65 0, Value.int 1 0, Value.int 0 0, Value.int 0 0, Value.int 3 0, Value.ref 205, Value.bool true, Value.int 181 0, Value.ref 206, Value.none, Value.ref 207, Value.ref 208, Value.ref 209, Value.int 451 0, Value.int 65 0, Value.str (Str.ofString "/claim/cut.py") 452] }) ::
  (nat_lit 211, ⟨Value.type "function", none, Data.func (PySem.W.fnOf (Str.ofString "details") (Str.ofString "Scaling.details") (L2.defArgs s_Scaling_details) (L2.defBody s_Scaling_details) (L2.defScope s_Scaling_details) (Value.none) (Value.none) (Value.none) (Value.str (Str.ofString "sizechains.steps") 341) (none) (Value.ref 210) (Value.none)), #[]⟩) ::
  (nat_lit 212, { cls := Value.type "tuple", data := Data.seq #[] }) ::
  (nat_lit 214, { cls := Value.type "tuple", data := Data.seq #[Value.str (Str.ofString "self") 457, Value.str (Str.ofString "size") 458] }) ::
  (nat_lit 215, { cls := Value.type "tuple", data := Data.seq #[] }) ::
  (nat_lit 217, { cls := Value.type "code", data := Data.fields #[Value.str (Str.ofString "factor") 454, Value.str (Str.ofString "Scaling.factor") 455, Value.str (Str.ofString "/claim/cut.py") 456, Value.int 69 0, Value.int 2 0, Value.int 0 0, Value.int 0 0, Value.int 3 0, Value.ref 212, Value.bool true, Value.int 181 0, Value.ref 213, Value.none, Value.ref 214, Value.ref 215, Value.ref 216, Value.int 459 0, Value.int 69 0, Value.str (Str.ofString "/claim/cut.py") 460] }) ::
  (nat_lit 218, ⟨Value.type "function", none, Data.func (PySem.W.fnOf (Str.ofString "factor") (Str.ofString "Scaling.factor") (L2.defArgs s_Scaling_factor) (L2.defBody s_Scaling_factor) (L2.defScope s_Scaling_factor) (Value.none) (Value.none) (Value.none) (Value.str (Str.ofString "sizechains.steps") 341) (none) (Value.ref 217) (Value.none)), #[]⟩) ::
  (nat_lit 219, { cls := Value.type "tuple", data := Data.seq #[Value.str (Str.ofString "cover") 462, Value.str (Str.ofString "height") 463, Value.str (Str.ofString "width") 464] }) ::
  (nat_lit 220, { cls := Value.type "dict", data := Data.dict #[{ hash := PyData.keyHash P (Str.ofString "__module__"), key := Value.str (Str.ofString "__module__") 431, val := Value.str (Str.ofString "sizechains.steps") 341 }, { hash := PyData.keyHash P (Str.ofString "__firstlineno__"), key := Value.str (Str.ofString "__firstlineno__") 435, val := Value.int 57 434 }, { hash := PyData.keyHash P (Str.ofString "__init__"), key := Value.str (Str.ofString "__init__") 445, val := Value.ref 204 }, { hash := PyData.keyHash P (Str.ofString "details"), key := Value.str (Str.ofString "details") 453, val := Value.ref 211 }, { hash := PyData.keyHash P (Str.ofString "factor"), key := Value.str (Str.ofString "factor") 461, val := Value.ref 218 }, { hash := PyData.keyHash P (Str.ofString "__static_attributes__"), key := Value.str (Str.ofString "__static_attributes__") 465, val := Value.ref 219 }, { hash := PyData.keyHash P (Str.ofString "__doc__"), key := Value.str (Str.ofString "__doc__") 466, val := Value.none }] 2 }) ::
  (nat_lit 221, { cls := Value.type "type", data := Data.cls { name := Str.ofString "Scaling", bases := [Value.ref 186], mro := [Value.ref 221, Value.ref 186, Value.type "object"], ns := 220, qualname := Str.ofString "Scaling", subclasses := [Value.ref 248, Value.ref 275] }, slots := #[some (Value.ref 191), none, some (Value.str (Str.ofString "Scaling") 424), some (Value.str (Str.ofString "Scaling") 432), some (Value.builtin "object.__new__"), some (Value.bool true)] }) ::
  (nat_lit 224, { cls := Value.type "tuple", data := Data.seq #[Value.ref 221] }) ::
  (nat_lit 231, { cls := Value.type "dict", data := Data.dict #[{ hash := PyData.keyHash P (Str.ofString "cover"), key := Value.str (Str.ofString "cover") 483, val := Value.bool false }] 1 }) ::
  (nat_lit 232, { cls := Value.type "tuple", data := Data.seq #[] }) ::
  (nat_lit 234, { cls := Value.type "tuple", data := Data.seq #[Value.str (Str.ofString "self") 487, Value.str (Str.ofString "width") 488, Value.str (Str.ofString "height") 489, Value.str (Str.ofString "cover") 490] }) ::
  (nat_lit 235, { cls := Value.type "tuple", data := Data.seq #[] }) ::
  (nat_lit 237, { cls := Value.type "code", data := Data.fields #[Value.str (Str.ofString "__init__") 484, Value.str (Str.ofString "Shrink.__init__") 485, Value.str (Str.ofString "/claim/cut.py") 486, Value.int 74 0, Value.int 3 0, Value.int 0 0, Value.int 1 0, Value.int 3 0, Value.ref 232, Value.bool true, Value.int 181 0, Value.ref 233, Value.none, Value.ref 234, Value.ref 235, Value.ref 236, Value.int 491 0, Value.int 74 0, Value.str (Str.ofString "/claim/cut.py") 492] }) ::
  (nat_lit 238, ⟨Value.type "function", none, Data.func (PySem.W.fnOf (Str.ofString "__init__") (Str.ofString "Shrink.__init__") (L2.defArgs s_Shrink_init) (L2.defBody s_Shrink_init) (L2.defScope s_Shrink_init) (Value.none) (Value.ref 231) (Value.none) (Value.str (Str.ofString "sizechains.steps") 341) (none) (Value.ref 237) (Value.none)), #[]⟩) ::
  (nat_lit 239, { cls := Value.type "tuple", data := Data.seq #[] }) ::
  (nat_lit 241, { cls := Value.type "tuple", data := Data.seq #[Value.str (Str.ofString "self") 497, Value.str (Str.ofString "size") 498] }) ::
  (nat_lit 242, { cls := Value.type "tuple", data := Data.seq #[] }) ::
  (nat_lit 244, { cls := Value.type "code", data := Data.fields #[Value.str (Str.ofString "apply") 494, Value.str (Str.ofString "Shrink.apply") 495, Value.str (Str.ofString "/claim/cut.py") 496, Value.int 77 0, Value.int 2 0, Value.int 0 0, Value.int 0 0, Value.int 3 0, Value.ref 239, Value.bool true, Value.int 181 0, Value.ref 240, Value.none, Value.ref 241, Value.ref 242, Value.ref 243, Value.int 499 0, Value.int 77 0, Value.str (Str.ofString "/claim/cut.py") 500] }) ::
  (nat_lit 245, ⟨Value.type "function", none, Data.func (PySem.W.fnOf (Str.ofString "apply") (Str.ofString "Shrink.apply") (L2.defArgs s_Shrink_apply) (L2.defBody s_Shrink_apply) (L2.defScope s_Shrink_apply) (Value.none) (Value.none) (Value.none) (Value.str (Str.ofString "sizechains.steps") 341) (none) (Value.ref 244) (Value.none)), #[]⟩) ::
  (nat_lit 246, { cls := Value.type "tuple", data := Data.seq #[] }) ::
  (nat_lit 247, { cls := Value.type "dict", data := Data.dict #[{ hash := PyData.keyHash P (Str.ofString "__module__"), key := Value.str (Str.ofString "__module__") 476, val := Value.str (Str.ofString "sizechains.steps") 341 }, { hash := PyData.keyHash P (Str.ofString "__firstlineno__"), key := Value.str (Str.ofString "__firstlineno__") 480, val := Value.int 71 479 }, { hash := PyData.keyHash P (Str.ofString "WORD"), key := Value.str (Str.ofString "WORD") 482, val := Value.str (Str.ofString "shrink") 481 }, { hash := PyData.keyHash P (Str.ofString "__init__"), key := Value.str (Str.ofString "__init__") 493, val := Value.ref 238 }, { hash := PyData.keyHash P (Str.ofString "apply"), key := Value.str (Str.ofString "apply") 501, val := Value.ref 245 }, { hash := PyData.keyHash P (Str.ofString "__static_attributes__"), key := Value.str (Str.ofString "__static_attributes__") 502, val := Value.ref 246 }, { hash := PyData.keyHash P (Str.ofString "__doc__"), key := Value.str (Str.ofString "__doc__") 503, val := Value.none }] 2 }) ::
  (nat_lit 248, { cls := Value.type "type", data := Data.cls { name := Str.ofString "Shrink", bases := [Value.ref 221], mro := [Value.ref 248, Value.ref 221, Value.ref 186, Value.type "object"], ns := 247, qualname := Str.ofString "Shrink" }, slots := #[some (Value.ref 224), none, some (Value.str (Str.ofString "Shrink") 469), some (Value.str (Str.ofString "Shrink") 477), some (Value.builtin "object.__new__"), some (Value.bool true)] }) ::
  (nat_lit 251, { cls := Value.type "tuple", data := Data.seq #[Value.ref 221] }) ::
  (nat_lit 258, { cls := Value.type "dict", data := Data.dict #[{ hash := PyData.keyHash P (Str.ofString "cover"), key := Value.str (Str.ofString "cover") 520, val := Value.bool false }] 1 }) ::
  (nat_lit 259, { cls := Value.type "tuple", data := Data.seq #[] }) ::
  (nat_lit 261, { cls := Value.type "tuple", data := Data.seq #[Value.str (Str.ofString "self") 524, Value.str (Str.ofString "width") 525, Value.str (Str.ofString "height") 526, Value.str (Str.ofString "cover") 527] }) ::
  (nat_lit 262, { cls := Value.type "tuple", data := Data.seq #[] }) ::
  (nat_lit 264, { cls := Value.type "code", data := Data.fields #[Value.str (Str.ofString "__init__") 521, Value.str (Str.ofString "Grow.__init__") 522, Value.str (Str.ofString "/claim/cut.py") 523, Value.int 82 0, Value.int 3 0, Value.int 0 0, Value.int 1 0, Value.int 3 0, Value.ref 259, Value.bool true, Value.int 181 0, Value.ref 260, Value.none, Value.ref 261, Value.ref 262, Value.ref 263, Value.int 528 0, Value.int 82 0, Value.str (Str.ofString "/claim/cut.py") 529] }) ::
  (nat_lit 265, ⟨Value.type "function", none, Data.func (PySem.W.fnOf (Str.ofString "__init__") (Str.ofString "Grow.__init__") (L2.defArgs s_Grow_init) (L2.defBody s_Grow_init) (L2.defScope s_Grow_init) (Value.none) (Value.ref 258) (Value.none) (Value.str (Str.ofString "sizechains.steps") 341) (none) (Value.ref 264) (Value.none)), #[]⟩) ::
  (nat_lit 266, { cls := Value.type "tuple", data := Data.seq #[] }) ::
  (nat_lit 268, { cls := Value.type "tuple", data := Data.seq #[Value.str (Str.ofString "self") 534, Value.str (Str.ofString "size") 535] }) ::
  (nat_lit 269, { cls := Value.type "tuple", data := Data.seq #[] }) ::
  (nat_lit 271, { cls := Value.type "code", data := Data.fields #[Value.str (Str.ofString "apply") 531, Value.str (Str.ofString "Grow.apply") 532, Value.str (Str.ofString "/claim/cut.py") 533, Value.int 85 0, Value.int 2 0, Value.int 0 0, Value.int 0 0, Value.int 3 0, Value.ref 266, Value.bool true, Value.int 181 0, Value.ref 267, Value.none, Value.ref 268, Value.ref 269, Value.ref 270, Value.int 536 0, Value.int 85 0, Value.str (Str.ofString "/claim/cut.py") 537] }) ::
  (nat_lit 272, ⟨Value.type "function", none, Data.func (PySem.W.fnOf (Str.ofString "apply") (Str.ofString "Grow.apply") (L2.defArgs s_Grow_apply) (L2.defBody s_Grow_apply) (L2.defScope s_Grow_apply) (Value.none) (Value.none) (Value.none) (Value.str (Str.ofString "sizechains.steps") 341) (none) (Value.ref 271) (Value.none)), #[]⟩) ::
  (nat_lit 273, { cls := Value.type "tuple", data := Data.seq #[] }) ::
  (nat_lit 274, { cls := Value.type "dict", data := Data.dict #[{ hash := PyData.keyHash P (Str.ofString "__module__"), key := Value.str (Str.ofString "__module__") 513, val := Value.str (Str.ofString "sizechains.steps") 341 }, { hash := PyData.keyHash P (Str.ofString "__firstlineno__"), key := Value.str (Str.ofString "__firstlineno__") 517, val := Value.int 79 516 }, { hash := PyData.keyHash P (Str.ofString "WORD"), key := Value.str (Str.ofString "WORD") 519, val := Value.str (Str.ofString "grow") 518 }, { hash := PyData.keyHash P (Str.ofString "__init__"), key := Value.str (Str.ofString "__init__") 530, val := Value.ref 265 }, { hash := PyData.keyHash P (Str.ofString "apply"), key := Value.str (Str.ofString "apply") 538, val := Value.ref 272 }, { hash := PyData.keyHash P (Str.ofString "__static_attributes__"), key := Value.str (Str.ofString "__static_attributes__") 539, val := Value.ref 273 }, { hash := PyData.keyHash P (Str.ofString "__doc__"), key := Value.str (Str.ofString "__doc__") 540, val := Value.none }] 2 }) ::
  (nat_lit 275, { cls := Value.type "type", data := Data.cls { name := Str.ofString "Grow", bases := [Value.ref 221], mro := [Value.ref 275, Value.ref 221, Value.ref 186, Value.type "object"], ns := 274, qualname := Str.ofString "Grow" }, slots := #[some (Value.ref 251), none, some (Value.str (Str.ofString "Grow") 506), some (Value.str (Str.ofString "Grow") 514), some (Value.builtin "object.__new__"), some (Value.bool true)] }) ::
  (nat_lit 278, { cls := Value.type "tuple", data := Data.seq #[Value.ref 186] }) ::
  (nat_lit 285, { cls := Value.type "tuple", data := Data.seq #[] }) ::
  (nat_lit 287, { cls := Value.type "tuple", data := Data.seq #[Value.str (Str.ofString "self") 558, Value.str (Str.ofString "width") 559, Value.str (Str.ofString "height") 560, Value.str (Str.ofString "keep") 561, Value.str (Str.ofString "words") 562] }) ::
  (nat_lit 288, { cls := Value.type "tuple", data := Data.seq #[] }) ::
  (nat_lit 290, { cls := Value.type "code", data := Data.fields #[Value.str (Str.ofString "__init__") 555, Value.str (Str.ofString "Crop.__init__") 556, Value.str (Str.ofString "/claim/cut.py") 557, Value.int 89 0, Value.int 5 0, Value.int 0 0, Value.int 0 0, Value.int 3 0, Value.ref 285, Value.bool true, Value.int 181 0, Value.ref 286, Value.none, Value.ref 287, Value.ref 288, Value.ref 289, Value.int 563 0, Value.int 89 0, Value.str (Str.ofString "/claim/cut.py") 564] }) ::
  (nat_lit 291, ⟨Value.type "function", none, Data.func (PySem.W.fnOf (Str.ofString "__init__") (Str.ofString "Crop.__init__") (L2.defArgs s_Crop_init) (L2.defBody s_Crop_init) (L2.defScope s_Crop_init) (Value.none) (Value.none) (Value.none) (Value.str (Str.ofString "sizechains.steps") 341) (none) (Value.ref 290) (Value.none)), #[]⟩) ::
  (nat_lit 292, { cls := Value.type "tuple", data := Data.seq #[] }) ::
  (nat_lit 294, { cls := Value.type "tuple", data := Data.seq #[Value.str (Str.ofString "self") 569] }) ::
  (nat_lit 295, { cls := Value.type "tuple", data := Data.seq #[] }) ::
  (nat_lit 297, { cls := Value.type "code", data := Data.fields #[Value.str (Str.ofString "details") 566, Value.str (Str.ofString "Crop.details") 567, Value.str (Str.ofString "/claim/cut.py") 568, Value.int 97 0, Value.int 1 0, Value.int 0 0, Value.int 0 0, Value.int 3 0, Value.ref 292, Value.bool true, Value.int 181 0, Value.ref 293, Value.none, Value.ref 294, Value.ref 295, Value.ref 296, Value.int 570 0, Value.int 97 0, Value.str (Str.ofString "/claim/cut.py") 571] }) ::
  (nat_lit 298, ⟨Value.type "function", none, Data.func (PySem.W.fnOf (Str.ofString "details") (Str.ofString "Crop.details") (L2.defArgs s_Crop_details) (L2.defBody s_Crop_details) (L2.defScope s_Crop_details) (Value.none) (Value.none) (Value.none) (Value.str (Str.ofString "sizechains.steps") 341) (none) (Value.ref 297) (Value.none)), #[]⟩) ::
  (nat_lit 299, { cls := Value.type "tuple", data := Data.seq #[Value.str (Str.ofString "height") 573, Value.str (Str.ofString "keep") 574, Value.str (Str.ofString "width") 575] }) ::
  (nat_lit 300, { cls := Value.type "dict", data := Data.dict #[{ hash := PyData.keyHash P (Str.ofString "__module__"), key := Value.str (Str.ofString "__module__") 550, val := Value.str (Str.ofString "sizechains.steps") 341 }, { hash := PyData.keyHash P (Str.ofString "__firstlineno__"), key := Value.str (Str.ofString "__firstlineno__") 554, val := Value.int 87 553 }, { hash := PyData.keyHash P (Str.ofString "__init__"), key := Value.str (Str.ofString "__init__") 565, val := Value.ref 291 }, { hash := PyData.keyHash P (Str.ofString "details"), key := Value.str (Str.ofString "details") 572, val := Value.ref 298 }, { hash := PyData.keyHash P (Str.ofString "__static_attributes__"), key := Value.str (Str.ofString "__static_attributes__") 576, val := Value.ref 299 }, { hash := PyData.keyHash P (Str.ofString "__doc__"), key := Value.str (Str.ofString "__doc__") 577, val := Value.none }] 2 }) ::
  (nat_lit 301, { cls := Value.type "type", data := Data.cls { name := Str.ofString "Crop", bases := [Value.ref 186], mro := [Value.ref 301, Value.ref 186, Value.type "object"], ns := 300, qualname := Str.ofString "Crop", subclasses := [Value.ref 329, Value.ref 357] }, slots := #[some (Value.ref 278), none, some (Value.str (Str.ofString "Crop") 543), some (Value.str (Str.ofString "Crop") 551), some (Value.builtin "object.__new__"), some (Value.bool true)] }) ::
  (nat_lit 304, { cls := Value.type "tuple", data := Data.seq #[Value.ref 301] }) ::
  (nat_lit 311, { cls := Value.type "tuple", data := Data.seq #[Value.str (Str.ofString "left") 594, Value.str (Str.ofString "center") 595, Value.str (Str.ofString "right") 596] }) ::
  (nat_lit 312, { cls := Value.type "dict", data := Data.dict #[{ hash := PyData.keyHash P (Str.ofString "keep"), key := Value.str (Str.ofString "keep") 599, val := Value.str (Str.ofString "center") 598 }] 1 }) ::
  (nat_lit 313, { cls := Value.type "tuple", data := Data.seq #[] }) ::
  (nat_lit 315, { cls := Value.type "tuple", data := Data.seq #[Value.str (Str.ofString "self") 603, Value.str (Str.ofString "width") 604, Value.str (Str.ofString "height") 605, Value.str (Str.ofString "keep") 606] }) ::
  (nat_lit 316, { cls := Value.type "tuple", data := Data.seq #[] }) ::
  (nat_lit 318, { cls := Value.type "code", data := Data.fields #[Value.str (Str.ofString "__init__") 600, Value.str (Str.ofString "CropWidth.__init__") 601, Value.str (Str.ofString "/claim/cut.py") 602, Value.int 103 0, Value.int 3 0, Value.int 0 0, Value.int 1 0, Value.int 3 0, Value.ref 313, Value.bool true, Value.int 181 0, Value.ref 314, Value.none, Value.ref 315, Value.ref 316, Value.ref 317, Value.int 607 0, Value.int 103 0, Value.str (Str.ofString "/claim/cut.py") 608] }) ::
  (nat_lit 319, ⟨Value.type "function", none, Data.func (PySem.W.fnOf (Str.ofString "__init__") (Str.ofString "CropWidth.__init__") (L2.defArgs s_CropWidth_init) (L2.defBody s_CropWidth_init) (L2.defScope s_CropWidth_init) (Value.none) (Value.ref 312) (Value.none) (Value.str (Str.ofString "sizechains.steps") 341) (none) (Value.ref 318) (Value.none)), #[]⟩) ::
  (nat_lit 320, { cls := Value.type "tuple", data := Data.seq #[] }) ::
  (nat_lit 322, { cls := Value.type "tuple", data := Data.seq #[Value.str (Str.ofString "self") 613, Value.str (Str.ofString "size") 614] }) ::
  (nat_lit 323, { cls := Value.type "tuple", data := Data.seq #[] }) ::
  (nat_lit 325, { cls := Value.type "code", data := Data.fields #[Value.str (Str.ofString "apply") 610, Value.str (Str.ofString "CropWidth.apply") 611, Value.str (Str.ofString "/claim/cut.py") 612, Value.int 106 0, Value.int 2 0, Value.int 0 0, Value.int 0 0, Value.int 3 0, Value.ref 320, Value.bool true, Value.int 181 0, Value.ref 321, Value.none, Value.ref 322, Value.ref 323, Value.ref 324, Value.int 615 0, Value.int 106 0, Value.str (Str.ofString "/claim/cut.py") 616] }) ::
  (nat_lit 326, ⟨Value.type "function", none, Data.func (PySem.W.fnOf (Str.ofString "apply") (Str.ofString "CropWidth.apply") (L2.defArgs s_CropWidth_apply) (L2.defBody s_CropWidth_apply) (L2.defScope s_CropWidth_apply) (Value.none) (Value.none) (Value.none) (Value.str (Str.ofString "sizechains.steps") 341) (none) (Value.ref 325) (Value.none)), #[]⟩) ::
  (nat_lit 327, { cls := Value.type "tuple", data := Data.seq #[] }) ::
  (nat_lit 328, { cls := Value.type "dict", data := Data.dict #[{ hash := PyData.keyHash P (Str.ofString "__module__"), key := Value.str (Str.ofString "__module__") 587, val := Value.str (Str.ofString "sizechains.steps") 341 }, { hash := PyData.keyHash P (Str.ofString "__firstlineno__"), key := Value.str (Str.ofString "__firstlineno__") 591, val := Value.int 99 590 }, { hash := PyData.keyHash P (Str.ofString "WORD"), key := Value.str (Str.ofString "WORD") 593, val := Value.str (Str.ofString "width") 592 }, { hash := PyData.keyHash P (Str.ofString "KEEPS"), key := Value.str (Str.ofString "KEEPS") 597, val := Value.ref 311 }, { hash := PyData.keyHash P (Str.ofString "__init__"), key := Value.str (Str.ofString "__init__") 609, val := Value.ref 319 }, { hash := PyData.keyHash P (Str.ofString "apply"), key := Value.str (Str.ofString "apply") 617, val := Value.ref 326 }, { hash := PyData.keyHash P (Str.ofString "__static_attributes__"), key := Value.str (Str.ofString "__static_attributes__") 618, val := Value.ref 327 }, { hash := PyData.keyHash P (Str.ofString "__doc__"), key := Value.str (Str.ofString "__doc__") 619, val := Value.none }] 2 }) ::
  (nat_lit 329, { cls := Value.type "type", data := Data.cls { name := Str.ofString "CropWidth", bases := [Value.ref 301], mro := [Value.ref 329, Value.ref 301, Value.ref 186, Value.type "object"], ns := 328, qualname := Str.ofString "CropWidth" }, slots := #[some (Value.ref 304), none, some (Value.str (Str.ofString "CropWidth") 580), some (Value.str (Str.ofString "CropWidth") 588), some (Value.builtin "object.__new__"), some (Value.bool true)] }) ::
  (nat_lit 332, { cls := Value.type "tuple", data := Data.seq #[Value.ref 301] }) ::
  (nat_lit 339, { cls := Value.type "tuple", data := Data.seq #[Value.str (Str.ofString "top") 636, Value.str (Str.ofString "center") 637, Value.str (Str.ofString "bottom") 638] }) ::
  (nat_lit 340, { cls := Value.type "dict", data := Data.dict #[{ hash := PyData.keyHash P (Str.ofString "keep"), key := Value.str (Str.ofString "keep") 641, val := Value.str (Str.ofString "center") 640 }] 1 }) ::
  (nat_lit 341, { cls := Value.type "tuple", data := Data.seq #[] }) ::
  (nat_lit 343, { cls := Value.type "tuple", data := Data.seq #[Value.str (Str.ofString "self") 645, Value.str (Str.ofString "width") 646, Value.str (Str.ofString "height") 647, Value.str (Str.ofString "keep") 648] }) ::
  (nat_lit 344, { cls := Value.type "tuple", data := Data.seq #[] }) ::
  (nat_lit 346, { cls := Value.type "code", data := Data.fields #[Value.str (Str.ofString "__init__") 642, Value.str (Str.ofString "CropHeight.__init__") 643, Value.str (Str.ofString "/claim/cut.py") 644, Value.int 112 0, Value.int 3 0, Value.int 0 0, Value.int 1 0, Value.int 3 0, Value.ref 341, Value.bool true, Value.int 181 0, Value.ref 342, Value.none, Value.ref 343, Value.ref 344, Value.ref 345, Value.int 649 0, Value.int 112 0, Value.str (Str.ofString "/claim/cut.py") 650] }) ::
  (nat_lit 347, ⟨Value.type "function", none, Data.func (PySem.W.fnOf (Str.ofString "__init__") (Str.ofString "CropHeight.__init__") (L2.defArgs s_CropHeight_init) (L2.defBody s_CropHeight_init) (L2.defScope s_CropHeight_init) (Value.none) (Value.ref 340) (Value.none) (Value.str (Str.ofString "sizechains.steps") 341) (none) (Value.ref 346) (Value.none)), #[]⟩) ::
  (nat_lit 348, { cls := Value.type "tuple", data := Data.seq #[] }) ::
  (nat_lit 350, { cls := Value.type "tuple", data := Data.seq #[Value.str (Str.ofString "self") 655, Value.str (Str.ofString "size") 656] }) ::
  (nat_lit 351, { cls := Value.type "tuple", data := Data.seq #[] }) ::
  (nat_lit 353, { cls := Value.type "code", data := Data.fields #[Value.str (Str.ofString "apply") 652, Value.str (Str.ofString "CropHeight.apply") 653, Value.str (Str.ofString "/claim/cut.py") 654, Value.int 115 0, Value.int 2 0, Value.int 0 0, Value.int 0 0, Value.int 3 0, Value.ref 348, Value.bool true, Value.int 181 0, Value.ref 349, Value.none, Value.ref 350, Value.ref 351, Value.ref 352, Value.int 657 0, Value.int 115 0, Value.str (Str.ofString "/claim/cut.py") 658] }) ::
  (nat_lit 354, ⟨Value.type "function", none, Data.func (PySem.W.fnOf (Str.ofString "apply") (Str.ofString "CropHeight.apply") (L2.defArgs s_CropHeight_apply) (L2.defBody s_CropHeight_apply) (L2.defScope s_CropHeight_apply) (Value.none) (Value.none) (Value.none) (Value.str (Str.ofString "sizechains.steps") 341) (none) (Value.ref 353) (Value.none)), #[]⟩) ::
  (nat_lit 355, { cls := Value.type "tuple", data := Data.seq #[] }) ::
  (nat_lit 356, { cls := Value.type "dict", data := Data.dict #[{ hash := PyData.keyHash P (Str.ofString "__module__"), key := Value.str (Str.ofString "__module__") 629, val := Value.str (Str.ofString "sizechains.steps") 341 }, { hash := PyData.keyHash P (Str.ofString "__firstlineno__"), key := Value.str (Str.ofString "__firstlineno__") 633, val := Value.int 108 632 }, { hash := PyData.keyHash P (Str.ofString "WORD"), key := Value.str (Str.ofString "WORD") 635, val := Value.str (Str.ofString "height") 634 }, { hash := PyData.keyHash P (Str.ofString "KEEPS"), key := Value.str (Str.ofString "KEEPS") 639, val := Value.ref 339 }, { hash := PyData.keyHash P (Str.ofString "__init__"), key := Value.str (Str.ofString "__init__") 651, val := Value.ref 347 }, { hash := PyData.keyHash P (Str.ofString "apply"), key := Value.str (Str.ofString "apply") 659, val := Value.ref 354 }, { hash := PyData.keyHash P (Str.ofString "__static_attributes__"), key := Value.str (Str.ofString "__static_attributes__") 660, val := Value.ref 355 }, { hash := PyData.keyHash P (Str.ofString "__doc__"), key := Value.str (Str.ofString "__doc__") 661, val := Value.none }] 2 }) ::
  (nat_lit 357, { cls := Value.type "type", data := Data.cls { name := Str.ofString "CropHeight", bases := [Value.ref 301], mro := [Value.ref 357, Value.ref 301, Value.ref 186, Value.type "object"], ns := 356, qualname := Str.ofString "CropHeight" }, slots := #[some (Value.ref 332), none, some (Value.str (Str.ofString "CropHeight") 622), some (Value.str (Str.ofString "CropHeight") 630), some (Value.builtin "object.__new__"), some (Value.bool true)] }) ::
  (nat_lit 360, { cls := Value.type "tuple", data := Data.seq #[Value.ref 186] }) ::
  (nat_lit 367, { cls := Value.type "tuple", data := Data.seq #[Value.int 1 678] }) ::
  (nat_lit 368, { cls := Value.type "tuple", data := Data.seq #[] }) ::
  (nat_lit 370, { cls := Value.type "tuple", data := Data.seq #[Value.str (Str.ofString "self") 682, Value.str (Str.ofString "times") 683] }) ::
  (nat_lit 371, { cls := Value.type "tuple", data := Data.seq #[] }) ::
  (nat_lit 373, { cls := Value.type "code", data := Data.fields #[Value.str (Str.ofString "__init__") 679, Value.str (Str.ofString "Turn.__init__") 680, Value.str (Str.ofString "/claim/cut.py") 681, Value.int 120 0, Value.int 2 0, Value.int 0 0, Value.int 0 0, Value.int 3 0, Value.ref 368, Value.bool true, Value.int 181 0, Value.ref 369, Value.none, Value.ref 370, Value.ref 371, Value.ref 372, Value.int 684 0, Value.int 120 0, Value.str (Str.ofString "/claim/cut.py") 685] }) ::
  (nat_lit 374, ⟨Value.type "function", none, Data.func (PySem.W.fnOf (Str.ofString "__init__") (Str.ofString "Turn.__init__") (L2.defArgs s_Turn_init) (L2.defBody s_Turn_init) (L2.defScope s_Turn_init) (Value.ref 367) (Value.none) (Value.none) (Value.str (Str.ofString "sizechains.steps") 341) (none) (Value.ref 373) (Value.none)), #[]⟩) ::
  (nat_lit 375, { cls := Value.type "tuple", data := Data.seq #[] }) ::
  (nat_lit 377, { cls := Value.type "tuple", data := Data.seq #[Value.str (Str.ofString "self") 690] }) ::
  (nat_lit 378, { cls := Value.type "tuple", data := Data.seq #[] }) ::
  (nat_lit 380, { cls := Value.type "code", data := Data.fields #[Value.str (Str.ofString "details") 687, Value.str (Str.ofString "Turn.details") 688, Value.str (Str.ofString "/claim/cut.py") 689, Value.int 125 0, Value.int 1 0, Value.int 0 0, Value.int 0 0, Value.int 3 0, Value.ref 375, Value.bool true, Value.int 181 0, Value.ref 376, Value.none, Value.ref 377, Value.ref 378, Value.ref 379, Value.int 691 0, Value.int 125 0, Value.str (Str.ofString "/claim/cut.py") 692] }) ::
  (nat_lit 381, ⟨Value.type "function", none, Data.func (PySem.W.fnOf (Str.ofString "details") (Str.ofString "Turn.details") (L2.defArgs s_Turn_details) (L2.defBody s_Turn_details) (L2.defScope s_Turn_details) (Value.none) (Value.none) (Value.none) (Value.str (Str.ofString "sizechains.steps") 341) (none) (Value.ref 380) (Value.none)), #[]⟩) ::
  (nat_lit 382, { cls := Value.type "tuple", data := Data.seq #[] }) ::
  (nat_lit 384, { cls := Value.type "tuple", data := Data.seq #[Value.str (Str.ofString "self") 697, Value.str (Str.ofString "size") 698] }) ::
  (nat_lit 385, { cls := Value.type "tuple", data := Data.seq #[] }) ::
  (nat_lit 387, { cls := Value.type "code", data := Data.fields #[Value.str (Str.ofString "apply") 694, Value.str (Str.ofString "Turn.apply") 695, Value.str (Str.ofString "/claim/cut.py") 696, Value.int 128 0, Value.int 2 0, Value.int 0 0, Value.int 0 0, Value.int 3 0, Value.ref 382, Value.bool true, Value.int 181 0, Value.ref 383, Value.none, Value.ref 384, Value.ref 385, Value.ref 386, Value.int 699 0, Value.int 128 0, Value.str (Str.ofString "/claim/cut.py") 700] }) ::
  (nat_lit 388, ⟨Value.type "function", none, Data.func (PySem.W.fnOf (Str.ofString "apply") (Str.ofString "Turn.apply") (L2.defArgs s_Turn_apply) (L2.defBody s_Turn_apply) (L2.defScope s_Turn_apply) (Value.none) (Value.none) (Value.none) (Value.str (Str.ofString "sizechains.steps") 341) (none) (Value.ref 387) (Value.none)), #[]⟩) ::
  (nat_lit 389, { cls := Value.type "tuple", data := Data.seq #[Value.str (Str.ofString "times") 702] }) ::
  (nat_lit 390, { cls := Value.type "dict", data := Data.dict #[{ hash := PyData.keyHash P (Str.ofString "__module__"), key := Value.str (Str.ofString "__module__") 671, val := Value.str (Str.ofString "sizechains.steps") 341 }, { hash := PyData.keyHash P (Str.ofString "__firstlineno__"), key := Value.str (Str.ofString "__firstlineno__") 675, val := Value.int 117 674 }, { hash := PyData.keyHash P (Str.ofString "WORD"), key := Value.str (Str.ofString "WORD") 677, val := Value.str (Str.ofString "turn") 676 }, { hash := PyData.keyHash P (Str.ofString "__init__"), key := Value.str (Str.ofString "__init__") 686, val := Value.ref 374 }, { hash := PyData.keyHash P (Str.ofString "details"), key := Value.str (Str.ofString "details") 693, val := Value.ref 381 }, { hash := PyData.keyHash P (Str.ofString "apply"), key := Value.str (Str.ofString "apply") 701, val := Value.ref 388 }, { hash := PyData.keyHash P (Str.ofString "__static_attributes__"), key := Value.str (Str.ofString "__static_attributes__") 703, val := Value.ref 389 }, { hash := PyData.keyHash P (Str.ofString "__doc__"), key := Value.str (Str.ofString "__doc__") 704, val := Value.none }] 2 }) ::
  (nat_lit 391, { cls := Value.type "type", data := Data.cls { name := Str.ofString "Turn", bases := [Value.ref 186], mro := [Value.ref 391, Value.ref 186, Value.type "object"], ns := 390, qualname := Str.ofString "Turn" }, slots := #[some (Value.ref 360), none, some (Value.str (Str.ofString "Turn") 664), some (Value.str (Str.ofString "Turn") 672), some (Value.builtin "object.__new__"), some (Value.bool true)] }) ::
  (nat_lit 394, { cls := Value.type "tuple", data := Data.seq #[Value.ref 186] }) ::
  (nat_lit 401, { cls := Value.type "tuple", data := Data.seq #[] }) ::
  (nat_lit 403, { cls := Value.type "tuple", data := Data.seq #[Value.str (Str.ofString "self") 724, Value.str (Str.ofString "size") 725] }) ::
  (nat_lit 404, { cls := Value.type "tuple", data := Data.seq #[] }) ::
  (nat_lit 406, { cls := Value.type "code", data := Data.fields #[Value.str (Str.ofString "apply") 721, Value.str (Str.ofString "Landscape.apply") 722, Value.str (Str.ofString "/claim/cut.py") 723, Value.int 133 0, Value.int 2 0, Value.int 0 0, Value.int 0 0, Value.int 3 0, Value.ref 401, Value.bool true, Value.int 181 0, Value.ref 402, Value.none, Value.ref 403, Value.ref 404, Value.ref 405, Value.int 726 0, Value.int 133 0, Value.str (Str.ofString "/claim/cut.py") 727] }) ::
  (nat_lit 407, ⟨Value.type "function", none, Data.func (PySem.W.fnOf (Str.ofString "apply") (Str.ofString "Landscape.apply") (L2.defArgs s_Landscape_apply) (L2.defBody s_Landscape_apply) (L2.defScope s_Landscape_apply) (Value.none) (Value.none) (Value.none) (Value.str (Str.ofString "sizechains.steps") 341) (none) (Value.ref 406) (Value.none)), #[]⟩) ::
  (nat_lit 408, { cls := Value.type "tuple", data := Data.seq #[] }) ::
  (nat_lit 409, { cls := Value.type "dict", data := Data.dict #[{ hash := PyData.keyHash P (Str.ofString "__module__"), key := Value.str (Str.ofString "__module__") 714, val := Value.str (Str.ofString "sizechains.steps") 341 }, { hash := PyData.keyHash P (Str.ofString "__firstlineno__"), key := Value.str (Str.ofString "__firstlineno__") 718, val := Value.int 130 717 }, { hash := PyData.keyHash P (Str.ofString "WORD"), key := Value.str (Str.ofString "WORD") 720, val := Value.str (Str.ofString "landscape") 719 }, { hash := PyData.keyHash P (Str.ofString "apply"), key := Value.str (Str.ofString "apply") 728, val := Value.ref 407 }, { hash := PyData.keyHash P (Str.ofString "__static_attributes__"), key := Value.str (Str.ofString "__static_attributes__") 729, val := Value.ref 408 }, { hash := PyData.keyHash P (Str.ofString "__doc__"), key := Value.str (Str.ofString "__doc__") 730, val := Value.none }] 2 }) ::
  (nat_lit 410, { cls := Value.type "type", data := Data.cls { name := Str.ofString "Landscape", bases := [Value.ref 186], mro := [Value.ref 410, Value.ref 186, Value.type "object"], ns := 409, qualname := Str.ofString "Landscape" }, slots := #[some (Value.ref 394), none, some (Value.str (Str.ofString "Landscape") 707), some (Value.str (Str.ofString "Landscape") 715), some (Value.builtin "object.__new__"), some (Value.bool true)] }) ::
  (nat_lit 413, { cls := Value.type "tuple", data := Data.seq #[Value.ref 186] }) ::
  (nat_lit 420, { cls := Value.type "tuple", data := Data.seq #[] }) ::
  (nat_lit 422, { cls := Value.type "tuple", data := Data.seq #[Value.str (Str.ofString "self") 750, Value.str (Str.ofString "size") 751] }) ::
  (nat_lit 423, { cls := Value.type "tuple", data := Data.seq #[] }) ::
  (nat_lit 425, { cls := Value.type "code", data := Data.fields #[Value.str (Str.ofString "apply") 747, Value.str (Str.ofString "Portrait.apply") 748, Value.str (Str.ofString "/claim/cut.py") 749, Value.int 138 0, Value.int 2 0, Value.int 0 0, Value.int 0 0, Value.int 3 0, Value.ref 420, Value.bool true, Value.int 181 0, Value.ref 421, Value.none, Value.ref 422, Value.ref 423, Value.ref 424, Value.int 752 0, Value.int 138 0, Value.str (Str.ofString "/claim/cut.py") 753] }) ::
  (nat_lit 426, ⟨Value.type "function", none, Data.func (PySem.W.fnOf (Str.ofString "apply") (Str.ofString "Portrait.apply") (L2.defArgs s_Portrait_apply) (L2.defBody s_Portrait_apply) (L2.defScope s_Portrait_apply) (Value.none) (Value.none) (Value.none) (Value.str (Str.ofString "sizechains.steps") 341) (none) (Value.ref 425) (Value.none)), #[]⟩) ::
  (nat_lit 427, { cls := Value.type "tuple", data := Data.seq #[] }) ::
  (nat_lit 428, { cls := Value.type "dict", data := Data.dict #[{ hash := PyData.keyHash P (Str.ofString "__module__"), key := Value.str (Str.ofString "__module__") 740, val := Value.str (Str.ofString "sizechains.steps") 341 }, { hash := PyData.keyHash P (Str.ofString "__firstlineno__"), key := Value.str (Str.ofString "__firstlineno__") 744, val := Value.int 135 743 }, { hash := PyData.keyHash P (Str.ofString "WORD"), key := Value.str (Str.ofString "WORD") 746, val := Value.str (Str.ofString "portrait") 745 }, { hash := PyData.keyHash P (Str.ofString "apply"), key := Value.str (Str.ofString "apply") 754, val := Value.ref 426 }, { hash := PyData.keyHash P (Str.ofString "__static_attributes__"), key := Value.str (Str.ofString "__static_attributes__") 755, val := Value.ref 427 }, { hash := PyData.keyHash P (Str.ofString "__doc__"), key := Value.str (Str.ofString "__doc__") 756, val := Value.none }] 2 }) ::
  (nat_lit 429, { cls := Value.type "type", data := Data.cls { name := Str.ofString "Portrait", bases := [Value.ref 186], mro := [Value.ref 429, Value.ref 186, Value.type "object"], ns := 428, qualname := Str.ofString "Portrait" }, slots := #[some (Value.ref 413), none, some (Value.str (Str.ofString "Portrait") 733), some (Value.str (Str.ofString "Portrait") 741), some (Value.builtin "object.__new__"), some (Value.bool true)] }) ::
  (nat_lit 432, { cls := Value.type "tuple", data := Data.seq #[] }) ::
  (nat_lit 434, { cls := Value.type "tuple", data := Data.seq #[Value.str (Str.ofString "text") 762, Value.str (Str.ofString "sign") 763, Value.str (Str.ofString "width") 764, Value.str (Str.ofString "found") 765, Value.str (Str.ofString "height") 766, Value.str (Str.ofString "numeral") 767] }) ::
  (nat_lit 435, { cls := Value.type "tuple", data := Data.seq #[] }) ::
  (nat_lit 437, { cls := Value.type "code", data := Data.fields #[Value.str (Str.ofString "find_sides") 759, Value.str (Str.ofString "find_sides") 760, Value.str (Str.ofString "/claim/cut.py") 761, Value.int 140 0, Value.int 2 0, Value.int 0 0, Value.int 0 0, Value.int 3 0, Value.ref 432, Value.bool true, Value.int 181 0, Value.ref 433, Value.none, Value.ref 434, Value.ref 435, Value.ref 436, Value.int 768 0, Value.int 140 0, Value.str (Str.ofString "/claim/cut.py") 769] }) ::
  (nat_lit 438, ⟨Value.type "function", none, Data.func (PySem.W.fnOf (Str.ofString "find_sides") (Str.ofString "find_sides") (L2.defArgs s_find_sides) (L2.defBody s_find_sides) (L2.defScope s_find_sides) (Value.none) (Value.none) (Value.none) (Value.str (Str.ofString "sizechains.steps") 341) (none) (Value.ref 437) (Value.none)), #[]⟩) ::
  (nat_lit 439, { cls := Value.type "tuple", data := Data.seq #[] }) ::
  (nat_lit 441, { cls := Value.type "tuple", data := Data.seq #[Value.str (Str.ofString "word") 774, Value.str (Str.ofString "width") 775, Value.str (Str.ofString "height") 776, Value.str (Str.ofString "cover") 777] }) ::
  (nat_lit 442, { cls := Value.type "tuple", data := Data.seq #[] }) ::
  (nat_lit 444, { cls := Value.type "code", data := Data.fields #[Value.str (Str.ofString "scaling") 771, Value.str (Str.ofString "scaling") 772, Value.str (Str.ofString "/claim/cut.py") 773, Value.int 146 0, Value.int 4 0, Value.int 0 0, Value.int 0 0, Value.int 3 0, Value.ref 439, Value.bool true, Value.int 181 0, Value.ref 440, Value.none, Value.ref 441, Value.ref 442, Value.ref 443, Value.int 778 0, Value.int 146 0, Value.str (Str.ofString "/claim/cut.py") 779] }) ::
  (nat_lit 445, ⟨Value.type "function", none, Data.func (PySem.W.fnOf (Str.ofString "scaling") (Str.ofString "scaling") (L2.defArgs s_scaling) (L2.defBody s_scaling) (L2.defScope s_scaling) (Value.none) (Value.none) (Value.none) (Value.str (Str.ofString "sizechains.steps") 341) (none) (Value.ref 444) (Value.none)), #[]⟩) ::
  (nat_lit 446, { cls := Value.type "tuple", data := Data.seq #[] }) ::
  (nat_lit 448, { cls := Value.type "tuple", data := Data.seq #[Value.str (Str.ofString "word") 784, Value.str (Str.ofString "details") 785, Value.str (Str.ofString "sides") 786] }) ::
  (nat_lit 449, { cls := Value.type "tuple", data := Data.seq #[] }) ::
  (nat_lit 451, { cls := Value.type "code", data := Data.fields #[Value.str (Str.ofString "find_scaling") 781, Value.str (Str.ofString "find_scaling") 782, Value.str (Str.ofString "/claim/cut.py") 783, Value.int 150 0, Value.int 2 0, Value.int 0 0, Value.int 0 0, Value.int 3 0, Value.ref 446, Value.bool true, Value.int 181 0, Value.ref 447, Value.none, Value.ref 448, Value.ref 449, Value.ref 450, Value.int 787 0, Value.int 150 0, Value.str (Str.ofString "/claim/cut.py") 788] }) ::
  (nat_lit 452, ⟨Value.type "function", none, Data.func (PySem.W.fnOf (Str.ofString "find_scaling") (Str.ofString "find_scaling") (L2.defArgs s_find_scaling) (L2.defBody s_find_scaling) (L2.defScope s_find_scaling) (Value.none) (Value.none) (Value.none) (Value.str (Str.ofString "sizechains.steps") 341) (none) (Value.ref 451) (Value.none)), #[]⟩) ::
  (nat_lit 453, { cls := Value.type "tuple", data := Data.seq #[] }) ::
  (nat_lit 455, { cls := Value.type "tuple", data := Data.seq #[Value.str (Str.ofString "word") 793, Value.str (Str.ofString "details") 794, Value.str (Str.ofString "sides") 795, Value.str (Str.ofString "keep") 796] }) ::
  (nat_lit 456, { cls := Value.type "tuple", data := Data.seq #[] }) ::
  (nat_lit 458, { cls := Value.type "code", data := Data.fields #[Value.str (Str.ofString "find_crop") 790, Value.str (Str.ofString "find_crop") 791, Value.str (Str.ofString "/claim/cut.py") 792, Value.int 155 0, Value.int 2 0, Value.int 0 0, Value.int 0 0, Value.int 3 0, Value.ref 453, Value.bool true, Value.int 181 0, Value.ref 454, Value.none, Value.ref 455, Value.ref 456, Value.ref 457, Value.int 797 0, Value.int 155 0, Value.str (Str.ofString "/claim/cut.py") 798] }) ::
  (nat_lit 459, ⟨Value.type "function", none, Data.func (PySem.W.fnOf (Str.ofString "find_crop") (Str.ofString "find_crop") (L2.defArgs s_find_crop) (L2.defBody s_find_crop) (L2.defScope s_find_crop) (Value.none) (Value.none) (Value.none) (Value.str (Str.ofString "sizechains.steps") 341) (none) (Value.ref 458) (Value.none)), #[]⟩) ::
  (nat_lit 460, { cls := Value.type "tuple", data := Data.seq #[] }) ::
  (nat_lit 462, { cls := Value.type "tuple", data := Data.seq #[Value.str (Str.ofString "word") 803, Value.str (Str.ofString "details") 804] }) ::
  (nat_lit 463, { cls := Value.type "tuple", data := Data.seq #[] }) ::
  (nat_lit 465, { cls := Value.type "code", data := Data.fields #[Value.str (Str.ofString "find_turn") 800, Value.str (Str.ofString "find_turn") 801, Value.str (Str.ofString "/claim/cut.py") 802, Value.int 165 0, Value.int 2 0, Value.int 0 0, Value.int 0 0, Value.int 3 0, Value.ref 460, Value.bool true, Value.int 181 0, Value.ref 461, Value.none, Value.ref 462, Value.ref 463, Value.ref 464, Value.int 805 0, Value.int 165 0, Value.str (Str.ofString "/claim/cut.py") 806] }) ::
  (nat_lit 466, ⟨Value.type "function", none, Data.func (PySem.W.fnOf (Str.ofString "find_turn") (Str.ofString "find_turn") (L2.defArgs s_find_turn) (L2.defBody s_find_turn) (L2.defScope s_find_turn) (Value.none) (Value.none) (Value.none) (Value.str (Str.ofString "sizechains.steps") 341) (none) (Value.ref 465) (Value.none)), #[]⟩) ::
  (nat_lit 467, { cls := Value.type "tuple", data := Data.seq #[] }) ::
  (nat_lit 469, { cls := Value.type "tuple", data := Data.seq #[Value.str (Str.ofString "text") 811, Value.str (Str.ofString "words") 812, Value.str (Str.ofString "word") 813, Value.str (Str.ofString "details") 814, Value.str (Str.ofString "step") 815] }) ::
  (nat_lit 470, { cls := Value.type "tuple", data := Data.seq #[] }) ::
  (nat_lit 472, { cls := Value.type "code", data := Data.fields #[Value.str (Str.ofString "find_step") 808, Value.str (Str.ofString "find_step") 809, Value.str (Str.ofString "/claim/cut.py") 810, Value.int 173 0, Value.int 1 0, Value.int 0 0, Value.int 0 0, Value.int 3 0, Value.ref 467, Value.bool true, Value.int 181 0, Value.ref 468, Value.none, Value.ref 469, Value.ref 470, Value.ref 471, Value.int 816 0, Value.int 173 0, Value.str (Str.ofString "/claim/cut.py") 817] }) ::
  (nat_lit 473, ⟨Value.type "function", none, Data.func (PySem.W.fnOf (Str.ofString "find_step") (Str.ofString "find_step") (L2.defArgs s_find_step) (L2.defBody s_find_step) (L2.defScope s_find_step) (Value.none) (Value.none) (Value.none) (Value.str (Str.ofString "sizechains.steps") 341) (none) (Value.ref 472) (Value.none)), #[]⟩) ::
  (nat_lit 474, { cls := Value.type "tuple", data := Data.seq #[] }) ::
  (nat_lit 476, { cls := Value.type "tuple", data := Data.seq #[Value.str (Str.ofString "_law_script") 824, Value.str (Str.ofString "_law_k") 825, Value.str (Str.ofString "_law_state") 826, Value.str (Str.ofString "_law_figure") 827] }) ::
  (nat_lit 477, { cls := Value.type "tuple", data := Data.seq #[] }) ::
  (nat_lit 479, { cls := Value.type "code", data := Data.fields #[Value.str (Str.ofString "_law_cell") 821, Value.str (Str.ofString "_law_cell") 822, Value.str (Str.ofString "/claim/cut.py") 823, Value.int 188 0, Value.int 2 0, Value.int 0 0, Value.int 0 0, Value.int 3 0, Value.ref 474, Value.bool true, Value.int 181 0, Value.ref 475, Value.none, Value.ref 476, Value.ref 477, Value.ref 478, Value.int 828 0, Value.int 188 0, Value.str (Str.ofString "/claim/cut.py") 829] }) ::
  (nat_lit 480, ⟨Value.type "function", none, Data.func (PySem.W.fnOf (Str.ofString "_law_cell") (Str.ofString "_law_cell") (L2.defArgs s_l_cell) (L2.defBody s_l_cell) (L2.defScope s_l_cell) (Value.none) (Value.none) (Value.none) (Value.str (Str.ofString "law_sizechains_k18_steps_made") 819) (none) (Value.ref 479) (Value.none)), #[]⟩) ::
  (nat_lit 481, { cls := Value.type "tuple", data := Data.seq #[] }) ::
  (nat_lit 483, { cls := Value.type "tuple", data := Data.seq #[Value.str (Str.ofString "_law_figure") 834, Value.str (Str.ofString "_law_digits") 835] }) ::
  (nat_lit 484, { cls := Value.type "tuple", data := Data.seq #[] }) ::
  (nat_lit 486, { cls := Value.type "code", data := Data.fields #[Value.str (Str.ofString "_law_pool") 831, Value.str (Str.ofString "_law_pool") 832, Value.str (Str.ofString "/claim/cut.py") 833, Value.int 195 0, Value.int 1 0, Value.int 0 0, Value.int 0 0, Value.int 3 0, Value.ref 481, Value.bool true, Value.int 181 0, Value.ref 482, Value.none, Value.ref 483, Value.ref 484, Value.ref 485, Value.int 836 0, Value.int 195 0, Value.str (Str.ofString "/claim/cut.py") 837] }) ::
  (nat_lit 487, ⟨Value.type "function", none, Data.func (PySem.W.fnOf (Str.ofString "_law_pool") (Str.ofString "_law_pool") (L2.defArgs s_l_pool) (L2.defBody s_l_pool) (L2.defScope s_l_pool) (Value.none) (Value.none) (Value.none) (Value.str (Str.ofString "law_sizechains_k18_steps_made") 819) (none) (Value.ref 486) (Value.none)), #[]⟩) ::
  (nat_lit 488, { cls := Value.type "tuple", data := Data.seq #[] }) ::
  (nat_lit 490, { cls := Value.type "tuple", data := Data.seq #[Value.str (Str.ofString "_law_pool_here") 842, Value.str (Str.ofString "_law_most") 843, Value.str (Str.ofString "_law_state") 844, Value.str (Str.ofString "_law_digit") 845] }) ::
  (nat_lit 491, { cls := Value.type "tuple", data := Data.seq #[] }) ::
  (nat_lit 493, { cls := Value.type "code", data := Data.fields #[Value.str (Str.ofString "_law_draw") 839, Value.str (Str.ofString "_law_draw") 840, Value.str (Str.ofString "/claim/cut.py") 841, Value.int 198 0, Value.int 2 0, Value.int 0 0, Value.int 0 0, Value.int 3 0, Value.ref 488, Value.bool true, Value.int 181 0, Value.ref 489, Value.none, Value.ref 490, Value.ref 491, Value.ref 492, Value.int 846 0, Value.int 198 0, Value.str (Str.ofString "/claim/cut.py") 847] }) ::
  (nat_lit 494, ⟨Value.type "function", none, Data.func (PySem.W.fnOf (Str.ofString "_law_draw") (Str.ofString "_law_draw") (L2.defArgs s_l_draw) (L2.defBody s_l_draw) (L2.defScope s_l_draw) (Value.none) (Value.none) (Value.none) (Value.str (Str.ofString "law_sizechains_k18_steps_made") 819) (none) (Value.ref 493) (Value.none)), #[]⟩) ::
  (nat_lit 495, { cls := Value.type "tuple", data := Data.seq #[] }) ::
  (nat_lit 497, { cls := Value.type "tuple", data := Data.seq #[Value.str (Str.ofString "_law_pool_here") 852, Value.str (Str.ofString "_law_great") 853, Value.str (Str.ofString "_law_most") 854] }) ::
  (nat_lit 498, { cls := Value.type "tuple", data := Data.seq #[] }) ::
  (nat_lit 500, { cls := Value.type "code", data := Data.fields #[Value.str (Str.ofString "_law_side") 849, Value.str (Str.ofString "_law_side") 850, Value.str (Str.ofString "/claim/cut.py") 851, Value.int 206 0, Value.int 2 0, Value.int 0 0, Value.int 0 0, Value.int 3 0, Value.ref 495, Value.bool true, Value.int 181 0, Value.ref 496, Value.none, Value.ref 497, Value.ref 498, Value.ref 499, Value.int 855 0, Value.int 206 0, Value.str (Str.ofString "/claim/cut.py") 856] }) ::
  (nat_lit 501, ⟨Value.type "function", none, Data.func (PySem.W.fnOf (Str.ofString "_law_side") (Str.ofString "_law_side") (L2.defArgs s_l_side) (L2.defBody s_l_side) (L2.defScope s_l_side) (Value.none) (Value.none) (Value.none) (Value.str (Str.ofString "law_sizechains_k18_steps_made") 819) (none) (Value.ref 500) (Value.none)), #[]⟩) ::
  (nat_lit 502, { cls := Value.type "tuple", data := Data.seq #[] }) ::
  (nat_lit 504, { cls := Value.type "tuple", data := Data.seq #[Value.str (Str.ofString "_law_pool_here") 861, Value.str (Str.ofString "_law_great") 862, Value.str (Str.ofString "_law_way") 863, Value.str (Str.ofString "_law_one") 864, Value.str (Str.ofString "_law_more") 865] }) ::
  (nat_lit 505, { cls := Value.type "tuple", data := Data.seq #[] }) ::
  (nat_lit 507, { cls := Value.type "code", data := Data.fields #[Value.str (Str.ofString "_law_drawn") 858, Value.str (Str.ofString "_law_drawn") 859, Value.str (Str.ofString "/claim/cut.py") 860, Value.int 209 0, Value.int 2 0, Value.int 0 0, Value.int 0 0, Value.int 3 0, Value.ref 502, Value.bool true, Value.int 181 0, Value.ref 503, Value.none, Value.ref 504, Value.ref 505, Value.ref 506, Value.int 866 0, Value.int 209 0, Value.str (Str.ofString "/claim/cut.py") 867] }) ::
  (nat_lit 508, ⟨Value.type "function", none, Data.func (PySem.W.fnOf (Str.ofString "_law_drawn") (Str.ofString "_law_drawn") (L2.defArgs s_l_drawn) (L2.defBody s_l_drawn) (L2.defScope s_l_drawn) (Value.none) (Value.none) (Value.none) (Value.str (Str.ofString "law_sizechains_k18_steps_made") 819) (none) (Value.ref 507) (Value.none)), #[]⟩) ::
  (nat_lit 509, { cls := Value.type "tuple", data := Data.seq #[] }) ::
  (nat_lit 511, { cls := Value.type "tuple", data := Data.seq #[Value.str (Str.ofString "_law_spec") 872, Value.str (Str.ofString "_law_tail") 873] }) ::
  (nat_lit 512, { cls := Value.type "tuple", data := Data.seq #[] }) ::
  (nat_lit 514, { cls := Value.type "code", data := Data.fields #[Value.str (Str.ofString "_law_shown") 869, Value.str (Str.ofString "_law_shown") 870, Value.str (Str.ofString "/claim/cut.py") 871, Value.int 220 0, Value.int 1 0, Value.int 0 0, Value.int 0 0, Value.int 3 0, Value.ref 509, Value.bool true, Value.int 181 0, Value.ref 510, Value.none, Value.ref 511, Value.ref 512, Value.ref 513, Value.int 874 0, Value.int 220 0, Value.str (Str.ofString "/claim/cut.py") 875] }) ::
  (nat_lit 515, ⟨Value.type "function", none, Data.func (PySem.W.fnOf (Str.ofString "_law_shown") (Str.ofString "_law_shown") (L2.defArgs s_l_shown) (L2.defBody s_l_shown) (L2.defScope s_l_shown) (Value.none) (Value.none) (Value.none) (Value.str (Str.ofString "law_sizechains_k18_steps_made") 819) (none) (Value.ref 514) (Value.none)), #[]⟩) ::
  (nat_lit 516, { cls := Value.type "tuple", data := Data.seq #[] }) ::
  (nat_lit 518, { cls := Value.type "tuple", data := Data.seq #[Value.str (Str.ofString "_law_spec") 880] }) ::
  (nat_lit 519, { cls := Value.type "tuple", data := Data.seq #[] }) ::
  (nat_lit 521, { cls := Value.type "code", data := Data.fields #[Value.str (Str.ofString "_law_made_twice") 877, Value.str (Str.ofString "_law_made_twice") 878, Value.str (Str.ofString "/claim/cut.py") 879, Value.int 227 0, Value.int 1 0, Value.int 0 0, Value.int 0 0, Value.int 3 0, Value.ref 516, Value.bool true, Value.int 181 0, Value.ref 517, Value.none, Value.ref 518, Value.ref 519, Value.ref 520, Value.int 881 0, Value.int 227 0, Value.str (Str.ofString "/claim/cut.py") 882] }) ::
  (nat_lit 522, ⟨Value.type "function", none, Data.func (PySem.W.fnOf (Str.ofString "_law_made_twice") (Str.ofString "_law_made_twice") (L2.defArgs s_l_made_twice) (L2.defBody s_l_made_twice) (L2.defScope s_l_made_twice) (Value.none) (Value.none) (Value.none) (Value.str (Str.ofString "law_sizechains_k18_steps_made") 819) (none) (Value.ref 521) (Value.none)), #[]⟩) ::
  (nat_lit 523, { cls := Value.type "tuple", data := Data.seq #[] }) ::
  (nat_lit 525, { cls := Value.type "tuple", data := Data.seq #[Value.str (Str.ofString "_law_made") 887, Value.str (Str.ofString "_law_found") 888] }) ::
  (nat_lit 526, { cls := Value.type "tuple", data := Data.seq #[] }) ::
  (nat_lit 528, { cls := Value.type "code", data := Data.fields #[Value.str (Str.ofString "_law_classes") 884, Value.str (Str.ofString "_law_classes") 885, Value.str (Str.ofString "/claim/cut.py") 886, Value.int 239 0, Value.int 1 0, Value.int 0 0, Value.int 0 0, Value.int 3 0, Value.ref 523, Value.bool true, Value.int 181 0, Value.ref 524, Value.none, Value.ref 525, Value.ref 526, Value.ref 527, Value.int 889 0, Value.int 239 0, Value.str (Str.ofString "/claim/cut.py") 890] }) ::
  (nat_lit 529, ⟨Value.type "function", none, Data.func (PySem.W.fnOf (Str.ofString "_law_classes") (Str.ofString "_law_classes") (L2.defArgs s_l_classes) (L2.defBody s_l_classes) (L2.defScope s_l_classes) (Value.none) (Value.none) (Value.none) (Value.str (Str.ofString "law_sizechains_k18_steps_made") 819) (none) (Value.ref 528) (Value.none)), #[]⟩) ::
  (nat_lit 530, { cls := Value.type "tuple", data := Data.seq #[] }) ::
  (nat_lit 532, { cls := Value.type "tuple", data := Data.seq #[Value.str (Str.ofString "_law_spec") 895, Value.str (Str.ofString "_law_made") 896] }) ::
  (nat_lit 533, { cls := Value.type "tuple", data := Data.seq #[] }) ::
  (nat_lit 535, { cls := Value.type "code", data := Data.fields #[Value.str (Str.ofString "_law_parts") 892, Value.str (Str.ofString "_law_parts") 893, Value.str (Str.ofString "/claim/cut.py") 894, Value.int 244 0, Value.int 2 0, Value.int 0 0, Value.int 0 0, Value.int 3 0, Value.ref 530, Value.bool true, Value.int 181 0, Value.ref 531, Value.none, Value.ref 532, Value.ref 533, Value.ref 534, Value.int 897 0, Value.int 244 0, Value.str (Str.ofString "/claim/cut.py") 898] }) ::
  (nat_lit 536, ⟨Value.type "function", none, Data.func (PySem.W.fnOf (Str.ofString "_law_parts") (Str.ofString "_law_parts") (L2.defArgs s_l_parts) (L2.defBody s_l_parts) (L2.defScope s_l_parts) (Value.none) (Value.none) (Value.none) (Value.str (Str.ofString "law_sizechains_k18_steps_made") 819) (none) (Value.ref 535) (Value.none)), #[]⟩) ::
  (nat_lit 537, { cls := Value.type "tuple", data := Data.seq #[] }) ::
  (nat_lit 540, { cls := Value.type "code", data := Data.fields #[Value.str (Str.ofString "_law_spec_right") 900, Value.str (Str.ofString "_law_spec_right") 901, Value.str (Str.ofString "/claim/cut.py") 902, Value.int 250 0, Value.int 1 0, Value.int 0 0, Value.int 0 0, Value.int 3 0, Value.ref 537, Value.bool true, Value.int 181 0, Value.ref 538, Value.none, Value.none, Value.none, Value.ref 539, Value.int 903 0, Value.int 250 0, Value.str (Str.ofString "/claim/cut.py") 904] }) ::
  (nat_lit 541, ⟨Value.type "function", none, Data.func (PySem.W.fnOf (Str.ofString "_law_spec_right") (Str.ofString "_law_spec_right") (L2.defArgs s_l_spec_right) (L2.defBody s_l_spec_right) (L2.defScope s_l_spec_right) (Value.none) (Value.none) (Value.none) (Value.str (Str.ofString "law_sizechains_k18_steps_made") 819) (none) (Value.ref 540) (Value.none)), #[]⟩) ::
  (nat_lit 542, { cls := Value.type "tuple", data := Data.seq #[] }) ::
  (nat_lit 544, { cls := Value.type "tuple", data := Data.seq #[Value.str (Str.ofString "_law_one") 909, Value.str (Str.ofString "_law_more") 910, Value.str (Str.ofString "_law_told") 911] }) ::
  (nat_lit 545, { cls := Value.type "tuple", data := Data.seq #[] }) ::
  (nat_lit 547, { cls := Value.type "code", data := Data.fields #[Value.str (Str.ofString "_law_plain_right") 906, Value.str (Str.ofString "_law_plain_right") 907, Value.str (Str.ofString "/claim/cut.py") 908, Value.int 260 0, Value.int 2 0, Value.int 0 0, Value.int 0 0, Value.int 3 0, Value.ref 542, Value.bool true, Value.int 181 0, Value.ref 543, Value.none, Value.ref 544, Value.ref 545, Value.ref 546, Value.int 912 0, Value.int 260 0, Value.str (Str.ofString "/claim/cut.py") 913] }) ::
  (nat_lit 548, ⟨Value.type "function", none, Data.func (PySem.W.fnOf (Str.ofString "_law_plain_right") (Str.ofString "_law_plain_right") (L2.defArgs s_l_plain_right) (L2.defBody s_l_plain_right) (L2.defScope s_l_plain_right) (Value.none) (Value.none) (Value.none) (Value.str (Str.ofString "law_sizechains_k18_steps_made") 819) (none) (Value.ref 547) (Value.none)), #[]⟩) ::
  (nat_lit 549, { cls := Value.type "tuple", data := Data.seq #[] }) ::
  (nat_lit 552, { cls := Value.type "code", data := Data.fields #[Value.str (Str.ofString "_law_right") 915, Value.str (Str.ofString "_law_right") 916, Value.str (Str.ofString "/claim/cut.py") 917, Value.int 263 0, Value.int 1 0, Value.int 0 0, Value.int 0 0, Value.int 3 0, Value.ref 549, Value.bool true, Value.int 181 0, Value.ref 550, Value.none, Value.none, Value.none, Value.ref 551, Value.int 918 0, Value.int 263 0, Value.str (Str.ofString "/claim/cut.py") 919] }) ::
  (nat_lit 553, ⟨Value.type "function", none, Data.func (PySem.W.fnOf (Str.ofString "_law_right") (Str.ofString "_law_right") (L2.defArgs s_l_right) (L2.defBody s_l_right) (L2.defScope s_l_right) (Value.none) (Value.none) (Value.none) (Value.str (Str.ofString "law_sizechains_k18_steps_made") 819) (none) (Value.ref 552) (Value.none)), #[]⟩) ::
  (nat_lit 554, { cls := Value.type "tuple", data := Data.seq #[] }) ::
  (nat_lit 557, { cls := Value.type "code", data := Data.fields #[Value.str (Str.ofString "law") 921, Value.str (Str.ofString "law") 922, Value.str (Str.ofString "/claim/cut.py") 923, Value.int 266 0, Value.int 1 0, Value.int 0 0, Value.int 0 0, Value.int 3 0, Value.ref 554, Value.bool true, Value.int 181 0, Value.ref 555, Value.none, Value.none, Value.none, Value.ref 556, Value.int 924 0, Value.int 266 0, Value.str (Str.ofString "/claim/cut.py") 925] }) ::
  (nat_lit 558, ⟨Value.type "function", none, Data.func (PySem.W.fnOf (Str.ofString "law") (Str.ofString "law") (L2.defArgs s_law) (L2.defBody s_law) (L2.defScope s_law) (Value.none) (Value.none) (Value.none) (Value.str (Str.ofString "law_sizechains_k18_steps_made") 819) (none) (Value.ref 557) (Value.none)), #[]⟩) :: []
def as0 : List Nat := [2, 3, 15, 17, 18, 20, 21, 22, 29, 30, 31, 32, 35, 42, 44, 45, 47, 48, 49, 50, 51, 54, 61, 63, 64, 66, 67, 68, 69, 70, 73, 80, 82, 83, 85, 86, 87, 88, 89, 92, 99, 101, 102, 104, 105, 106, 107, 108, 111, 113, 114, 116, 117, 118, 120, 121, 123, 124, 125, 127, 128, 130, 131, 132, 134, 135, 137, 138, 146, 148, 149, 151, 152, 153, 154, 155, 156, 158, 159, 161, 162, 163, 165, 166, 168, 169, 170, 172, 173, 175, 176, 177, 179, 180, 182, 183, 184, 185, 186, 187, 188, 191, 198, 200, 201, 203, 204, 205, 207, 208, 210, 211, 212, 214, 215, 217, 218, 219, 220, 221, 224, 231, 232, 234, 235, 237, 238, 239, 241, 242, 244, 245, 246, 247, 248, 251, 258, 259, 261, 262, 264, 265, 266, 268, 269, 271, 272, 273, 274, 275, 278, 285, 287, 288, 290, 291, 292, 294, 295, 297, 298, 299, 300, 301, 304, 311, 312, 313, 315, 316, 318, 319, 320, 322, 323, 325, 326, 327, 328, 329, 332, 339, 340, 341, 343, 344, 346, 347, 348, 350, 351, 353, 354, 355, 356, 357, 360, 367, 368, 370, 371, 373, 374, 375, 377, 378, 380, 381, 382, 384, 385, 387, 388, 389, 390, 391, 394, 401, 403, 404, 406, 407, 408, 409, 410, 413, 420, 422, 423, 425, 426, 427, 428, 429, 432, 434, 435, 437, 438, 439, 441, 442, 444, 445, 446, 448, 449, 451, 452, 453, 455, 456, 458, 459, 460, 462, 463, 465, 466, 467, 469, 470, 472, 473, 474, 476, 477, 479, 480, 481, 483, 484, 486, 487, 488, 490, 491, 493, 494, 495, 497, 498, 500, 501, 502, 504, 505, 507, 508, 509, 511, 512, 514, 515, 516, 518, 519, 521, 522, 523, 525, 526, 528, 529, 530, 532, 533, 535, 536, 537, 540, 541, 542, 544, 545, 547, 548, 549, 552, 553, 554, 557, 558]
def q0 : Program := { PySem.Challenge.rw_sizechains_k18_steps_made.row.prog with main := { PySem.Challenge.rw_sizechains_k18_steps_made.row.prog.main with body := [top 0, top 2, top 3, top 4, top 5, top 6, top 8, top 9, top 10, top 11, top 13, top 14, top 15, top 16, top 17, top 18, top 19, top 20, top 21, top 22, top 23, top 24, top 25, top 26, top 27, top 28, top 29, top 31, top 32, top 33, top 34, top 35, top 36, top 37, top 38, top 39, top 40, top 41, top 42, top 43] } }
abbrev loose0 : List Str := [Str.ofString "MOST_SIDE", Str.ofString "Step", Str.ofString "Shrink", Str.ofString "Grow", Str.ofString "CropWidth", Str.ofString "CropHeight", Str.ofString "Turn", Str.ofString "Landscape", Str.ofString "Portrait"]
abbrev lv0 : List (Str × PySem.W.WData) := [(Str.ofString "MOST_SIDE", PySem.W.WData.int 1000000)]
theorem as0_ok : ∀ P, as0 = (K0 P).map (·.1) := fun _ => by kernel_rfl
abbrev seen0 (s : Shared) : Bool := PySem.W.xlAt q0 lv0 s && PySem.W.recOk (PySem.W.RowW.records (PySem.W.OpenRow.toRowW PySem.Challenge.rw_sizechains_k18_steps_made.row)) s
set_option maxHeartbeats 0 in
theorem left0 : PySem.W.LeftO PySem.Challenge.rw_sizechains_k18_steps_made.row.prog q0 loose0 seen0 (PySem.W.kHook K0 as0 as0_ok).obs (PySem.W.kHook K0 as0 as0_ok).val 11062 true :=
  HeadRun.left_oneK (M := 10362) (by kernel_rfl) (by rfl) (fun s => by kernel_rfl) (by rfl) (fun w os => by kernel_rfl)


/-! repr of data at any depth, where no repr is running around -/
structure RRepr (K : PySem.W.Frag) (xs : List V) (H : Hp) (Q : VK) : Prop where
  ex : ∃ (v : V) (d : PyData), xs = [v] ∧ Dp K H v d ∧ isDisplay d = true ∧ d.showable = true ∧ d.hasDict = false ∧ d.depth ≤ 64 ∧ d.shown.length ≤ sizeLine ∧ Q (.str d.shown) H
theorem reprData {X : Cx} (gds : X.A.guards = some []) (room : X.A.units + 70 < cLine) : CallR X (.builtin "repr") (RRepr X.K) := by
  intro pins st sl H xs us Q inv vals want
  obtain ⟨v, d, e, dp, dis, sh, nod, dep, len, q⟩ := want.ex
  subst e
  obtain ⟨u, eu, rel⟩ := vals1 vals
  subst eu
  obtain ⟨as, rd⟩ := Dp.reads inv d v u dp rel
  obtain ⟨a, ea⟩ := isRef_of_reads rd dis
  subst ea
  refine repr_of_reads' rd sh (PyData.noDict_hsm nod) gds (by omega) (fun _ _ z => z) (fun h' u' tk kp => ?_) len
  exact ⟨.str d.shown, H, inv.kept kp, ⟨_, rfl⟩, q⟩

/-! a def's promise where it is known that no repr is running around -/
structure FnG (P : Program) (w : World) (K : PySem.W.Frag) (mg : Str → Option Value) (base : Heap) (CX : CXT) (k : Nat) (f : Addr) (fd : FuncData) (ps : List Str) (sp : Sp) : Prop where
  len : ∀ vs H Q E, sp vs H Q E → vs.length = ps.length
  go : ∀ (A : Around) (out : List Env) (st : Shared) (H : Hp) (as : Args) (us : List Value) (vs : List V) (Q : VK) (E : XK), A.guards = some [] → Room k A → Env0 P w K mg base A out st H →
    BindsTo st fd as (ps.zip us) → Vals vs us → sp vs H Q E → codeAny (model P w) A (.call (.ref f) as) (CR CX out P w H st Q E) st
section
variable {P : Program} {w : World} {K : PySem.W.Frag} {mg : Str → Option Value} {base : Heap} {CX : CXT} {k : Nat} {f : Addr} {fd : FuncData} {ps : List Str} {sp : Sp}
theorem FnG.of (F : FnOk P w K mg base CX k f fd ps sp) : FnG P w K mg base CX k f fd ps sp :=
  ⟨F.len, fun A out st H as us vs Q E _ r e b v h => F.run A out st H as us vs Q E r e b v h⟩
theorem FnG.up {j : Nat} (F : FnG P w K mg base CX j f fd ps sp) (h : j ≤ k) : FnG P w K mg base CX k f fd ps sp :=
  ⟨F.len, fun A out st H as us vs Q E g r e b v s => F.go A out st H as us vs Q E g (r.mono h) e b v s⟩
theorem FnG.imp {sp' : Sp} (F : FnG P w K mg base CX k f fd ps sp) (h : ∀ vs H Q E, sp' vs H Q E → sp vs H Q E) : FnG P w K mg base CX k f fd ps sp' :=
  ⟨fun vs H Q E q => F.len vs H Q E (h _ _ _ _ q), fun A out st H as us vs Q E g r e b v s => F.go A out st H as us vs Q E g r e b v (h _ _ _ _ s)⟩

/-- by the body -/
theorem okG0 {name qual : Str} {params : Arguments} {body : List Stmt} {scope : Scope} {dV kV doc pm cdv ct oc : Value} {an od : Option Addr} {osl : Array (Option Value)} {N : List Str}
    (lk : K.lookup f = some ⟨oc, od, .func (PySem.W.fnOf name qual params body scope dV kV doc pm an cdv ct), osl⟩) (code : PySem.W.codeIn K cdv qual = true) (S : FnScope N ps scope)
    (len : ∀ vs H Q E, sp vs H Q E → vs.length = ps.length)
    (walk : ∀ (A : Around) (out : List Env) (st : Shared) (H : Hp) (vs : List V) (Q : VK) (E : XK), A.guards = some [] → Room k (A.deeper (envOfC qual scope st.heap.objs.size f cdv)) → sp vs H Q E →
      ∃ t, PSs (cxOf CX P w K mg base N qual scope f cdv A out st H E) body t ∧ t { nx := fun _ H' => Q .non H', rt := Q } (start N vs) H) :
    FnG P w K mg base CX (k + 1) f (PySem.W.fnOf name qual params body scope dV kV doc pm an cdv ct) ps sp := by
  refine ⟨len, ?_⟩
  intro A out st H as us vs Q E gds room env binds vals want
  have size := len _ _ _ _ want
  have lim : st.heap.NoLimit := env.mod.nolimit.keeps fun b o e => (env.bs b o e).1
  have inK : K.In st.heap := env.mod.kin.keeps fun b o e => (env.bs b o e).1
  have kinds : ∀ y ∈ ps.zip us, scope.names.lookup y.1 = some .local ∨ (scope.names.lookup y.1 = some .cell ∧ ((cellsFrom (st.heap.objs.size + 1) scope.names []).lookup y.1).isSome = true) := by
    rintro ⟨n, v⟩ mem
    have mem1 : n ∈ ps := (List.of_mem_zip mem).1
    cases S.par n mem1 with
    | inl loc => exact Or.inl loc
    | inr cel => exact Or.inr ⟨cel, PySem.W.cellsFrom_some _ _ _ (Or.inl cel)⟩
  refine codeAny_call_function room.depth (inK _ _ lk) rfl S.co S.gen rfl (PySem.W.codeRec_of inK code) (binds _ _ _ _ ?_)
  refine wpAny_newFunctionEnv_cells S.kind kinds fun en hen s1 inn => ?_
  subst hen
  refine ⟨lim.keeps inn.toInCall.keep, codeAny_func ?_⟩
  obtain ⟨t, term, read⟩ := walk A out st H vs Q E gds (room.deeper _) want
  have inv := inv_start (CX := CX) (E := E) S room.hd env size vals inn
  refine wpAny_mono (term.run [] s1 (start N vs) H _ inv read) (fun fl s' hs => ?_) fun _ _ hs => hs
  have done : ∀ {sl' : L2.St} {H' : Hp} {v : V} {u : Value}, Inv (cxOf CX P w K mg base N qual scope f cdv A out st H E) [] sl' H' s' → RelV v u → Q v H' → CE out P w H st Q u s' := by
    intro sl' H' v u J rel q
    exact ⟨v, H', J.os, J.bare, J.base, J.hok, rel, q⟩
  cases fl with
  | next =>
    obtain ⟨_, _, J, q⟩ := hs
    exact done (v := V.non) (u := Value.none) J rfl q
  | ret u =>
    obtain ⟨_, _, _, J, rel, q⟩ := hs
    exact done J rel q
  | brk => exact (hs.choose_spec.choose_spec.2).elim
  | cont => exact (hs.choose_spec.choose_spec.2).elim

/-- a def of the text without defaults, that lets nothing out -/
theorem okG {x qual : Str} {st : Stmt} {N : List Str} (F : Fun K x qual st f fd) (S : FnScope N ps (defScope st)) (len : ∀ vs H Q E, sp vs H Q E → vs.length = ps.length)
    (walk : ∀ (cdv : Value) (A : Around) (out : List Env) (s : Shared) (H : Hp) (vs : List V) (Q : VK) (E : XK), A.guards = some [] → Room k (A.deeper (envOfC qual (defScope st) s.heap.objs.size f cdv)) → sp vs H Q E →
      ∃ t, PSs (cxOf CX0 P w K mg base N qual (defScope st) f cdv A out s H E).nox (defBody st) t ∧ t { nx := fun _ H' => Q .non H', rt := Q } (start N vs) H) :
    FnG P w K mg base CX0 (k + 1) f fd ps sp := by
  obtain ⟨_, _, _, _, _, _, cdv, _, _, e, lk, code⟩ := F.ex
  subst e
  refine okG0 lk code S len ?_
  intro A out s H vs Q E g r want
  obtain ⟨t, term, read⟩ := walk cdv A out s H vs Q E g r want
  exact ⟨t, term.nox, read⟩
/-- one with defaults, that lets nothing out -/
theorem okD {x qual : Str} {st : Stmt} {N : List Str} {dvs : List V} (F : FunD K x qual (defArgs st) (defBody st) (defScope st) dvs [] f fd) (S : FnScope N ps (defScope st)) (len : ∀ vs H Q E, sp vs H Q E → vs.length = ps.length)
    (walk : ∀ (cdv : Value) (A : Around) (out : List Env) (s : Shared) (H : Hp) (vs : List V) (Q : VK) (E : XK), A.guards = some [] → Room k (A.deeper (envOfC qual (defScope st) s.heap.objs.size f cdv)) → sp vs H Q E →
      ∃ t, PSs (cxOf CX0 P w K mg base N qual (defScope st) f cdv A out s H E).nox (defBody st) t ∧ t { nx := fun _ H' => Q .non H', rt := Q } (start N vs) H) :
    FnG P w K mg base CX0 (k + 1) f fd ps sp := by
  obtain ⟨_, _, _, _, _, _, _, cdv, _, _, e, lk, code, _, _⟩ := F.ex
  subst e
  refine okG0 lk code S len ?_
  intro A out s H vs Q E g r want
  obtain ⟨t, term, read⟩ := walk cdv A out s H vs Q E g r want
  exact ⟨t, term.nox, read⟩
end

/-! calls -/
section
variable {X : Cx} {CX : CXT} {k n : Nat} {f : Addr} {fd : FuncData} {ps ks : List Str} {sp : Sp} {dvs : List V} {ds : List Value} {E : XK} {x : Str} {p pos : Pos} {e : Expr} {es : List Expr} {kws : List Keyword} {t tk : TA} {g : List Value → List Value → List Value} {gV : List V → List V → List V}
theorem goG {pins : List (Addr × Obj)} {sl : L2.St} {H : Hp} {s : Shared} {Q : VK} {us0 us : List Value} {kw : List (Str × Value)} {vs : List V} (F : FnG X.prog X.w X.K X.mg X.base CX k f fd ps sp) (gds : X.A.guards = some []) (hr : Room k X.A) (hx : Passes CX X E)
    (inv : Inv X pins sl H s) (b : BindsTo s fd ⟨us0, kw⟩ (ps.zip us)) (r : Vals vs us) (want : sp vs H Q E) : wpAny (model X.prog X.w) X.A (call (.ref f) us0 kw) (EP X pins sl Q) X.xe s := by
  refine wpAny_call (codeAny_mono (F.go X.A X.stack s H ⟨us0, kw⟩ us vs Q E gds hr inv.env0 b r want) fun r s' got => ?_)
  cases r with
  | error e => exact hx pins sl H s e s' inv got
  | ok fl =>
    cases fl with
    | ret u => exact inv.after got
    | next => exact got.elim
    | brk => exact got.elim
    | cont => exact got.elim
theorem callG (F : FnG X.prog X.w X.K X.mg X.base CX k f fd ps sp) (gds : X.A.guards = some []) (hr : Room k X.A) (hg : Gl X x) (hm : X.mg x = some (.ref f)) (hk : PySem.W.keepIn X.K (.ref f) = true) (hb : Binds X.K fd ps ds) (hd : Vals dvs ds) (hx : Passes CX X E)
    (ha : PA X (e :: es) t) (hdb : (x == ("__debug__" : Str)) = false := by decide) (he : starEach (e :: es) X.env = (false, eval e X.env) :: starEach es X.env := by rfl) (hpl : (backTo pos (starEach es X.env)).any (·.1) = false := by rfl) :
    PE X (.Call (.Name x p) (e :: es) [] pos) (tCall sp dvs E t) := by
  constructor
  intro pins s sl H Q inv want
  refine wpAny_Call_Name_kw (ld_glob inv hg hm ?_ hdb)
  refine PySem.W.callWith_K (h₀ := X.base) inv.ok.mod.kin hk (thn (ha.run pos pins s sl H _ inv want) ?_) he hpl
  rintro us s1 ⟨vs, H1, inv1, rel, q⟩
  refine ⟨inv1.kIn, ?_⟩
  have rel2 : Vals (vs ++ dvs) (us ++ ds) := rel.append hd
  have sz : (us ++ ds).length = ps.length := rel2.length.symm.trans (F.len _ _ _ _ q)
  exact goG F gds hr hx inv1 (hb s1 us inv1.kIn sz) rel2 q
theorem callG0 (F : FnG X.prog X.w X.K X.mg X.base CX k f fd ps sp) (gds : X.A.guards = some []) (hr : Room k X.A) (hg : Gl X x) (hm : X.mg x = some (.ref f)) (hk : PySem.W.keepIn X.K (.ref f) = true) (hb : Binds X.K fd ps ds) (hd : Vals dvs ds) (hx : Passes CX X E)
    (hdb : (x == ("__debug__" : Str)) = false := by decide) : PE X (.Call (.Name x p) [] [] pos) (tCall sp dvs E tNil) := by
  constructor
  intro pins s sl H Q inv want
  refine wpAny_Call_Name_kw (ld_glob inv hg hm ?_ hdb)
  refine PySem.W.callWith_K0 inv.kIn hk ?_
  have q : sp dvs H Q E := want
  have sz : (([] : List Value) ++ ds).length = ps.length := hd.length.symm.trans (F.len _ _ _ _ q)
  exact goG F gds hr hx inv (hb s [] inv.kIn sz) hd q
/-- f(e, .., k = v, ..) -/
theorem callGN (F : FnG X.prog X.w X.K X.mg X.base CX k f fd ps sp) (gds : X.A.guards = some []) (hr : Room k X.A) (hg : Gl X x) (hm : X.mg x = some (.ref f)) (hk : PySem.W.keepIn X.K (.ref f) = true) (hb : KBn X.K fd ps n ks g gV) (hx : Passes CX X E)
    (ha : PA X (e :: es) t) (hkw : PK X kws tk) (hall : (backToKw pos (keywordEach kws X.env)).all (·.1.isSome) = true := by rfl) (hks : (backToKw pos (keywordEach kws X.env)).filterMap (·.1) = ks := by rfl)
    (hdb : (x == ("__debug__" : Str)) = false := by decide) (he : starEach (e :: es) X.env = (false, eval e X.env) :: starEach es X.env := by rfl)
    (hpl : ((backTo pos (starEach (e :: es) X.env)).any (·.1) || (backToKw pos (keywordEach kws X.env)).any (·.1.isNone)) = false := by rfl) :
    PE X (.Call (.Name x p) (e :: es) kws pos) (tCallN n ks.length sp gV E t tk) := by
  constructor
  intro pins s sl H Q inv want
  refine wpAny_Call_Name_kw (ld_glob inv hg hm ?_ hdb)
  refine PySem.W.callWith_KW (h₀ := X.base) inv.ok.mod.kin hk hall (thn (ha.run pos pins s sl H _ inv want) ?_) hpl he
  rintro us s1 ⟨vs, H1, inv1, rel, q⟩
  refine thn (hkw.run pos pins s1 sl H1 _ inv1 q) ?_
  rintro ws s2 ⟨zs, H2, inv2, relz, l1, l2, q2⟩
  refine ⟨inv2.kIn, ?_⟩
  rw [hks]
  exact goG F gds hr hx inv2 (hb.to s2 us ws inv2.kIn (rel.length.symm.trans l1) (relz.length.symm.trans l2)) (hb.rel rel relz) q2
/-- f(k = v, ..) -/
theorem callGK (F : FnG X.prog X.w X.K X.mg X.base CX k f fd ps sp) (gds : X.A.guards = some []) (hr : Room k X.A) (hg : Gl X x) (hm : X.mg x = some (.ref f)) (hk : PySem.W.keepIn X.K (.ref f) = true) (hb : KBn X.K fd ps 0 ks g gV) (hx : Passes CX X E)
    (hkw : PK X kws tk) (hall : (backToKw pos (keywordEach kws X.env)).all (·.1.isSome) = true := by rfl) (hks : (backToKw pos (keywordEach kws X.env)).filterMap (·.1) = ks := by rfl)
    (hdb : (x == ("__debug__" : Str)) = false := by decide)
    (hpl : ((backTo pos (starEach [] X.env)).any (·.1) || (backToKw pos (keywordEach kws X.env)).any (·.1.isNone)) = false := by rfl) :
    PE X (.Call (.Name x p) [] kws pos) (tCallN 0 ks.length sp gV E tNil tk) := by
  constructor
  intro pins s sl H Q inv want
  refine wpAny_Call_Name_kw (ld_glob inv hg hm ?_ hdb)
  refine PySem.W.callWith_KW0 (h₀ := X.base) inv.ok.mod.kin hk hall ?_ hpl
  refine thn (hkw.run pos pins s sl H _ inv want) ?_
  rintro ws s2 ⟨zs, H2, inv2, relz, l1, l2, q2⟩
  refine ⟨inv2.kIn, ?_⟩
  rw [hks]
  exact goG F gds hr hx inv2 (hb.to s2 [] ws inv2.kIn rfl (relz.length.symm.trans l2)) (hb.rel .nil relz) q2
end


/-! the end: the law's promise at the heap behind the top -/
section
variable {P : Program} {w : World} {K : PySem.W.Frag} {mg mb : Str → Option Value} {k : Nat} {fa a : Addr} {fd : FuncData} {x : Str} {sp : Sp} {st : Shared} {vs : List Value} {ns : List Int}
/-- from one abstract heap in which the script alone may be tracked -/
theorem endCore (inK : K.In st.heap) (hns : st.heap.Ns mainGlobals mg) (hb : st.heap.Ns builtinsNs mb) (hbb : ∀ x : Str, x ≠ "__name__" → mb x = bootBuiltins x) (lim : st.heap.NoLimit) (gens : st.gens = #[])
    (ha : st.heap.get? a = some { cls := .type "list", data := .seq vs.toArray }) (hr : Room k callerA)
    (F : ∀ base : Heap, K.In base → base.Ns mainGlobals mg → FnG P w K mg base CX0 k fa fd [x] sp) (bind : ∀ (s : Shared) (u : Value), BindsTo s fd ⟨[u], []⟩ [(x, u)])
    {H : Hp} (only : Only H) (ok : HOk P w H st.heap) (one : ∀ b, H b ≠ none → b = a) (notK : H a ≠ none → K.lookup a = none) (want : sp [.ref a] H (fun v _ => v = .bl true) fun _ _ _ => False) :
    codeAny (model P w) callerA (.call (.ref fa) ⟨[.ref a], []⟩) (fun r s' => r = .ok (.ret (.bool true)) ∧ OldK st.heap s'.heap ∧ s'.os = st.os ∧ AllBare s'.gens) st := by
  have untracked : ∀ {b : Addr} {o : Obj}, st.heap.get? b = some o → (b = a → o.data ≠ .seq vs.toArray) → H b = none := by
    intro b o e n
    refine Option.eq_none_iff_forall_ne_some.mpr fun u z => ?_
    have eb := one b (by rw [z]; exact fun t => nomatch t)
    subst eb
    rw [ha] at e
    cases e
    exact n rfl rfl
  have toBase : ∀ {b : Addr} {m : Str → Option Value}, st.heap.Ns b m → (hidT st.heap H).Ns b m := by
    rintro b m ⟨o, es, ep, e, d, r⟩
    refine ⟨o, es, ep, hidT_get e (untracked e fun _ z => ?_), d, r⟩
    rw [d] at z
    cases z
  have inBase : K.In (hidT st.heap H) := by
    intro b o e
    refine hidT_get (inK b o e) (Option.eq_none_iff_forall_ne_some.mpr fun u z => ?_)
    have nn : H b ≠ none := by rw [z]; exact fun t => nomatch t
    have eb := one b nn
    subst eb
    rw [notK nn] at e
    cases e
  obtain ⟨mc, l1, l2⟩ := lim
  have md : Mod K mg (hidT st.heap H) := ⟨inBase, toBase hns, ⟨mb, toBase hb, hbb⟩, ⟨mc, toBase l1, l2⟩⟩
  have e0 : Env0 P w K mg (hidT st.heap H) callerA [] st H := by
    refine ⟨rfl, md, fun b o e => of_hidT e, Nat.le_of_eq (hidT_size _ _), trivial, fun b hb => ?_, ok, .of_eq gens⟩
    cases hb
  refine codeAny_mono ((F _ inBase md.glob).go callerA [] st H ⟨[.ref a], []⟩ [.ref a] [.ref a] _ _ rfl hr e0 (bind st (.ref a)) (.cons rfl .nil) want) fun r s' got => ?_
  cases r with
  | error e => exact got.elim
  | ok fl =>
    cases fl with
    | next => exact got.elim
    | brk => exact got.elim
    | cont => exact got.elim
    | ret u =>
      obtain ⟨v, H', os, bare, un, ok', rel, q⟩ := got
      have q2 : v = .bl true := q
      subst q2
      have q3 : u = Value.bool true := rel
      subst q3
      refine ⟨rfl, OldK.of_keep ?_, os, bare⟩
      intro b o e
      rcases only b with z | ⟨ob, xs, z⟩
      · refine un.keep b o e z (fun m => ?_) (by simp)
        cases m
      · have z2 := un.frzs b ob _ z
        obtain ⟨e1, _⟩ := ok b _ z
        obtain ⟨e2, _⟩ := ok' b _ z2
        rw [e1] at e
        cases e
        exact e2

theorem endCall (inK : K.In st.heap) (hns : st.heap.Ns mainGlobals mg) (hb : st.heap.Ns builtinsNs mb) (hbb : ∀ x : Str, x ≠ "__name__" → mb x = bootBuiltins x) (lim : st.heap.NoLimit) (gens : st.gens = #[])
    (ha : st.heap.get? a = some { cls := .type "list", data := .seq vs.toArray }) (hi : IntsAre vs ns) (hl : ns.length ≤ sizeLine) (hr : Room k callerA)
    (F : ∀ base : Heap, K.In base → base.Ns mainGlobals mg → FnG P w K mg base CX0 k fa fd [x] sp) (bind : ∀ (s : Shared) (u : Value), BindsTo s fd ⟨[u], []⟩ [(x, u)])
    (want : ∀ H : Hp, Only H → SqL K H a (ns.map V.int) → sp [.ref a] H (fun v _ => v = .bl true) fun _ _ _ => False) :
    codeAny (model P w) callerA (.call (.ref fa) ⟨[.ref a], []⟩) (fun r s' => r = .ok (.ret (.bool true)) ∧ OldK st.heap s'.heap ∧ s'.os = st.os ∧ AllBare s'.gens) st := by
  have rv := vals_ints hi
  cases hk : K.lookup a with
  | some o =>
    have e := inK a o hk
    rw [ha] at e
    cases e
    have seq : SqL K (fun _ => none) a (ns.map V.int) := .inr ⟨_, vs.toArray, _, hk, rfl, rfl, rfl, by rw [List.size_toArray, hi.length]; exact hl, by simpa using rv⟩
    refine endCore inK hns hb hbb lim gens ha hr F bind (fun _ => .inl rfl) ?_ (fun b z => absurd rfl z) (fun z => absurd rfl z) (want _ (fun _ => .inl rfl) seq)
    intro b u z
    cases (show (none : Option HO) = some u from z)
  | none =>
    have at_a : (fun b => if b = a then some (HO.frz { cls := .type "list", data := .seq vs.toArray } (.lst (ns.map V.int))) else none) a = some (HO.frz { cls := .type "list", data := .seq vs.toArray } (.lst (ns.map V.int))) := if_pos rfl
    have only : Only (fun b => if b = a then some (HO.frz { cls := .type "list", data := .seq vs.toArray } (.lst (ns.map V.int))) else none) := by
      intro b
      by_cases e : b = a
      · exact .inr ⟨_, _, if_pos e⟩
      · exact .inl (if_neg e)
    refine endCore inK hns hb hbb lim gens ha hr F bind only ?_ (fun b z => ?_) (fun _ => hk) (want _ only (.inl (.inr ⟨_, at_a⟩)))
    · intro b u z
      by_cases e : b = a
      · subst e
        cases (at_a.symm.trans z)
        exact ⟨ha, by rw [List.length_map]; exact hl, vs, _, rv, ha⟩
      · cases ((if_neg e).symm.trans z)
    · by_cases e : b = a
      · exact e
      · exact absurd (if_neg e) z
end

theorem walkG {l : PySem.W.OpenLaw} {n k : Nat} {q : Program} {loose : List Str} {XP : (Str → Option Value) → Heap → Prop} {YP : World → Heap → Prop} {d : DefRec} {K : Params → PySem.W.Frag} {sp : PySem.W.Frag → Sp} {x : Str}
    (hn : l.most = some n) (hn2 : n ≤ sizeLine) (hdf : d.params.defaults = []) (hr : Room k callerA) (hY : ∀ (w : World) (h : Heap), YP w h → (K w.params).In h)
    (F : ∀ (w : World) (mg : Str → Option Value) (fa : Addr) (h : Heap), (K w.params).In h → h.Ns mainGlobals mg → mg d.name = some (.ref fa) →
      ∃ fd : FuncData, (∀ (s : Shared) (u : Value), BindsTo s fd ⟨[u], []⟩ [(x, u)]) ∧ ∀ base : Heap, (K w.params).In base → base.Ns mainGlobals mg → FnG l.prog w (K w.params) mg base CX0 k fa fd [x] (sp (K w.params)))
    (want : ∀ (K : PySem.W.Frag) (H : Hp) (a : Addr) (ns : List Int), ns.length ≤ n → Only H → SqL K H a (ns.map V.int) → sp K [.ref a] H (fun v _ => v = .bl true) fun _ _ _ => False) :
    PySem.W.WalkO q loose XP YP l.row.toRowW d [] (fun f vs => PySem.call f vs) := by
  refine Att.attach_call hn hdf ?_
  intro w s₀ s₁ mg mb fa o pm cd doc a vs ns G Y ho hd hcd hmg hobj hints hlen hg
  obtain ⟨fd, hb, hF⟩ := F w mg fa _ (hY w _ Y) G.T.g hmg
  exact endCall (hY w _ Y) G.T.g G.T.b G.T.builtins G.T.nolimit hg hobj hints (Nat.le_trans hlen hn2) hr hF hb fun H only seq => want (K w.params) H a ns hlen only seq

/-! arguments where some parameters have defaults -/
theorem bindD {K : PySem.W.Frag} {x qual : Str} {params : Arguments} {body : List Stmt} {scope : Scope} {dvs : List V} {f : Addr} {fd : FuncData} {ps : List Str}
    (F : FunD K x qual params body scope dvs [] f fd) (n : Nat) (ks : List Str) (g : {α : Type} → List α → List α → List α → List α) (some_ : dvs ≠ [])
    (rel : ∀ {vs ds zs : List V} {us its ws : List Value}, Vals vs us → Vals ds its → Vals zs ws → Vals (g vs ds zs) (g us its ws))
    (h : ∀ (T : Addr) (kV doc pm : Value) (an : Option Addr) (cdv ct : Value) (us its ws : List Value), us.length = n → its.length = dvs.length → ws.length = ks.length →
      ∃ k, bindArgs (PySem.W.fnOf x qual params body scope (.ref T) kV doc pm an cdv ct) ⟨us, ks.zip ws⟩ = seqItems? (.ref T) >>= k ∧ k (some its.toArray) = pure (ps.zip (g us its ws))) :
    ∃ its : List Value, KBn K fd ps n ks (fun us ws => g us its ws) (fun vs zs => g vs dvs zs) := by
  obtain ⟨oc, od, dV, kV, doc, pm, an, cdv, ct, osl, e, lk, hcd, hD, hK⟩ := F.ex
  subst e
  rcases hD with ⟨e, _⟩ | ⟨_, T, o, its, m, e, lT, oT, rT⟩
  · exact absurd e some_
  · subst e
    refine ⟨its, ⟨fun s us ws inK l1 l2 => ?_, fun r1 r2 => rel r1 rT r2⟩⟩
    obtain ⟨k, e1, e2⟩ := h T kV doc pm an cdv ct us its ws l1 rT.length.symm l2
    refine BindsTo.of_looks fun M => ?_
    rw [e1]
    exact looks_items inK lT oT (.of_pure e2)
/-- the same without any default -/
theorem bindN {K : PySem.W.Frag} {x qual : Str} {st : Stmt} {f : Addr} {fd : FuncData} {ps : List Str} (F : Fun K x qual st f fd) (n : Nat) (ks : List Str) (g : {α : Type} → List α → List α → List α)
    (rel : ∀ {vs zs : List V} {us ws : List Value}, Vals vs us → Vals zs ws → Vals (g vs zs) (g us ws))
    (h : ∀ (kV doc pm : Value) (an : Option Addr) (cdv ct : Value) (us ws : List Value), us.length = n → ws.length = ks.length →
      bindArgs (PySem.W.fnOf x qual (defArgs st) (defBody st) (defScope st) .none kV doc pm an cdv ct) ⟨us, ks.zip ws⟩ = pure (ps.zip (g us ws))) :
    KBn K fd ps n ks (fun us ws => g us ws) (fun vs zs => g vs zs) := by
  obtain ⟨oc, od, kV, doc, pm, an, cdv, ct, osl, e, lk, hcd⟩ := F.ex
  subst e
  exact ⟨fun s us ws _ l1 l2 => .of_eq (h kV doc pm an cdv ct us ws l1 l2), fun r1 r2 => rel r1 r2⟩

/-! ### values as trees -/
inductive T where
  | non | bl (b : Bool) | int (i : Int) | str (z : Str) | ty (n : String) | st (a : Addr) | cell (a : Addr)
  | tup (l : List T) | lst (l : List T) | scr (l : List T) | ins (C : Addr) (l : List (Str × T))
/-- what changes: a list, an instance -/
inductive Cell where
  | lst (l : List T) | ins (C : Addr) (l : List (Str × T))
abbrev Store := Addr → Option Cell
def Store.put (S : Store) (a : Addr) (c : Cell) : Store := fun b => if b = a then some c else S b
def Store.drop (S : Store) (a : Addr) : Store := fun b => if b = a then none else S b
theorem put_same {S : Store} {a : Addr} {c : Cell} : S.put a c a = some c := by unfold Store.put; rw [if_pos rfl]
theorem put_ne {S : Store} {a b : Addr} {c : Cell} (h : b ≠ a) : S.put a c b = S b := by unfold Store.put; rw [if_neg h]
theorem drop_same {S : Store} {a : Addr} : S.drop a a = none := by unfold Store.drop; rw [if_pos rfl]
theorem drop_ne {S : Store} {a b : Addr} (h : b ≠ a) : S.drop a b = S b := by unfold Store.drop; rw [if_neg h]
theorem put_put {S : Store} {a : Addr} {c d : Cell} : (S.put a c).put a d = S.put a d := by
  funext b; unfold Store.put; split <;> rfl
theorem put_drop {S : Store} {a : Addr} {c : Cell} (h : S a = none) : (S.put a c).drop a = S := by
  funext b
  by_cases e : b = a
  · subst e; rw [drop_same, h]
  · rw [drop_ne e, put_ne e]
section
variable (K : PySem.W.Frag) (Z : Addr → Prop) (S : Store) (H : Hp)
def TupAt (p : Addr) (vs : List V) : Prop := (Rd H p (.tup vs) ∧ S p = none ∧ ¬ Z p) ∨
  ∃ (o : Obj) (its : Array Value) (n : Nat), K.lookup p = some o ∧ o.cls = .type "tuple" ∧ o.data = .seq its n ∧ its.size ≤ sizeLine ∧ Vals vs its.toList
def LstAt (p : Addr) (vs : List V) : Prop := H p = some (.lst vs) ∧ S p = none ∧ ¬ Z p
def ScrAt (p : Addr) (vs : List V) : Prop := ((∃ o, H p = some (.frz o (.lst vs))) ∧ S p = none ∧ ¬ Z p) ∨
  ∃ (o : Obj) (its : Array Value) (n : Nat), K.lookup p = some o ∧ o.cls = .type "list" ∧ o.dict = none ∧ o.data = .seq its n ∧ its.size ≤ sizeLine ∧ Vals vs its.toList
mutual
inductive Rep : V → T → Prop
  | non : Rep .non .non
  | bl (b : Bool) : Rep (.bl b) (.bl b)
  | int (i : Int) : Rep (.int i) (.int i)
  | str (z : Str) : Rep (.str z) (.str z)
  | ty (n : String) : Rep (.ty n) (.ty n)
  | st (a : Addr) : Rep (.ref a) (.st a)
  | cell (a : Addr) : Rep (.ref a) (.cell a)
  | tup {p : Addr} {vs : List V} {ts : List T} (h : TupAt K Z S H p vs) (r : Reps vs ts) : Rep (.ref p) (.tup ts)
  | lst {p : Addr} {vs : List V} {ts : List T} (h : LstAt Z S H p vs) (r : Reps vs ts) : Rep (.ref p) (.lst ts)
  | scr {p : Addr} {vs : List V} {ts : List T} (h : ScrAt K Z S H p vs) (r : Reps vs ts) : Rep (.ref p) (.scr ts)
  | ins {p C dx : Addr} {fs : List (Str × V)} {gs : List (Str × T)} (h : H p = some (.ins C dx fs)) (n : S p = none ∧ ¬ Z p) (r : RepF fs gs) : Rep (.ref p) (.ins C gs)
inductive Reps : List V → List T → Prop
  | nil : Reps [] []
  | cons {v : V} {t : T} {vs : List V} {ts : List T} (h : Rep v t) (r : Reps vs ts) : Reps (v :: vs) (t :: ts)
inductive RepF : List (Str × V) → List (Str × T) → Prop
  | nil : RepF [] []
  | cons {n : Str} {v : V} {t : T} {vs : List (Str × V)} {ts : List (Str × T)} (h : Rep v t) (r : RepF vs ts) : RepF ((n, v) :: vs) ((n, t) :: ts)
end
def CellOk (a : Addr) : Option Cell → Prop
  | none => True
  | some (.lst ts) => ∃ vs, H a = some (.lst vs) ∧ Reps K Z S H vs ts
  | some (.ins C gs) => ∃ dx fs, H a = some (.ins C dx fs) ∧ RepF K Z S H fs gs
structure Ok : Prop where
  cl : ∀ a, CellOk K Z S H a (S a)
  hid : ∀ a, Z a → S a = none ∧ ∃ o, H a = some o
end
/-- what stands, but for the cells, stands later -/
def Le (S : Store) (H : Hp) (S' : Store) (H' : Hp) : Prop := ∀ a o, H a = some o → S a = none → H' a = some o ∧ S' a = none
/-- .. and but for what is hidden -/
def LeZ (Z : Addr → Prop) (S : Store) (H : Hp) (S' : Store) (H' : Hp) : Prop := ∀ a o, H a = some o → S a = none → ¬ Z a → H' a = some o ∧ S' a = none
section
variable {K : PySem.W.Frag} {Z : Addr → Prop} {S S' S2 : Store} {H H' H2 : Hp}
theorem Le.refl : Le S H S H := fun _ _ h n => ⟨h, n⟩
theorem Le.z (l : Le S H S' H') : LeZ Z S H S' H' := fun a o h n _ => l a o h n
theorem Le.trans (a : Le S H S' H') (b : Le S' H' S2 H2) : Le S H S2 H2 := fun p o h n => b p o (a p o h n).1 (a p o h n).2
theorem TupAt.lz {p : Addr} {vs : List V} (h : TupAt K Z S H p vs) (l : LeZ Z S H S' H') : TupAt K Z S' H' p vs := by
  rcases h with ⟨r, n, z⟩ | h
  · rcases r with r | ⟨o, r⟩
    · exact .inl ⟨.inl (l _ _ r n z).1, (l _ _ r n z).2, z⟩
    · exact .inl ⟨.inr ⟨o, (l _ _ r n z).1⟩, (l _ _ r n z).2, z⟩
  · exact .inr h
theorem TupAt.le {p : Addr} {vs : List V} (h : TupAt K Z S H p vs) (l : Le S H S' H') : TupAt K Z S' H' p vs := h.lz l.z
theorem LstAt.lz {p : Addr} {vs : List V} (h : LstAt Z S H p vs) (l : LeZ Z S H S' H') : LstAt Z S' H' p vs := ⟨(l _ _ h.1 h.2.1 h.2.2).1, (l _ _ h.1 h.2.1 h.2.2).2, h.2.2⟩
theorem ScrAt.lz {p : Addr} {vs : List V} (h : ScrAt K Z S H p vs) (l : LeZ Z S H S' H') : ScrAt K Z S' H' p vs := by
  rcases h with ⟨⟨o, r⟩, n, z⟩ | h
  · exact .inl ⟨⟨o, (l _ _ r n z).1⟩, (l _ _ r n z).2, z⟩
  · exact .inr h
theorem LstAt.le {p : Addr} {vs : List V} (h : LstAt Z S H p vs) (l : Le S H S' H') : LstAt Z S' H' p vs := h.lz l.z
theorem ScrAt.le {p : Addr} {vs : List V} (h : ScrAt K Z S H p vs) (l : Le S H S' H') : ScrAt K Z S' H' p vs := h.lz l.z
theorem TupAt.sq {p : Addr} {vs : List V} (h : TupAt K Z S H p vs) : SqT K H p vs := h.imp And.left id
theorem LstAt.sq {p : Addr} {vs : List V} (h : LstAt Z S H p vs) : SqL K H p vs := .inl (.inl h.1)
theorem ScrAt.sq {p : Addr} {vs : List V} (h : ScrAt K Z S H p vs) : SqL K H p vs := h.imp (fun a => .inr a.1) id
mutual
theorem Rep.lz (l : LeZ Z S H S' H') : ∀ {v : V} {t : T}, Rep K Z S H v t → Rep K Z S' H' v t
  | _, _, .non => .non
  | _, _, .bl b => .bl b
  | _, _, .int i => .int i
  | _, _, .str z => .str z
  | _, _, .ty n => .ty n
  | _, _, .st a => .st a
  | _, _, .cell a => .cell a
  | _, _, .tup h r => .tup (h.lz l) (Reps.lz l r)
  | _, _, .lst h r => .lst (h.lz l) (Reps.lz l r)
  | _, _, .scr h r => .scr (h.lz l) (Reps.lz l r)
  | _, _, .ins h n r => .ins (l _ _ h n.1 n.2).1 ⟨(l _ _ h n.1 n.2).2, n.2⟩ (RepF.lz l r)
theorem Reps.lz (l : LeZ Z S H S' H') : ∀ {vs : List V} {ts : List T}, Reps K Z S H vs ts → Reps K Z S' H' vs ts
  | _, _, .nil => .nil
  | _, _, .cons h r => .cons (Rep.lz l h) (Reps.lz l r)
theorem RepF.lz (l : LeZ Z S H S' H') : ∀ {vs : List (Str × V)} {ts : List (Str × T)}, RepF K Z S H vs ts → RepF K Z S' H' vs ts
  | _, _, .nil => .nil
  | _, _, .cons h r => .cons (Rep.lz l h) (RepF.lz l r)
end
theorem Rep.le {v : V} {t : T} (r : Rep K Z S H v t) (l : Le S H S' H') : Rep K Z S' H' v t := r.lz l.z
theorem Reps.le {vs : List V} {ts : List T} (r : Reps K Z S H vs ts) (l : Le S H S' H') : Reps K Z S' H' vs ts := r.lz l.z
theorem RepF.le {vs : List (Str × V)} {ts : List (Str × T)} (r : RepF K Z S H vs ts) (l : Le S H S' H') : RepF K Z S' H' vs ts := r.lz l.z
theorem Reps.length : ∀ {ts : List T} {vs : List V}, Reps K Z S H vs ts → vs.length = ts.length
  | [], _, .nil => rfl
  | _ :: _, _, .cons _ r => by simp [Reps.length r]
theorem Reps.append {vs ws : List V} {ts us : List T} (r : Reps K Z S H vs ts) (q : Reps K Z S H ws us) : Reps K Z S H (vs ++ ws) (ts ++ us) := by
  induction ts generalizing vs with
  | nil => cases r; exact q
  | cons t ts ih => cases r with | cons h r => exact .cons h (ih r)
theorem Reps.get {vs : List V} {ts : List T} {i : Nat} {t : T} (r : Reps K Z S H vs ts) (h : ts[i]? = some t) : ∃ v, vs[i]? = some v ∧ Rep K Z S H v t := by
  induction ts generalizing vs i with
  | nil => cases h
  | cons u ts ih =>
    cases r with
    | cons q r =>
      cases i with
      | zero => cases h; exact ⟨_, rfl, q⟩
      | succ i =>
        have hh : ts[i]? = some t := h
        obtain ⟨w, a, b⟩ := ih r hh
        exact ⟨w, a, b⟩
theorem Reps.take {vs : List V} {ts : List T} (n : Nat) (r : Reps K Z S H vs ts) : Reps K Z S H (vs.take n) (ts.take n) := by
  induction ts generalizing vs n with
  | nil => cases r; simp; exact .nil
  | cons t ts ih =>
    cases r with
    | cons h r =>
      cases n with
      | zero => exact .nil
      | succ n => exact .cons h (ih n r)
theorem Reps.drop {vs : List V} {ts : List T} (n : Nat) (r : Reps K Z S H vs ts) : Reps K Z S H (vs.drop n) (ts.drop n) := by
  induction ts generalizing vs n with
  | nil => cases r; simp; exact .nil
  | cons t ts ih =>
    cases r with
    | cons h r =>
      cases n with
      | zero => exact .cons h r
      | succ n => exact ih n r
theorem Reps.set {vs : List V} {ts : List T} {v : V} {t : T} (n : Nat) (r : Reps K Z S H vs ts) (h : Rep K Z S H v t) : Reps K Z S H (vs.set n v) (ts.set n t) := by
  induction ts generalizing vs n with
  | nil => cases r; exact .nil
  | cons u ts ih =>
    cases r with
    | cons q r =>
      cases n with
      | zero => exact .cons h r
      | succ n => exact .cons q (ih n r)
theorem Reps.reverse {vs : List V} {ts : List T} (r : Reps K Z S H vs ts) : Reps K Z S H vs.reverse ts.reverse := by
  induction ts generalizing vs with
  | nil => cases r; exact .nil
  | cons u ts ih =>
    cases r with
    | cons q r => rw [List.reverse_cons, List.reverse_cons]; exact (ih r).append (.cons q .nil)
theorem RepF.look {fs : List (Str × V)} {gs : List (Str × T)} {f : Str} {t : T} (r : RepF K Z S H fs gs) (h : gs.lookup f = some t) : ∃ v, fs.lookup f = some v ∧ Rep K Z S H v t := by
  induction gs generalizing fs with
  | nil => cases h
  | cons g gs ih =>
    cases r with
    | @cons n v u vs ts q r =>
      by_cases e : f = n
      · subst e
        simp only [List.lookup, beq_self_eq_true] at h ⊢
        cases h
        exact ⟨_, rfl, q⟩
      · have e' : (f == n) = false := by simpa using e
        simp only [List.lookup, e'] at h ⊢
        exact ih r h
theorem RepF.lookN {fs : List (Str × V)} {gs : List (Str × T)} {f : Str} (r : RepF K Z S H fs gs) (h : gs.lookup f = none) : fs.lookup f = none := by
  induction gs generalizing fs with
  | nil => cases r; rfl
  | cons g gs ih =>
    cases r with
    | @cons n v u vs ts q r =>
      by_cases e : f = n
      · subst e
        simp only [List.lookup, beq_self_eq_true] at h
        cases h
      · have e' : (f == n) = false := by simpa using e
        simp only [List.lookup, e'] at h ⊢
        exact ih r h
theorem RepF.length {fs : List (Str × V)} {gs : List (Str × T)} (r : RepF K Z S H fs gs) : fs.length = gs.length := by
  induction gs generalizing fs with
  | nil => cases r; rfl
  | cons g gs ih => cases r with | cons q r => simp [ih r]
/-- a new thing is laid -/
theorem le_new {p : Addr} {o : HO} (h : H p = none) : Le S H S (upd H p o) := fun a u e n => ⟨by rw [upd_ne (ne_of_none e h)]; exact e, n⟩
theorem Ok.free {p : Addr} (ok : Ok K Z S H) (h : H p = none) : S p = none := by
  have := ok.cl p
  cases e : S p with
  | none => rfl
  | some c =>
    rw [e] at this
    cases c with
    | lst ts => obtain ⟨vs, q, _⟩ := this; rw [h] at q; cases q
    | ins C gs => obtain ⟨dx, fs, q, _⟩ := this; rw [h] at q; cases q
theorem Ok.nz {p : Addr} (ok : Ok K Z S H) (h : H p = none) : ¬ Z p := fun z => by
  obtain ⟨_, o, e⟩ := ok.hid p z
  rw [h] at e; cases e
theorem Ok.nzc {p : Addr} {c : Cell} (ok : Ok K Z S H) (h : S p = some c) : ¬ Z p := fun z => by
  obtain ⟨e, _⟩ := ok.hid p z
  rw [h] at e; cases e
theorem CellOk.le {a : Addr} (k : CellOk K Z S H a (S a)) (l : Le S H S' H') (c : S a ≠ none → H' a = H a) : CellOk K Z S' H' a (S a) := by
  cases e : S a with
  | none => trivial
  | some x =>
    rw [e] at k
    have ca := c (by rw [e]; exact fun z => nomatch z)
    cases x with
    | lst ts => obtain ⟨vs, q, r⟩ := k; exact ⟨vs, by rw [ca]; exact q, r.le l⟩
    | ins C gs => obtain ⟨dx, fs, q, r⟩ := k; exact ⟨dx, fs, by rw [ca]; exact q, r.le l⟩
theorem Ok.le (ok : Ok K Z S H) (l : Le S H S H') (c : ∀ a, S a ≠ none → H' a = H a) : Ok K Z S H' :=
  ⟨fun a => (ok.cl a).le l (c a), fun a z => by
    obtain ⟨n, o, e⟩ := ok.hid a z
    exact ⟨n, o, (l a o e n).1⟩⟩
theorem Ok.new {p : Addr} {o : HO} (ok : Ok K Z S H) (h : H p = none) : Ok K Z S (upd H p o) :=
  ok.le (le_new h) fun a n => upd_ne fun e => n (by rw [e]; exact ok.free h)
theorem Rep.tupN {p : Addr} {vs : List V} {ts : List T} (ok : Ok K Z S H) (h : H p = none) (r : Reps K Z S H vs ts) : Rep K Z S (upd H p (.tup vs)) (.ref p) (.tup ts) :=
  .tup (.inl ⟨.inl upd_same, ok.free h, ok.nz h⟩) (r.le (le_new h))
theorem Rep.lstN {p : Addr} {vs : List V} {ts : List T} (ok : Ok K Z S H) (h : H p = none) (r : Reps K Z S H vs ts) : Rep K Z S (upd H p (.lst vs)) (.ref p) (.lst ts) :=
  .lst ⟨upd_same, ok.free h, ok.nz h⟩ (r.le (le_new h))
/-- a new cell -/
theorem le_newc {p : Addr} {o : HO} {c : Cell} (h : H p = none) : Le S H (S.put p c) (upd H p o) := fun a u e n => by
  have ne := ne_of_none e h
  exact ⟨by rw [upd_ne ne]; exact e, by rw [put_ne ne]; exact n⟩
theorem Ok.putG {p : Addr} {c : Cell} (ok : Ok K Z S H) (l : Le S H (S.put p c) H') (nz : ¬ Z p) (st : ∀ a, a ≠ p → S a ≠ none → H' a = H a) (new : CellOk K Z (S.put p c) H' p (some c)) : Ok K Z (S.put p c) H' := by
  refine ⟨fun a => ?_, fun a z => ?_⟩
  · by_cases e : a = p
    · subst e; rw [put_same]; exact new
    · rw [put_ne e]
      exact (ok.cl a).le l (st a e)
  · have e : a ≠ p := fun e => nz (e ▸ z)
    obtain ⟨n, o, h⟩ := ok.hid a z
    exact ⟨by rw [put_ne e]; exact n, o, (l a o h n).1⟩
theorem Ok.put {p : Addr} {o : HO} {c : Cell} (ok : Ok K Z S H) (l : Le S H (S.put p c) (upd H p o)) (nz : ¬ Z p) (new : CellOk K Z (S.put p c) (upd H p o) p (some c)) : Ok K Z (S.put p c) (upd H p o) :=
  ok.putG l nz (fun a e _ => upd_ne e) new
/-- a cell changes -/
theorem le_setc {p : Addr} {o : HO} {c d : Cell} (h : S p = some d) : Le S H (S.put p c) (upd H p o) := fun a u e n => by
  have ne : a ≠ p := fun z => by rw [z, h] at n; cases n
  exact ⟨by rw [upd_ne ne]; exact e, by rw [put_ne ne]; exact n⟩
/-- a cell ceases to change -/
theorem le_drop {p : Addr} : Le S H (S.drop p) H := fun a u e n => ⟨e, by
  by_cases z : a = p
  · rw [z]; exact drop_same
  · rw [drop_ne z]; exact n⟩
theorem Ok.drop {p : Addr} (ok : Ok K Z S H) : Ok K Z (S.drop p) H := by
  refine ⟨fun a => ?_, fun a z => ?_⟩
  · by_cases e : a = p
    · rw [e, drop_same]; trivial
    · rw [drop_ne e]
      exact (ok.cl a).le le_drop fun _ => rfl
  · obtain ⟨n, h⟩ := ok.hid a z
    refine ⟨?_, h⟩
    by_cases e : a = p
    · rw [e]; exact drop_same
    · rw [drop_ne e]; exact n
theorem Rep.frz {p : Addr} {ts : List T} (ok : Ok K Z S H) (h : S p = some (.lst ts)) : Rep K Z (S.drop p) H (.ref p) (.lst ts) := by
  have := ok.cl p
  rw [h] at this
  obtain ⟨vs, q, r⟩ := this
  exact .lst ⟨q, drop_same, ok.nzc h⟩ (r.le le_drop)
theorem Rep.frzI {p C : Addr} {gs : List (Str × T)} (ok : Ok K Z S H) (h : S p = some (.ins C gs)) : Rep K Z (S.drop p) H (.ref p) (.ins C gs) := by
  have := ok.cl p
  rw [h] at this
  obtain ⟨dx, fs, q, r⟩ := this
  exact .ins q ⟨drop_same, ok.nzc h⟩ (r.le le_drop)
/-- p is hidden from now on; it was new -/
def hideA (Z : Addr → Prop) (p : Addr) : Addr → Prop := fun a => Z a ∨ a = p
/-- more is hidden, of what was not there -/
def Hid (H : Hp) (Z Z' : Addr → Prop) : Prop := ∀ a, Z' a → Z a ∨ H a = none
theorem hid_a {p : Addr} (h : H p = none) : Hid H Z (hideA Z p) := fun a z => z.imp id fun e => by rw [e]; exact h
theorem Hid.rd {Z' : Addr → Prop} {p : Addr} {u : HO} (x : Hid H Z Z') (n : ¬ Z p) (r : Rd H p u) : ¬ Z' p := fun z => by
  rcases x p z with z | e
  · exact n z
  · rcases r with r | ⟨_, r⟩ <;> (rw [e] at r; cases r)
theorem TupAt.hide {Z' : Addr → Prop} {p : Addr} {vs : List V} (x : Hid H Z Z') (h : TupAt K Z S H p vs) : TupAt K Z' S H p vs := h.imp (fun ⟨a, b, c⟩ => ⟨a, b, x.rd c a⟩) id
theorem LstAt.hide {Z' : Addr → Prop} {p : Addr} {vs : List V} (x : Hid H Z Z') (h : LstAt Z S H p vs) : LstAt Z' S H p vs := ⟨h.1, h.2.1, x.rd h.2.2 (.inl h.1)⟩
theorem ScrAt.hide {Z' : Addr → Prop} {p : Addr} {vs : List V} (x : Hid H Z Z') (h : ScrAt K Z S H p vs) : ScrAt K Z' S H p vs := h.imp (fun ⟨⟨o, a⟩, b, c⟩ => ⟨⟨o, a⟩, b, fun z => by
  rcases x p z with z | e
  · exact c z
  · rw [e] at a; cases a⟩) id
mutual
theorem Rep.hide {Z' : Addr → Prop} (x : Hid H Z Z') : ∀ {v : V} {t : T}, Rep K Z S H v t → Rep K Z' S H v t
  | _, _, .non => .non
  | _, _, .bl b => .bl b
  | _, _, .int i => .int i
  | _, _, .str z => .str z
  | _, _, .ty n => .ty n
  | _, _, .st a => .st a
  | _, _, .cell a => .cell a
  | _, _, .tup h r => .tup (h.hide x) (Reps.hide x r)
  | _, _, .lst h r => .lst (h.hide x) (Reps.hide x r)
  | _, _, .scr h r => .scr (h.hide x) (Reps.hide x r)
  | _, _, .ins h n r => .ins h ⟨n.1, x.rd n.2 (.inl h)⟩ (RepF.hide x r)
theorem Reps.hide {Z' : Addr → Prop} (x : Hid H Z Z') : ∀ {vs : List V} {ts : List T}, Reps K Z S H vs ts → Reps K Z' S H vs ts
  | _, _, .nil => .nil
  | _, _, .cons h r => .cons (Rep.hide x h) (Reps.hide x r)
theorem RepF.hide {Z' : Addr → Prop} (x : Hid H Z Z') : ∀ {vs : List (Str × V)} {ts : List (Str × T)}, RepF K Z S H vs ts → RepF K Z' S H vs ts
  | _, _, .nil => .nil
  | _, _, .cons h r => .cons (Rep.hide x h) (RepF.hide x r)
end
mutual
theorem Rep.show {p : Addr} : ∀ {v : V} {t : T}, Rep K (hideA Z p) S H v t → Rep K Z S H v t
  | _, _, .non => .non
  | _, _, .bl b => .bl b
  | _, _, .int i => .int i
  | _, _, .str z => .str z
  | _, _, .ty n => .ty n
  | _, _, .st a => .st a
  | _, _, .cell a => .cell a
  | _, _, .tup h r => .tup (h.imp (fun ⟨a, b, c⟩ => ⟨a, b, fun z => c (.inl z)⟩) id) (Reps.show r)
  | _, _, .lst h r => .lst ⟨h.1, h.2.1, fun z => h.2.2 (.inl z)⟩ (Reps.show r)
  | _, _, .scr h r => .scr (h.imp (fun ⟨a, b, c⟩ => ⟨a, b, fun z => c (.inl z)⟩) id) (Reps.show r)
  | _, _, .ins h n r => .ins h ⟨n.1, fun z => n.2 (.inl z)⟩ (RepF.show r)
theorem Reps.show {p : Addr} : ∀ {vs : List V} {ts : List T}, Reps K (hideA Z p) S H vs ts → Reps K Z S H vs ts
  | _, _, .nil => .nil
  | _, _, .cons h r => .cons (Rep.show h) (Reps.show r)
theorem RepF.show {p : Addr} : ∀ {vs : List (Str × V)} {ts : List (Str × T)}, RepF K (hideA Z p) S H vs ts → RepF K Z S H vs ts
  | _, _, .nil => .nil
  | _, _, .cons h r => .cons (Rep.show h) (RepF.show r)
end
theorem CellOk.map {Z' : Addr → Prop} {a : Addr} {c : Option Cell} (k : CellOk K Z S H a c) (f : ∀ {vs ts}, Reps K Z S H vs ts → Reps K Z' S' H' vs ts) (g : ∀ {vs ts}, RepF K Z S H vs ts → RepF K Z' S' H' vs ts) (e : c ≠ none → H' a = H a) : CellOk K Z' S' H' a c := by
  cases c with
  | none => trivial
  | some x =>
    have ca := e (fun z => nomatch z)
    cases x with
    | lst ts => obtain ⟨vs, q, r⟩ := k; exact ⟨vs, by rw [ca]; exact q, f r⟩
    | ins C gs => obtain ⟨dx, fs, q, r⟩ := k; exact ⟨dx, fs, by rw [ca]; exact q, g r⟩
/-- a hidden thing is laid -/
theorem Ok.hide {p : Addr} {o : HO} (ok : Ok K Z S H) (h : H p = none) : Ok K (hideA Z p) S (upd H p o) := by
  have ne : ∀ a, S a ≠ none → a ≠ p := fun a n e => n (by rw [e]; exact ok.free h)
  refine ⟨fun a => (ok.cl a).map (fun r => (r.hide (hid_a h)).le (le_new h)) (fun r => (r.hide (hid_a h)).le (le_new h)) fun n => upd_ne (ne a n), fun a z => ?_⟩
  rcases z with z | rfl
  · obtain ⟨n, u, e⟩ := ok.hid a z
    exact ⟨n, u, ((le_new (S := S) (o := o) h) a u e n).1⟩
  · exact ⟨ok.free h, o, upd_same⟩
/-- it changes -/
theorem lz_hid {p : Addr} {o : HO} : LeZ (hideA Z p) S H S (upd H p o) := fun a u e n z => ⟨by rw [upd_ne fun q => z (.inr q)]; exact e, n⟩
theorem Ok.hidSet {p : Addr} {o : HO} (ok : Ok K (hideA Z p) S H) : Ok K (hideA Z p) S (upd H p o) := by
  have ne : ∀ a, S a ≠ none → a ≠ p := fun a n e => n (by rw [e]; exact (ok.hid p (.inr rfl)).1)
  refine ⟨fun a => (ok.cl a).map (fun r => r.lz lz_hid) (fun r => r.lz lz_hid) fun n => upd_ne (ne a n), fun a z => ?_⟩
  obtain ⟨n, u, e⟩ := ok.hid a z
  by_cases q : a = p
  · subst q; exact ⟨n, o, upd_same⟩
  · exact ⟨n, u, by rw [upd_ne q]; exact e⟩
/-- it is shown -/
theorem Ok.show {p : Addr} (ok : Ok K (hideA Z p) S H) : Ok K Z S H :=
  ⟨fun a => (ok.cl a).map (fun r => r.show) (fun r => r.show) fun _ => rfl, fun a z => ok.hid a (.inl z)⟩
end
/-! ### the names of a def -/
inductive FrR (K : PySem.W.Frag) (Z : Addr → Prop) (S : Store) (H : Hp) : List (Option V) → List (Option T) → Prop
  | nil : FrR K Z S H [] []
  | skip {x : Option V} {l : List (Option V)} {m : List (Option T)} (r : FrR K Z S H l m) : FrR K Z S H (x :: l) (none :: m)
  | cons {v : V} {t : T} {l : List (Option V)} {m : List (Option T)} (h : Rep K Z S H v t) (r : FrR K Z S H l m) : FrR K Z S H (some v :: l) (some t :: m)
section
variable {K : PySem.W.Frag} {Z : Addr → Prop} {S S' S2 : Store} {H H' H2 : Hp}
theorem FrR.le {sl : List (Option V)} {σ : List (Option T)} (f : FrR K Z S H sl σ) (l : Le S H S' H') : FrR K Z S' H' sl σ := by
  induction f with
  | nil => exact .nil
  | skip _ ih => exact .skip ih
  | cons h _ ih => exact .cons (h.le l) ih
theorem FrR.get {sl : List (Option V)} {σ : List (Option T)} {i : Nat} {t : T} (f : FrR K Z S H sl σ) (h : σ[i]? = some (some t)) : ∃ v, sl[i]? = some (some v) ∧ Rep K Z S H v t := by
  induction f generalizing i with
  | nil => cases h
  | skip _ ih =>
    cases i with
    | zero => cases h
    | succ i => exact ih h
  | cons q _ ih =>
    cases i with
    | zero => cases h; exact ⟨_, rfl, q⟩
    | succ i => exact ih h
theorem FrR.set {sl : List (Option V)} {σ : List (Option T)} {v : V} {t : T} (i : Nat) (f : FrR K Z S H sl σ) (h : Rep K Z S H v t) : FrR K Z S H (sl.set i (some v)) (σ.set i (some t)) := by
  induction f generalizing i with
  | nil => exact .nil
  | skip r ih =>
    cases i with
    | zero => exact .cons h r
    | succ i => exact .skip (ih i)
  | cons q r ih =>
    cases i with
    | zero => exact .cons h r
    | succ i => exact .cons q (ih i)
theorem FrR.hide {Z' : Addr → Prop} {sl : List (Option V)} {σ : List (Option T)} (x : Hid H Z Z') (f : FrR K Z S H sl σ) : FrR K Z' S H sl σ := by
  induction f with
  | nil => exact .nil
  | skip _ ih => exact .skip ih
  | cons h _ ih => exact .cons (h.hide x) ih
theorem FrR.lz {sl : List (Option V)} {σ : List (Option T)} (f : FrR K Z S H sl σ) (l : LeZ Z S H S' H') : FrR K Z S' H' sl σ := by
  induction f with
  | nil => exact .nil
  | skip _ ih => exact .skip ih
  | cons h _ ih => exact .cons (h.lz l) ih
theorem FrR.length {sl : List (Option V)} {σ : List (Option T)} (f : FrR K Z S H sl σ) : sl.length = σ.length := by
  induction f with
  | nil => rfl
  | skip _ ih => simp [ih]
  | cons _ _ ih => simp [ih]
def startT (N : List Str) (ts : List T) : List (Option T) := ts.map some ++ List.replicate (N.length - ts.length) none
theorem FrR.reps {vs : List V} {ts : List T} (r : Reps K Z S H vs ts) {l : List (Option V)} {m : List (Option T)} (f : FrR K Z S H l m) : FrR K Z S H (vs.map some ++ l) (ts.map some ++ m) := by
  induction ts generalizing vs with
  | nil => cases r; exact f
  | cons t ts ih => cases r with | cons h r => exact .cons h (ih r)
theorem FrR.nones (n : Nat) : FrR K Z S H (List.replicate n none) (List.replicate n none) := by
  induction n with
  | zero => exact .nil
  | succ n ih => exact .skip ih
theorem FrR.start {N : List Str} {vs : List V} {ts : List T} (r : Reps K Z S H vs ts) : FrR K Z S H (start N vs) (startT N ts) := by
  unfold L2.start startT
  rw [r.length]
  exact FrR.reps r (FrR.nones _)
end

theorem pe_weak {X : Cx} {e : Expr} {t t' : TE} (he : PE X e t) (imp : ∀ sl H Q, t' sl H Q → t sl H Q) : PE X e t' := ⟨fun pins s sl H Q inv h => he.run pins s sl H Q inv (imp sl H Q h)⟩
/-! ### what trees are to fulfil -/
abbrev Fm := List (Option T)
abbrev XT := Addr → List (Str × T) → Store → Prop
abbrev TR := Fm → Store → (T → Store → Prop) → XT → Prop
abbrev TRB := Fm → Store → (Bool → Store → Prop) → XT → Prop
abbrev TRA := Fm → Store → (List T → Store → Prop) → XT → Prop
structure EnT where
  nx : Fm → Store → Prop
  rt : T → Store → Prop
  ex : XT
  bk : Fm → Store → Prop := fun _ _ => False
  ct : Fm → Store → Prop := fun _ _ => False
abbrev TRS := EnT → Fm → Store → Prop
def XD (H : Hp) (od : Option Addr) (fs : List (Str × V)) : Prop := match od with
  | some d => H d = some (.xd fs)
  | none => fs = []
section
variable (K : PySem.W.Frag) (Z : Addr → Prop) (S : Store) (H : Hp)
def XOk (RE : XT) (E : XK) : Prop := ∀ C gs S' od fs H', RE C gs S' → Le S H S' H' → Ok K Z S' H' → XD H' od fs → RepF K Z S' H' fs gs → E (.ref C) od H'
def PO (R : T → Store → Prop) (Q : VK) : Prop := ∀ t S' v H', R t S' → Le S H S' H' → Ok K Z S' H' → Rep K Z S' H' v t → Q v H'
def POB (R : Bool → Store → Prop) (Q : Bool → Hp → Prop) : Prop := ∀ b S' H', R b S' → Le S H S' H' → Ok K Z S' H' → Q b H'
def POA (R : List T → Store → Prop) (Q : List V → Hp → Prop) : Prop := ∀ ts S' vs H', R ts S' → Le S H S' H' → Ok K Z S' H' → Reps K Z S' H' vs ts → Q vs H'
def POF (R : Fm → Store → Prop) (Q : L2.St → Hp → Prop) : Prop := ∀ σ S' sl H', R σ S' → Le S H S' H' → Ok K Z S' H' → FrR K Z S' H' sl σ → Q sl H'
end
structure UpE (K : PySem.W.Frag) (E : XK) (r : TR) (sl : L2.St) (H : Hp) (Q : VK) : Prop where
  ex : ∃ Z σ S R RE, FrR K Z S H sl σ ∧ Ok K Z S H ∧ r σ S R RE ∧ PO K Z S H R Q ∧ XOk K Z S H RE E
structure UpB (K : PySem.W.Frag) (E : XK) (r : TRB) (sl : L2.St) (H : Hp) (Q : Bool → Hp → Prop) : Prop where
  ex : ∃ Z σ S R RE, FrR K Z S H sl σ ∧ Ok K Z S H ∧ r σ S R RE ∧ POB K Z S H R Q ∧ XOk K Z S H RE E
structure UpA (K : PySem.W.Frag) (E : XK) (r : TRA) (sl : L2.St) (H : Hp) (Q : List V → Hp → Prop) : Prop where
  ex : ∃ Z σ S R RE, FrR K Z S H sl σ ∧ Ok K Z S H ∧ r σ S R RE ∧ POA K Z S H R Q ∧ XOk K Z S H RE E
structure EO (K : PySem.W.Frag) (Z : Addr → Prop) (S : Store) (H : Hp) (DT : EnT) (D : Ends) : Prop where
  nx : POF K Z S H DT.nx D.nx
  rt : PO K Z S H DT.rt D.rt
  bk : POF K Z S H DT.bk D.bk
  ct : POF K Z S H DT.ct D.ct
structure UpS (K : PySem.W.Frag) (E : XK) (r : TRS) (D : Ends) (sl : L2.St) (H : Hp) : Prop where
  ex : ∃ Z σ S DT, FrR K Z S H sl σ ∧ Ok K Z S H ∧ r DT σ S ∧ EO K Z S H DT D ∧ XOk K Z S H DT.ex E
structure ET (X : Cx) (E : XK) (e : Expr) (r : TR) : Prop where
  pe : PE X e (UpE X.K E r)
structure TT' (X : Cx) (E : XK) (e : Expr) (r : TRB) : Prop where
  pt : PT X e (UpB X.K E r)
structure TW' (X : Cx) (E : XK) (e : Expr) (r : TRB) : Prop where
  pw : PW X e (UpB X.K E r)
structure AT (X : Cx) (E : XK) (es : List Expr) (r : TRA) : Prop where
  pa : PA X es (UpA X.K E r)
structure SS (X : Cx) (E : XK) (st : Stmt) (r : TRS) : Prop where
  ps : PS X st (UpS X.K E r)
structure BS (X : Cx) (E : XK) (st : List Stmt) (r : TRS) : Prop where
  ps : PSs X st (UpS X.K E r)
section
variable {K : PySem.W.Frag} {Z : Addr → Prop} {S S1 S2 : Store} {H H1 H2 : Hp} {E : XK} {Q : VK} {sl : L2.St} {ra rb : TR}
theorem XOk.le {RE : XT} (x : XOk K Z S H RE E) (l : Le S H S1 H1) : XOk K Z S1 H1 RE E := fun C gs S' od fs H' r l' ok d rf => x C gs S' od fs H' r (l.trans l') ok d rf
theorem PO.le {R : T → Store → Prop} (x : PO K Z S H R Q) (l : Le S H S1 H1) : PO K Z S1 H1 R Q := fun t S' v H' r l' ok rep => x t S' v H' r (l.trans l') ok rep
theorem POB.le {R : Bool → Store → Prop} {Q : Bool → Hp → Prop} (x : POB K Z S H R Q) (l : Le S H S1 H1) : POB K Z S1 H1 R Q := fun t S' H' r l' ok => x t S' H' r (l.trans l') ok
theorem POA.le {R : List T → Store → Prop} {Q : List V → Hp → Prop} (x : POA K Z S H R Q) (l : Le S H S1 H1) : POA K Z S1 H1 R Q := fun t S' v H' r l' ok rep => x t S' v H' r (l.trans l') ok rep
theorem POF.le {R : Fm → Store → Prop} {Q : L2.St → Hp → Prop} (x : POF K Z S H R Q) (l : Le S H S1 H1) : POF K Z S1 H1 R Q := fun t S' v H' r l' ok rep => x t S' v H' r (l.trans l') ok rep
theorem EO.le {DT : EnT} {D : Ends} (x : EO K Z S H DT D) (l : Le S H S1 H1) : EO K Z S1 H1 DT D := ⟨x.nx.le l, x.rt.le l, x.bk.le l, x.ct.le l⟩
/-- one part, then the rest -/
theorem UpE.one {k : Fm → T → Store → (T → Store → Prop) → XT → Prop} {Q' : VK} (h : UpE K E (fun σ S R RE => ra σ S (fun x S1 => k σ x S1 R RE) RE) sl H Q)
    (step : ∀ Z σ x S1 v H1 R RE, FrR K Z S1 H1 sl σ → Ok K Z S1 H1 → Rep K Z S1 H1 v x → k σ x S1 R RE → PO K Z S1 H1 R Q → XOk K Z S1 H1 RE E → Q' v H1) : UpE K E ra sl H Q' := by
  obtain ⟨Z, σ, S, R, RE, fr, ok, w, po, xo⟩ := h.ex
  exact ⟨_, σ, S, _, RE, fr, ok, w, fun x S1 v H1 kk le ok1 rep => step Z σ x S1 v H1 R RE (fr.le le) ok1 rep kk (po.le le) (xo.le le), xo⟩
/-- two parts, then the rest -/
theorem UpE.two {k : T → T → Store → (T → Store → Prop) → XT → Prop} {Q2 : V → V → Hp → Prop} (h : UpE K E (fun σ S R RE => ra σ S (fun x S1 => rb σ S1 (fun y S2 => k x y S2 R RE) RE) RE) sl H Q)
    (step : ∀ Z x y S2 v u H2 R RE, Ok K Z S2 H2 → Rep K Z S2 H2 v x → Rep K Z S2 H2 u y → k x y S2 R RE → PO K Z S2 H2 R Q → XOk K Z S2 H2 RE E → Q2 v u H2) :
    UpE K E ra sl H (fun v H1 => UpE K E rb sl H1 (fun u H2 => Q2 v u H2)) := by
  obtain ⟨Z, σ, S, R, RE, fr, ok, w, po, xo⟩ := h.ex
  refine ⟨_, σ, S, _, RE, fr, ok, w, fun x S1 v H1 kk le ok1 rep => ?_, xo⟩
  exact ⟨_, σ, S1, _, RE, fr.le le, ok1, kk, fun y S2 u H2 k2 le2 ok2 rep2 => step Z x y S2 v u H2 R RE ok2 (rep.le le2) rep2 k2 ((po.le le).le le2) ((xo.le le).le le2), xo.le le⟩
theorem UpA.args {t : TRA} {k : List T → Store → (T → Store → Prop) → XT → Prop} {Q' : List V → Hp → Prop} (h : UpE K E (fun σ S R RE => t σ S (fun x S1 => k x S1 R RE) RE) sl H Q)
    (step : ∀ Z x S1 v H1 R RE, Ok K Z S1 H1 → Reps K Z S1 H1 v x → k x S1 R RE → PO K Z S1 H1 R Q → XOk K Z S1 H1 RE E → Q' v H1) : UpA K E t sl H Q' := by
  obtain ⟨Z, σ, S, R, RE, fr, ok, w, po, xo⟩ := h.ex
  exact ⟨_, σ, S, _, RE, fr, ok, w, fun x S1 v H1 kk le ok1 rep => step Z x S1 v H1 R RE ok1 rep kk (po.le le) (xo.le le), xo⟩
end
section
variable {X : Cx} {E : XK} {e a b c : Expr} {es : List Expr} {pos : Pos} {ra rb rc : TR}
/-! ### names, constants -/
def rVar (i : Nat) : TR := fun σ S R _ => ∃ t, σ[i]? = some (some t) ∧ R t S
theorem et_var {i : Nat} (h : PE X e (tVar i)) : ET X E e (rVar i) := ⟨pe_weak h fun sl H Q ⟨⟨Z, σ, S, R, RE, fr, ok, ⟨t, hi, r⟩, po, _⟩⟩ => by
  obtain ⟨v, hv, rep⟩ := fr.get hi
  exact ⟨v, hv, po t S v H r .refl ok rep⟩⟩
/-- a name whose list changes no more -/
def rFrz (i : Nat) : TR := fun σ S R _ => ∃ a ts, σ[i]? = some (some (.cell a)) ∧ S a = some (.lst ts) ∧ R (.lst ts) (S.drop a)
theorem et_frz {i : Nat} (h : PE X e (tVar i)) : ET X E e (rFrz i) := ⟨pe_weak h fun sl H Q ⟨⟨Z, σ, S, R, RE, fr, ok, ⟨a, ts, hi, hs, r⟩, po, _⟩⟩ => by
  obtain ⟨v, hv, rep⟩ := fr.get hi
  cases rep
  exact ⟨_, hv, po _ (S.drop a) _ H r le_drop ok.drop (.frz ok hs)⟩⟩
def rC (t : T) : TR := fun _ S R _ => R t S
theorem et_c {v : V} {t : T} (h : PE X e (tC v)) (rep : ∀ Z S H, Rep X.K Z S H v t) : ET X E e (rC t) := ⟨pe_weak h fun sl H Q ⟨⟨Z, σ, S, R, RE, fr, ok, r, po, _⟩⟩ => po t S v H r .refl ok (rep Z S H)⟩
theorem et_int {i : Int} {j} : ET X E (.Constant (.int i) j pos) (rC (.int i)) := et_c pe_int fun _ _ _ => .int i
theorem et_bl {i : Bool} {j} : ET X E (.Constant (.bool i) j pos) (rC (.bl i)) := et_c pe_bl fun _ _ _ => .bl i
theorem et_non {j} : ET X E (.Constant .none j pos) (rC .non) := et_c pe_non fun _ _ _ => .non
theorem et_str {z : Str} {j} : ET X E (.Constant (.str z) j pos) (rC (.str z)) := et_c pe_str fun _ _ _ => .str z
theorem et_glob {x : Str} {a : Addr} (hg : Gl X x) (hm : X.mg x = some (.ref a)) (hd : (x == ("__debug__" : Str)) = false := by decide) : ET X E (.Name x pos) (rC (.st a)) := et_c (pe_glob (v := .ref a) hg hm rfl hd) fun _ _ _ => .st a
theorem et_globI {x : Str} {i : Int} {tk : Tok} (hg : Gl X x) (hm : X.mg x = some (.int i tk)) (hd : (x == ("__debug__" : Str)) = false := by decide) : ET X E (.Name x pos) (rC (.int i)) := et_c (pe_glob (v := .int i) hg hm ⟨_, rfl⟩ hd) fun _ _ _ => .int i
theorem et_blty {x : Str} {n : String} (hg : Gl X x) (hm : X.mg x = none) (hv : bootBuiltins x = some (.type n)) (hn : x ≠ "__name__" := by decide) (hd : (x == ("__debug__" : Str)) = false := by decide) : ET X E (.Name x pos) (rC (.ty n)) :=
  et_c (pe_bltn (v := .ty n) hg hm hv rfl hn hd) fun _ _ _ => .ty n
/-! ### operators, by values -/
def rBin (k : T → T → Store → (T → Store → Prop) → XT → Prop) (ra rb : TR) : TR := fun σ S R RE => ra σ S (fun x S1 => rb σ S1 (fun y S2 => k x y S2 R RE) RE) RE
/-- an operator's rule in the layer follows from one about trees -/
def Conv (K : PySem.W.Frag) (E : XK) (k : T → T → Store → (T → Store → Prop) → XT → Prop) (r : R2) : Prop := ∀ Z x y S v u H R RE Q, Ok K Z S H → Rep K Z S H v x → Rep K Z S H u y → k x y S R RE → PO K Z S H R Q → XOk K Z S H RE E → r v u H Q
theorem et_op {op : Operator} {r : R2} {k} (ho : OpR X (binaryOp op) r) (cv : Conv X.K E k r) (ha : ET X E a ra) (hb : ET X E b rb) : ET X E (.BinOp a op b pos) (rBin k ra rb) :=
  ⟨pe_weak (pe_op ho ha.pe hb.pe) fun sl H Q h => UpE.two h fun Z x y S2 v u H2 R RE ok rx ry kk po xo => cv Z x y S2 v u H2 R RE Q ok rx ry kk po xo⟩
theorem et_cmp {op : CmpOp} {r : R2} {k} (ho : OpR X (compareOp op) r) (cv : Conv X.K E k r) (ha : ET X E a ra) (hb : ET X E b rb) (hm : behindInMarks op b = false) : ET X E (.Compare a [op] [b] pos) (rBin k ra rb) :=
  ⟨pe_weak (pe_cmpR ho ha.pe hb.pe hm) fun sl H Q h => UpE.two h fun Z x y S2 v u H2 R RE ok rx ry kk po xo => cv Z x y S2 v u H2 R RE Q ok rx ry kk po xo⟩
theorem et_ix {r : R2} {k} (ho : IxR X r) (cv : Conv X.K E k r) (ha : ET X E a ra) (hb : ET X E b rb) (hs : PlainIx b) : ET X E (.Subscript a b pos) (rBin k ra rb) :=
  ⟨pe_weak (pe_ix ho ha.pe hb.pe hs) fun sl H Q h => UpE.two h fun Z x y S2 v u H2 R RE ok rx ry kk po xo => cv Z x y S2 v u H2 R RE Q ok rx ry kk po xo⟩
/-- a bool from a value -/
def rTest (ra : TR) : TRB := fun σ S R RE => ra σ S (fun x S1 => ∃ c, x = .bl c ∧ R c S1) RE
theorem UpB.test {K : PySem.W.Frag} {sl : L2.St} {H : Hp} {Q : Bool → Hp → Prop} (h : UpB K E (rTest ra) sl H Q) : UpE K E ra sl H (fun x H1 => ∃ c, x = .bl c ∧ Q c H1) := by
  obtain ⟨Z, σ, S, R, RE, fr, ok, w, po, xo⟩ := h.ex
  refine ⟨_, σ, S, _, RE, fr, ok, w, fun x S1 v H1 kk le ok1 rep => ?_, xo⟩
  obtain ⟨c, rfl, r⟩ := kk
  cases rep
  exact ⟨c, rfl, po c S1 H1 r le ok1⟩
theorem tt_val (ha : ET X E a ra) (he : ∀ whole, isTrue a X.env whole = (do let v ← whole; standAt a.pos; holding [v] (truthy v)) := by intro _; rfl) : TT' X E a (rTest ra) :=
  ⟨⟨fun pins s sl H Q I h => (pt_val ha.pe he).run pins s sl H Q I h.test⟩⟩
theorem tt_cmp {op : CmpOp} {r : R2} {k} (ho : OpR X (compareOp op) r) (cv : Conv X.K E k r) (ha : ET X E a ra) (hb : ET X E b rb) (hm : behindInMarks op b = false) : TT' X E (.Compare a [op] [b] pos) (rTest (rBin k ra rb)) :=
  ⟨⟨fun pins s sl H Q I h => (pt_cmpR ho ha.pe hb.pe hm).run pins s sl H Q I (UpE.two (k := k) h.test fun Z x y S2 v u H2 R RE ok rx ry kk po xo => cv Z x y S2 v u H2 R RE _ ok rx ry kk po xo)⟩⟩
/-! ### and, or, not -/
variable {rest : List Expr} {ta tb tc : TRB}
def bAnd (ta tb : TRB) : TRB := fun σ S R RE => ta σ S (fun c S1 => if c = true then tb σ S1 R RE else R false S1) RE
def bOr (ta tb : TRB) : TRB := fun σ S R RE => ta σ S (fun c S1 => if c = true then R true S1 else tb σ S1 R RE) RE
def bNot (ta : TRB) : TRB := fun σ S R RE => ta σ S (fun c S1 => R (!c) S1) RE
theorem tw_and1 (h : TT' X E a ta) : TW' X E (.BoolOp .And [a] pos) ta := ⟨pw_and1 h.pt⟩
theorem tw_or1 (h : TT' X E a ta) : TW' X E (.BoolOp .Or [a] pos) ta := ⟨pw_or1 h.pt⟩
theorem tw_and (ha : TT' X E a ta) (hb : TW' X E (.BoolOp .And (b :: rest) pos) tb) : TW' X E (.BoolOp .And (a :: b :: rest) pos) (bAnd ta tb) := by
  refine ⟨⟨fun wh pins s sl H Q I h => (pw_and ha.pt hb.pw).run wh pins s sl H Q I ?_⟩⟩
  obtain ⟨Z, σ, S, R, RE, fr, ok, w, po, xo⟩ := h.ex
  refine ⟨_, σ, S, _, RE, fr, ok, w, fun c S1 H1 kk le ok1 => ?_, xo⟩
  cases c with
  | true => exact ⟨_, σ, S1, R, RE, fr.le le, ok1, kk, po.le le, xo.le le⟩
  | false => exact po false S1 H1 kk le ok1
theorem tw_or (ha : TT' X E a ta) (hb : TW' X E (.BoolOp .Or (b :: rest) pos) tb) : TW' X E (.BoolOp .Or (a :: b :: rest) pos) (bOr ta tb) := by
  refine ⟨⟨fun wh pins s sl H Q I h => (pw_or ha.pt hb.pw).run wh pins s sl H Q I ?_⟩⟩
  obtain ⟨Z, σ, S, R, RE, fr, ok, w, po, xo⟩ := h.ex
  refine ⟨_, σ, S, _, RE, fr, ok, w, fun c S1 H1 kk le ok1 => ?_, xo⟩
  cases c with
  | false => exact ⟨_, σ, S1, R, RE, fr.le le, ok1, kk, po.le le, xo.le le⟩
  | true => exact po true S1 H1 kk le ok1
theorem tt_w (h : TW' X E a ta) : TT' X E a ta := ⟨h.pw.pt⟩
theorem tt_not (ha : TT' X E a ta) : TT' X E (.UnaryOp .Not a pos) (bNot ta) := by
  refine ⟨⟨fun pins s sl H Q I h => (pt_not ha.pt).run pins s sl H Q I ?_⟩⟩
  obtain ⟨Z, σ, S, R, RE, fr, ok, w, po, xo⟩ := h.ex
  exact ⟨_, σ, S, _, RE, fr, ok, w, fun c S1 H1 kk le ok1 => po _ S1 H1 kk le ok1, xo⟩
/-- .. as values -/
def vAnd (ra rb : TR) : TR := fun σ S R RE => ra σ S (fun x S1 => ∃ c, x = .bl c ∧ if c = true then rb σ S1 R RE else R (.bl false) S1) RE
def vOr (ra rb : TR) : TR := fun σ S R RE => ra σ S (fun x S1 => ∃ c, x = .bl c ∧ if c = true then R (.bl true) S1 else rb σ S1 R RE) RE
def vNot (ra : TR) : TR := fun σ S R RE => ra σ S (fun x S1 => ∃ c, x = .bl c ∧ R (.bl (!c)) S1) RE
theorem et_one {op} (h : ET X E a ra) : ET X E (.BoolOp op [a] pos) ra := ⟨pe_one h.pe⟩
theorem et_and (ha : ET X E a ra) (hb : ET X E (.BoolOp .And (b :: rest) pos) rb) : ET X E (.BoolOp .And (a :: b :: rest) pos) (vAnd ra rb) :=
  ⟨pe_weak (pe_and ha.pe hb.pe) fun sl H Q h => UpE.one (k := fun σ x S1 R RE => ∃ c, x = .bl c ∧ if c = true then rb σ S1 R RE else R (.bl false) S1) h fun Z σ x S1 v H1 R RE fr ok rx kk po xo => by
    obtain ⟨c, rfl, kk⟩ := kk
    cases rx
    refine ⟨c, rfl, ?_⟩
    cases c with
    | true => exact ⟨_, σ, S1, R, RE, fr, ok, kk, po, xo⟩
    | false => exact po _ S1 _ H1 kk .refl ok (.bl false)⟩
theorem et_or (ha : ET X E a ra) (hb : ET X E (.BoolOp .Or (b :: rest) pos) rb) : ET X E (.BoolOp .Or (a :: b :: rest) pos) (vOr ra rb) :=
  ⟨pe_weak (pe_or ha.pe hb.pe) fun sl H Q h => UpE.one (k := fun σ x S1 R RE => ∃ c, x = .bl c ∧ if c = true then R (.bl true) S1 else rb σ S1 R RE) h fun Z σ x S1 v H1 R RE fr ok rx kk po xo => by
    obtain ⟨c, rfl, kk⟩ := kk
    cases rx
    refine ⟨c, rfl, ?_⟩
    cases c with
    | false => exact ⟨_, σ, S1, R, RE, fr, ok, kk, po, xo⟩
    | true => exact po _ S1 _ H1 kk .refl ok (.bl true)⟩
theorem et_not (ha : ET X E a ra) : ET X E (.UnaryOp .Not a pos) (vNot ra) :=
  ⟨pe_weak (pe_not ha.pe) fun sl H Q h => UpE.one (k := fun σ x S1 R RE => ∃ c, x = .bl c ∧ R (.bl (!c)) S1) h fun Z σ x S1 v H1 R RE fr ok rx kk po xo => by
    obtain ⟨c, rfl, kk⟩ := kk
    cases rx
    exact ⟨c, rfl, po _ S1 _ H1 kk .refl ok (.bl _)⟩⟩
def rIf (tc : TRB) (ra rb : TR) : TR := fun σ S R RE => tc σ S (fun c S1 => if c = true then ra σ S1 R RE else rb σ S1 R RE) RE
theorem et_if (hc : TT' X E c tc) (ha : ET X E a ra) (hb : ET X E b rb) : ET X E (.IfExp c a b pos) (rIf tc ra rb) := by
  refine ⟨pe_weak (pe_ifExp hc.pt ha.pe hb.pe) fun sl H Q h => ?_⟩
  obtain ⟨Z, σ, S, R, RE, fr, ok, w, po, xo⟩ := h.ex
  refine ⟨_, σ, S, _, RE, fr, ok, w, fun c S1 H1 kk le ok1 => ?_, xo⟩
  cases c with
  | true => exact ⟨_, σ, S1, R, RE, fr.le le, ok1, kk, po.le le, xo.le le⟩
  | false => exact ⟨_, σ, S1, R, RE, fr.le le, ok1, kk, po.le le, xo.le le⟩
/-! ### argument lists, displays -/
def aNil : TRA := fun _ S R _ => R [] S
def aCons (ra : TR) (t : TRA) : TRA := fun σ S R RE => ra σ S (fun x S1 => t σ S1 (fun xs S2 => R (x :: xs) S2) RE) RE
theorem at_nil : AT X E [] aNil := ⟨⟨fun pos pins s sl H Q I h => pa_nil.run pos pins s sl H Q I (by
  obtain ⟨Z, σ, S, R, RE, fr, ok, w, po, xo⟩ := h.ex
  exact po [] S [] H w .refl ok .nil)⟩⟩
theorem at_cons {t : TRA} (ha : ET X E e ra) (hr : AT X E es t) (hs : starEach (e :: es) X.env = (false, eval e X.env) :: starEach es X.env := by rfl) : AT X E (e :: es) (aCons ra t) := ⟨⟨fun pos pins s sl H Q I h => (pa_cons ha.pe hr.pa hs).run pos pins s sl H Q I (by
  obtain ⟨Z, σ, S, R, RE, fr, ok, w, po, xo⟩ := h.ex
  refine ⟨_, σ, S, _, RE, fr, ok, w, fun x S1 v H1 kk le ok1 rep => ?_, xo⟩
  exact ⟨_, σ, S1, _, RE, fr.le le, ok1, kk, fun xs S2 vs H2 k2 le2 ok2 rs => po (x :: xs) S2 (v :: vs) H2 k2 (le.trans le2) ok2 (.cons (rep.le le2) rs), xo.le le⟩)⟩⟩
def rTup (t : TRA) : TR := fun σ S R RE => t σ S (fun xs S1 => xs.length ≤ sizeLine ∧ R (.tup xs) S1) RE
def rLst (t : TRA) : TR := fun σ S R RE => t σ S (fun xs S1 => xs.length ≤ sizeLine ∧ R (.lst xs) S1) RE
def rLstC (t : TRA) : TR := fun σ S R RE => t σ S (fun xs S1 => xs.length ≤ sizeLine ∧ ∀ a, S1 a = none → R (.cell a) (S1.put a (.lst xs))) RE
variable {t : TRA}
theorem et_tup {x1} (h : AT X E es t) : ET X E (.Tuple es x1 pos) (rTup t) :=
  ⟨pe_weak (pe_tup h.pa) fun sl H Q h => UpA.args (k := fun xs S1 R RE => xs.length ≤ sizeLine ∧ R (.tup xs) S1) h fun Z xs S1 vs H1 R RE ok rs kk po xo =>
    ⟨by rw [rs.length]; exact kk.1, fun p hp => po _ S1 _ _ kk.2 (le_new hp) (ok.new hp) (.tupN ok hp rs)⟩⟩
theorem et_lst (h : AT X E es t) : ET X E (.List es pos) (rLst t) :=
  ⟨pe_weak (pe_lst h.pa) fun sl H Q h => UpA.args (k := fun xs S1 R RE => xs.length ≤ sizeLine ∧ R (.lst xs) S1) h fun Z xs S1 vs H1 R RE ok rs kk po xo =>
    ⟨by rw [rs.length]; exact kk.1, fun p hp => po _ S1 _ _ kk.2 (le_new hp) (ok.new hp) (.lstN ok hp rs)⟩⟩
theorem et_lstC (h : AT X E es t) : ET X E (.List es pos) (rLstC t) :=
  ⟨pe_weak (pe_lst h.pa) fun sl H Q h => UpA.args (k := fun xs S1 R RE => xs.length ≤ sizeLine ∧ ∀ a, S1 a = none → R (.cell a) (S1.put a (.lst xs))) h fun Z xs S1 vs H1 R RE ok rs kk po xo =>
    ⟨by rw [rs.length]; exact kk.1, fun p hp => by
      have l := le_newc (S := S1) (o := .lst vs) (c := .lst xs) hp
      exact po _ _ _ _ (kk.2 p (ok.free hp)) l (ok.put l (ok.nz hp) ⟨vs, upd_same, rs.le l⟩) (.cell p)⟩⟩
/-- a built-in called with values -/
def rArgs (k : List T → Store → (T → Store → Prop) → XT → Prop) (t : TRA) : TR := fun σ S R RE => t σ S (fun xs S1 => k xs S1 R RE) RE
def ConvA (K : PySem.W.Frag) (E : XK) (k : List T → Store → (T → Store → Prop) → XT → Prop) (r : List V → Hp → VK → Prop) : Prop := ∀ Z xs S vs H R RE Q, Ok K Z S H → Reps K Z S H vs xs → k xs S R RE → PO K Z S H R Q → XOk K Z S H RE E → r vs H Q
theorem et_blt {id : String} {x : Str} {p : Pos} {r : List V → Hp → VK → Prop} {k} (hc : CallR X (.builtin id) r) (cv : ConvA X.K E k r) (hg : Gl X x) (hm : X.mg x = none) (hv : bootBuiltins x = some (.builtin id)) (ha : AT X E (e :: es) t) (hn : x ≠ "__name__" := by decide) (hdb : (x == ("__debug__" : Str)) = false := by decide)
    (he : starEach (e :: es) X.env = (false, eval e X.env) :: starEach es X.env := by rfl) (hpl : (backTo pos (starEach es X.env)).any (·.1) = false := by rfl) : ET X E (.Call (.Name x p) (e :: es) [] pos) (rArgs k t) :=
  ⟨pe_weak (pe_callB hc hg hm hv ha.pa hn hdb he hpl) fun sl H Q h => UpA.args h fun Z xs S1 vs H1 R RE ok rs kk po xo => cv Z xs S1 vs H1 R RE Q ok rs kk po xo⟩
theorem et_typ {T' : String} {x : Str} {p : Pos} {r : List V → Hp → VK → Prop} {k} (hc : CallR X (.type T') r) (cv : ConvA X.K E k r) (hg : Gl X x) (hm : X.mg x = none) (hv : bootBuiltins x = some (.type T')) (ha : AT X E (e :: es) t) (hn : x ≠ "__name__" := by decide) (hdb : (x == ("__debug__" : Str)) = false := by decide)
    (he : starEach (e :: es) X.env = (false, eval e X.env) :: starEach es X.env := by rfl) (hpl : (backTo pos (starEach es X.env)).any (·.1) = false := by rfl) : ET X E (.Call (.Name x p) (e :: es) [] pos) (rArgs k t) :=
  ⟨pe_weak (pe_callTy hc hg hm hv ha.pa hn hdb he hpl) fun sl H Q h => UpA.args h fun Z xs S1 vs H1 R RE ok rs kk po xo => cv Z xs S1 vs H1 R RE Q ok rs kk po xo⟩
end

/-! ### targets -/
abbrev TRG := T → Fm → Store → (Fm → Store → Prop) → XT → Prop
abbrev TRGs := List T → Fm → Store → (Fm → Store → Prop) → XT → Prop
structure UpG (K : PySem.W.Frag) (E : XK) (r : TRG) (v : V) (sl : L2.St) (H : Hp) (Q : L2.St → Hp → Prop) : Prop where
  ex : ∃ Z σ S t R RE, FrR K Z S H sl σ ∧ Ok K Z S H ∧ Rep K Z S H v t ∧ r t σ S R RE ∧ POF K Z S H R Q ∧ XOk K Z S H RE E
structure UpGs (K : PySem.W.Frag) (E : XK) (r : TRGs) (vs : List V) (sl : L2.St) (H : Hp) (Q : L2.St → Hp → Prop) : Prop where
  ex : ∃ Z σ S ts R RE, FrR K Z S H sl σ ∧ Ok K Z S H ∧ Reps K Z S H vs ts ∧ r ts σ S R RE ∧ POF K Z S H R Q ∧ XOk K Z S H RE E
structure GT (X : Cx) (E : XK) (tg : Expr) (r : TRG) : Prop where
  pg : PG X tg (UpG X.K E r)
structure GTs (X : Cx) (E : XK) (ts : List Expr) (r : TRGs) : Prop where
  pg : PGs X ts (UpGs X.K E r)
section
variable {X : Cx} {E : XK} {e a b c : Expr} {es : List Expr} {pos : Pos} {ra rb rc : TR} {g : TRG} {gs : TRGs} {t : TRA}
def gNameT (i : Nat) : TRG := fun t σ S R _ => R (σ.set i (some t)) S
theorem pg_weak {X : Cx} {e : Expr} {t t' : TG} (he : PG X e t) (imp : ∀ v sl H Q, t' v sl H Q → t v sl H Q) : PG X e t' := ⟨fun pins s sl H v u Q inv r h => he.run pins s sl H v u Q inv r (imp v sl H Q h)⟩
theorem gt_name {i : Nat} (h : PG X e (gName i)) : GT X E e (gNameT i) := ⟨pg_weak h fun v sl H Q ⟨⟨Z, σ, S, t, R, RE, fr, ok, rep, r, po, _⟩⟩ => po _ S _ H r .refl ok (fr.set i rep)⟩
def gNilT : TRGs := fun ts σ S R _ => ts = [] ∧ R σ S
def gConsT (g : TRG) (gs : TRGs) : TRGs := fun ts σ S R RE => ∃ x r, ts = x :: r ∧ g x σ S (fun σ1 S1 => gs r σ1 S1 R RE) RE
theorem gts_nil : GTs X E [] gNilT := ⟨⟨fun pins s sl H vs us Q I r ⟨⟨Z, σ, S, ts, R, RE, fr, ok, rep, ⟨e, w⟩, po, _⟩⟩ => by
  subst e
  cases rep
  exact pgs_nil.run pins s sl H [] us Q I r ⟨rfl, po σ S sl H w .refl ok fr⟩⟩⟩
theorem gts_cons (h1 : GT X E e g) (h2 : GTs X E es gs) (hs : (assignEach (e :: es) X.env).map (·.2) = assign e X.env :: (assignEach es X.env).map (·.2) := by rfl) : GTs X E (e :: es) (gConsT g gs) :=
  ⟨⟨fun pins s sl H vs us Q I r ⟨⟨Z, σ, S, ts, R, RE, fr, ok, rep, ⟨x, xs, e, w⟩, po, xo⟩⟩ => by
    subst e
    cases rep with
    | cons rx rr =>
      refine (pgs_cons h1.pg h2.pg hs).run pins s sl H _ us Q I r ⟨_, _, rfl, _, σ, S, x, _, RE, fr, ok, rx, w, fun σ1 S1 sl1 H1 k le ok1 fr1 => ?_, xo⟩
      exact ⟨_, σ1, S1, xs, R, RE, fr1, ok1, rr.le le, k, po.le le, xo.le le⟩⟩⟩
def gTupT (n : Nat) (gs : TRGs) : TRG := fun t σ S R RE => ∃ ts, t = .tup ts ∧ ts.length = n ∧ gs ts σ S R RE
theorem gt_tup {k : Nat} {n : Nat} (hc : X.calm = true) (h : GTs X E es gs) (hn : (assignEach es X.env).length = n := by rfl) (hst : (assignEach es X.env).findIdx? (·.1) = none := by rfl) : GT X E (.Tuple es k pos) (gTupT n gs) :=
  ⟨pg_weak (pg_tup hc h.pg hn hst) fun v sl H Q ⟨⟨Z, σ, S, t, R, RE, fr, ok, rep, ⟨ts, e, l, w⟩, po, xo⟩⟩ => by
    subst e
    cases rep with
    | tup h r => exact ⟨_, _, rfl, h.sq, r.length.trans l, _, σ, S, ts, R, RE, fr, ok, r, w, po, xo⟩⟩
/-- xs[i] = .., xs a list that changes -/
def gSubT (ra rb : TR) : TRG := fun t σ S R RE => ra σ S (fun x S1 => rb σ S1 (fun y S2 => ∃ a ts i j, x = .cell a ∧ y = .int i ∧ S2 a = some (.lst ts) ∧ ixN ts.length i = some j ∧ R σ (S2.put a (.lst (ts.set j t)))) RE) RE
theorem gt_sub {o i : Expr} (ho : ET X E o ra) (hi : ET X E i rb) (ha : ∀ v, assign (.Subscript o i pos) X.env v = (do
      let ov ← holding [v] (eval o X.env)
      let iv ← holding [v, ov] (eval i X.env)
      standAt pos
      holding [v, ov, iv] (setItem ov iv v)
      release [v, ov, iv] []) := by intro _; rfl) : GT X E (.Subscript o i pos) (gSubT ra rb) :=
  ⟨pg_weak (pg_sub ho.pe hi.pe set_list ha) fun v sl H Q ⟨⟨Z, σ, S, t, R, RE, fr, ok, rep, w, po, xo⟩⟩ => by
    refine ⟨_, σ, S, _, RE, fr, ok, w, fun x S1 vx H1 k1 le1 ok1 rx => ?_, xo⟩
    refine ⟨_, σ, S1, _, RE, fr.le le1, ok1, k1, fun y S2 vy H2 k2 le2 ok2 ry => ?_, xo.le le1⟩
    obtain ⟨a, ts, i, j, rfl, rfl, hs, hj, w⟩ := k2
    cases rx; cases ry
    have ca := ok2.cl a
    rw [hs] at ca
    obtain ⟨vs, hv, rs⟩ := ca
    refine ⟨a, vs, i, j, rfl, rfl, hv, by rw [rs.length]; exact hj, ?_⟩
    have l3 : Le S2 H2 (S2.put a (.lst (ts.set j t))) (upd H2 a (.lst (vs.set j v))) := le_setc hs
    exact po _ _ _ _ w ((le1.trans le2).trans l3) (ok2.put l3 (ok2.nzc hs) ⟨_, upd_same, (rs.le l3).set j (((rep.le le1).le le2).le l3)⟩) (((fr.le le1).le le2).le l3)⟩
/-! ### statements -/
def sAsg (ra : TR) (g : TRG) : TRS := fun D σ S => ra σ S (fun x S1 => g x σ S1 D.nx D.ex) D.ex
theorem ps_weak {X : Cx} {e : Stmt} {t t' : TS} (he : PS X e t) (imp : ∀ D sl H, t' D sl H → t D sl H) : PS X e t' := ⟨fun pins s sl H D inv h => he.run pins s sl H D inv (imp D sl H h)⟩
theorem pss_weak {X : Cx} {e : List Stmt} {t t' : TS} (he : PSs X e t) (imp : ∀ D sl H, t' D sl H → t D sl H) : PSs X e t' := ⟨fun pins s sl H D inv h => he.run pins s sl H D inv (imp D sl H h)⟩
theorem ss_asg {tg : Expr} (he : ET X E e ra) (hg : GT X E tg g) (hs : swapsWithSole [tg] e pos.line X.env = pure false := by rfl) (hw : swappedStores [tg] e X.env = pure none := by rfl)
    (h1 : (assignEach [tg] X.env).map (·.2) = [assign tg X.env] := by rfl) : SS X E (.Assign [tg] e pos) (sAsg ra g) :=
  ⟨ps_weak (ps_asg he.pe hg.pg hs hw h1) fun D sl H ⟨⟨Z, σ, S, DT, fr, ok, w, eo, xo⟩⟩ =>
    ⟨_, σ, S, _, DT.ex, fr, ok, w, fun x S1 v H1 k le ok1 rep => ⟨_, σ, S1, x, DT.nx, DT.ex, fr.le le, ok1, rep, k, eo.nx.le le, xo.le le⟩, xo⟩⟩
theorem ss_set {i : Nat} {x : Str} {pos' : Pos} (hN : X.N.Nodup) (hi : X.N[i]? = some x) (hx : Loc X.env.scope x) (he : ET X E e ra) (hs : swapsWith e (some (.Name x pos')) pos.line X.env = pure false := by rfl)
    (hf : X.fn x = true ∨ X.env.scope.names.lookup x = some .local := by first | exact .inl rfl | exact .inr rfl | assumption) : SS X E (.Assign [.Name x pos'] e pos) (sAsg ra (gNameT i)) :=
  ⟨ps_weak (ps_set hN hi hx he.pe hs hf) fun D sl H ⟨⟨Z, σ, S, DT, fr, ok, w, eo, xo⟩⟩ =>
    ⟨_, σ, S, _, DT.ex, fr, ok, w, fun x S1 v H1 k le ok1 rep => eo.nx _ S1 _ H1 k le ok1 ((fr.le le).set i rep), xo⟩⟩
/-- a, b = e1, e2 -/
def sPar (i j : Nat) (t : TRA) : TRS := fun D σ S => t σ S (fun ts S1 => ∃ x y, ts = [x, y] ∧ D.nx ((σ.set i (some x)).set j (some y)) S1) D.ex
theorem ss_par {i j : Nat} {x y : Str} {px py pt : Pos} {kt k2 pt2} (hc : X.calm = true) (hN : X.N.Nodup) (hi : X.N[i]? = some x) (hj : X.N[j]? = some y) (hij : i ≠ j)
    (hx : X.env.scope.names.lookup x = some .local) (hy : X.env.scope.names.lookup y = some .local) (ha : AT X E [a, b] t)
    (hw : swappedStores [.Tuple [.Name x px, .Name y py] kt pt] (.Tuple [a, b] k2 pt2) X.env = pure (some [x, y]))
    (hs : swapsWithSole [.Tuple [.Name x px, .Name y py] kt pt] (.Tuple [a, b] k2 pt2) pos.line X.env = pure false := by rfl) :
    SS X E (.Assign [.Tuple [.Name x px, .Name y py] kt pt] (.Tuple [a, b] k2 pt2) pos) (sPar i j t) :=
  ⟨ps_weak (ps_par hc hN hi hj hij hx hy ha.pa hw hs) fun D sl H ⟨⟨Z, σ, S, DT, fr, ok, w, eo, xo⟩⟩ =>
    ⟨_, σ, S, _, DT.ex, fr, ok, w, fun xs S1 vs H1 k le ok1 rep => by
      obtain ⟨x, y, rfl, k⟩ := k
      cases rep with
      | cons r1 rr =>
        cases rr with
        | cons r2 rr =>
          cases rr
          exact ⟨_, _, rfl, eo.nx _ S1 _ H1 k le ok1 (((fr.le le).set i r1).set j r2)⟩, xo⟩⟩
def sDrop (ra : TR) : TRS := fun D σ S => ra σ S (fun _ S1 => D.nx σ S1) D.ex
theorem ss_expr (he : ET X E e ra) (hs : swapsWith e none pos.line X.env = pure false := by rfl) : SS X E (.Expr e pos) (sDrop ra) :=
  ⟨ps_weak (ps_expr he.pe hs) fun D sl H ⟨⟨Z, σ, S, DT, fr, ok, w, eo, xo⟩⟩ => ⟨_, σ, S, _, DT.ex, fr, ok, w, fun x S1 v H1 k le ok1 _ => eo.nx σ S1 sl H1 k le ok1 (fr.le le), xo⟩⟩
def sRet (ra : TR) : TRS := fun D σ S => ra σ S D.rt D.ex
theorem ss_ret (he : ET X E e ra) : SS X E (.Return (some e) pos) (sRet ra) := ⟨ps_weak (ps_ret he.pe) fun D sl H ⟨⟨Z, σ, S, DT, fr, ok, w, eo, xo⟩⟩ => ⟨_, σ, S, _, DT.ex, fr, ok, w, eo.rt, xo⟩⟩
def sRetN : TRS := fun D _ S => D.rt .non S
theorem ss_retN : SS X E (.Return none pos) sRetN := ⟨ps_weak ps_retN fun D sl H ⟨⟨Z, σ, S, DT, fr, ok, w, eo, xo⟩⟩ => eo.rt _ S _ H w .refl ok .non⟩
def sIf (tc : TRB) (ra rb : TRS) : TRS := fun D σ S => tc σ S (fun c S1 => if c = true then ra D σ S1 else rb D σ S1) D.ex
theorem ss_if {ta : TRB} {sa sb : TRS} {as bs : List Stmt} (hc : TT' X E c ta) (ha : BS X E as sa) (hb : BS X E bs sb) : SS X E (.If c as bs pos) (sIf ta sa sb) :=
  ⟨ps_weak (ps_if hc.pt ha.ps hb.ps) fun D sl H ⟨⟨Z, σ, S, DT, fr, ok, w, eo, xo⟩⟩ => ⟨_, σ, S, _, DT.ex, fr, ok, w, fun c S1 H1 k le ok1 => by
    cases c with
    | true => exact ⟨_, σ, S1, DT, fr.le le, ok1, k, eo.le le, xo.le le⟩
    | false => exact ⟨_, σ, S1, DT, fr.le le, ok1, k, eo.le le, xo.le le⟩, xo⟩⟩
def sNext : TRS := fun D σ S => D.nx σ S
def sSeq (ra rb : TRS) : TRS := fun D σ S => ra { D with nx := rb D } σ S
theorem bs_nil : BS X E [] sNext := ⟨pss_weak pss_nil fun D sl H ⟨⟨Z, σ, S, DT, fr, ok, w, eo, xo⟩⟩ => eo.nx σ S sl H w .refl ok fr⟩
theorem bs_cons {st : Stmt} {rest : List Stmt} {sa sb : TRS} (h1 : SS X E st sa) (h2 : BS X E rest sb) : BS X E (st :: rest) (sSeq sa sb) :=
  ⟨pss_weak (pss_cons h1.ps h2.ps) fun D sl H ⟨⟨Z, σ, S, DT, fr, ok, w, eo, xo⟩⟩ => ⟨_, σ, S, { DT with nx := sb DT }, fr, ok, w,
    ⟨fun σ1 S1 sl1 H1 k le ok1 fr1 => ⟨_, σ1, S1, DT, fr1, ok1, k, eo.le le, xo.le le⟩, eo.rt, eo.bk, eo.ct⟩, xo⟩⟩
theorem bs_one {st : Stmt} {sa : TRS} (h1 : SS X E st sa) : BS X E [st] sa :=
  ⟨pss_weak (pss_one h1.ps) fun D sl H h => h⟩
/-! ### what is walked -/
abbrev TRI := Fm → Store → (List T → Store → Prop) → XT → Prop
/-- J walks the things ts, whatever is made meanwhile -/
def SrcOk (K : PySem.W.Frag) (Z : Addr → Prop) (S0 : Store) (H0 : Hp) (J : It) (ts : List T) : Prop := ∀ Z' S H, Hid H0 Z Z' → Le S0 H0 S H → Ok K Z' S H →
  (∀ i t, ts[i]? = some t → J.go i H ∧ ∀ x H', J.yld i H x H' → Le S H S H' ∧ Ok K Z' S H' ∧ Rep K Z' S H' x t) ∧ ∀ i, ts.length ≤ i → J.stop i H
structure UpI (K : PySem.W.Frag) (E : XK) (r : TRI) (sl : L2.St) (H : Hp) (Q : It → Hp → Prop) : Prop where
  ex : ∃ Z σ S R RE, FrR K Z S H sl σ ∧ Ok K Z S H ∧ r σ S R RE ∧ (∀ ts S' J H', R ts S' → Le S H S' H' → Ok K Z S' H' → SrcOk K Z S' H' J ts → Q J H') ∧ XOk K Z S H RE E
structure IT (X : Cx) (E : XK) (tg it : Expr) (r : TRI) : Prop where
  pi : PI X tg it (UpI X.K E r)
def seqOf : T → Option (List T)
  | .lst ts => some ts
  | .scr ts => some ts
  | .tup ts => some ts
  | _ => none
def iSeq (ra : TR) : TRI := fun σ S R RE => ra σ S (fun t S1 => ∃ ts, seqOf t = some ts ∧ R ts S1) RE
theorem src_list {K : PySem.W.Frag} {Z : Addr → Prop} {S : Store} {H : Hp} {p : Addr} {vs : List V} {ts : List T} (h : LstAt Z S H p vs) (r : Reps K Z S H vs ts) : SrcOk K Z S H (Itl K p) ts := fun Z' S1 H1 hz le ok => by
  replace h := h.hide hz
  replace r := r.hide hz
  refine ⟨fun i t hi => ?_, fun i hi => ⟨vs, (h.le le).sq, by rw [r.length]; exact hi⟩⟩
  obtain ⟨v, hv, rep⟩ := r.get hi
  refine ⟨⟨vs, v, (h.le le).sq, hv⟩, fun x H' ⟨e, y⟩ => ?_⟩
  subst e
  have := y vs (h.le le).sq
  rw [hv] at this
  cases this
  exact ⟨.refl, ok, rep.le le⟩
theorem src_scr {K : PySem.W.Frag} {Z : Addr → Prop} {S : Store} {H : Hp} {p : Addr} {vs : List V} {ts : List T} (h : ScrAt K Z S H p vs) (r : Reps K Z S H vs ts) : SrcOk K Z S H (Itl K p) ts := fun Z' S1 H1 hz le ok => by
  replace h := h.hide hz
  replace r := r.hide hz
  refine ⟨fun i t hi => ?_, fun i hi => ⟨vs, (h.le le).sq, by rw [r.length]; exact hi⟩⟩
  obtain ⟨v, hv, rep⟩ := r.get hi
  refine ⟨⟨vs, v, (h.le le).sq, hv⟩, fun x H' ⟨e, y⟩ => ?_⟩
  subst e
  have := y vs (h.le le).sq
  rw [hv] at this
  cases this
  exact ⟨.refl, ok, rep.le le⟩
theorem src_tup {K : PySem.W.Frag} {Z : Addr → Prop} {S : Store} {H : Hp} {p : Addr} {vs : List V} {ts : List T} (h : TupAt K Z S H p vs) (r : Reps K Z S H vs ts) : SrcOk K Z S H (Itt K p) ts := fun Z' S1 H1 hz le ok => by
  replace h := h.hide hz
  replace r := r.hide hz
  refine ⟨fun i t hi => ?_, fun i hi => ⟨vs, (h.le le).sq, by rw [r.length]; exact hi⟩⟩
  obtain ⟨v, hv, rep⟩ := r.get hi
  refine ⟨⟨vs, v, (h.le le).sq, hv⟩, fun x H' ⟨e, y⟩ => ?_⟩
  subst e
  have := y vs (h.le le).sq
  rw [hv] at this
  cases this
  exact ⟨.refl, ok, rep.le le⟩
def iLT (K : PySem.W.Frag) (tl : TE) : TI := fun σ H R => tl σ H fun x H1 => ∃ a, x = .ref a ∧ (((∃ xs, SqL K H1 a xs) ∧ R (Itl K a) H1) ∨ ((∃ xs, SqT K H1 a xs) ∧ R (Itt K a) H1))
theorem pi_lt {tg l : Expr} {tl : TE} (hl : PE X l tl) : PI X tg l (iLT X.K tl) := by
  refine ⟨fun pins s sl H R I h => ?_⟩
  refine thn (hl.run pins s sl H _ I h) fun v s1 ⟨x, H1, I1, r1, q1⟩ => ?_
  obtain ⟨a, e, q⟩ := q1
  subst e
  cases r1
  rcases q with ⟨⟨xs, hq⟩, q⟩ | ⟨⟨xs, hq⟩, q⟩
  · obtain ⟨its, rv, p, hz⟩ := I1.list hq
    refine wpAny_pyIter_list p.isList ?_
    refine ⟨s1.heap.objs.size, [s1.heap.objs.size], _, _, H1, rfl, I1.kept (t' := s1.toks) fun b o e => Heap.get?_push_of_some _ e, turn_list a _, ⟨_, Heap.get?_push_size _ rfl, rfl, rfl⟩, fun b hb => ?_, q⟩
    have e : b = s1.heap.objs.size := by simpa using hb
    subst e
    exact I1.fpOk (Nat.le_refl _) (I1.hok.fresh (Nat.le_refl _))
  · obtain ⟨its, rv, p, hz⟩ := I1.tuple hq
    refine wpAny_pyIter_tuple (show s1.heap.IsTuple a its.toArray from p) ?_
    refine ⟨s1.heap.objs.size, [s1.heap.objs.size], _, _, H1, rfl, I1.kept (t' := s1.toks) fun b o e => Heap.get?_push_of_some _ e, turn_tuple a _, ⟨_, Heap.get?_push_size _ rfl, rfl, rfl⟩, fun b hb => ?_, q⟩
    have e : b = s1.heap.objs.size := by simpa using hb
    subst e
    exact I1.fpOk (Nat.le_refl _) (I1.hok.fresh (Nat.le_refl _))
theorem pi_weak {X : Cx} {tg e : Expr} {t t' : TI} (he : PI X tg e t) (imp : ∀ sl H Q, t' sl H Q → t sl H Q) : PI X tg e t' := ⟨fun pins s sl H R inv h => he.run pins s sl H R inv (imp sl H R h)⟩
theorem it_seq {tg : Expr} (ha : ET X E a ra) : IT X E tg a (iSeq ra) := ⟨pi_weak (pi_lt ha.pe) fun sl H Q ⟨⟨Z, σ, S, R, RE, fr, ok, w, po, xo⟩⟩ => by
  refine ⟨_, σ, S, _, RE, fr, ok, w, fun t S1 v H1 k le ok1 rep => ?_, xo⟩
  obtain ⟨ts, e, k⟩ := k
  cases rep <;> try (cases e; done)
  · cases e
    rename_i h r
    exact ⟨_, rfl, .inr ⟨⟨_, h.sq⟩, po ts S1 _ H1 k le ok1 (src_tup h r)⟩⟩
  · cases e
    rename_i h r
    exact ⟨_, rfl, .inl ⟨⟨_, h.sq⟩, po ts S1 _ H1 k le ok1 (src_list h r)⟩⟩
  · cases e
    rename_i h r
    exact ⟨_, rfl, .inl ⟨⟨_, h.sq⟩, po ts S1 _ H1 k le ok1 (src_scr h r)⟩⟩⟩
def rangeT (lo hi : Int) : List T := (List.range (hi - lo).toNat).map fun (i : Nat) => T.int (lo + i)
theorem src_range {K : PySem.W.Frag} {Z : Addr → Prop} {S : Store} {H : Hp} {lo : Int} {n : Nat} : SrcOk K Z S H (Itr lo n) ((List.range n).map fun (i : Nat) => T.int (lo + i)) := fun Z' S1 H1 hz le ok => by
  refine ⟨fun i t hi => ?_, fun i hi => by rw [List.length_map, List.length_range] at hi; exact hi⟩
  rw [List.getElem?_map] at hi
  obtain ⟨j, hj, e⟩ := Option.map_eq_some_iff.mp hi
  obtain ⟨l, ej⟩ := List.getElem?_eq_some_iff.mp hj
  rw [List.getElem_range] at ej
  subst ej e
  rw [List.length_range] at l
  refine ⟨l, fun x H' ⟨e1, e2⟩ => ?_⟩
  subst e1 e2
  exact ⟨.refl, ok, .int _⟩
def iRng1T (t : TRA) : TRI := fun σ S R RE => t σ S (fun xs S1 => ∃ j : Int, xs = [.int j] ∧ -(2 ^ 62) ≤ j ∧ j < 2 ^ 62 ∧ R (rangeT 0 j) S1) RE
def iRng2T (t : TRA) : TRI := fun σ S R RE => t σ S (fun xs S1 => ∃ i j : Int, xs = [.int i, .int j] ∧ (-(2 ^ 62) ≤ i ∧ i < 2 ^ 62 ∧ -(2 ^ 62) ≤ j ∧ j < 2 ^ 62) ∧ R (rangeT i j) S1) RE
theorem it_range1 {tg : Expr} {p : Pos} (hg : Gl X "range") (hm : X.mg "range" = none) (ha : AT X E [a] t) (hs : starEach [a] X.env = [(false, eval a X.env)] := by rfl) : IT X E tg (.Call (.Name "range" p) [a] [] pos) (iRng1T t) :=
  ⟨pi_weak (pi_range1 hg hm ha.pa hs) fun sl H Q ⟨⟨Z, σ, S, R, RE, fr, ok, w, po, xo⟩⟩ => ⟨_, σ, S, _, RE, fr, ok, w, fun xs S1 vs H1 k le ok1 rep => by
    obtain ⟨j, rfl, h1, h2, k⟩ := k
    cases rep with
    | cons r rr =>
      cases r; cases rr
      refine ⟨j, rfl, h1, h2, po _ S1 _ H1 k le ok1 ?_⟩
      have := src_range (K := X.K) (Z := Z) (S := S1) (H := H1) (lo := 0) (n := j.toNat)
      unfold rangeT
      rw [Int.sub_zero]
      exact this, xo⟩⟩
theorem it_range2 {tg : Expr} {p : Pos} (hg : Gl X "range") (hm : X.mg "range" = none) (ha : AT X E [a, b] t) (hs : starEach [a, b] X.env = [(false, eval a X.env), (false, eval b X.env)] := by rfl) (hs2 : starEach [b] X.env = [(false, eval b X.env)] := by rfl) : IT X E tg (.Call (.Name "range" p) [a, b] [] pos) (iRng2T t) :=
  ⟨pi_weak (pi_range2 hg hm ha.pa hs hs2) fun sl H Q ⟨⟨Z, σ, S, R, RE, fr, ok, w, po, xo⟩⟩ => ⟨_, σ, S, _, RE, fr, ok, w, fun xs S1 vs H1 k le ok1 rep => by
    obtain ⟨i, j, rfl, h, k⟩ := k
    cases rep with
    | cons r rr =>
      cases r
      cases rr with
      | cons r rr =>
        cases r; cases rr
        exact ⟨i, j, rfl, h, po _ S1 _ H1 k le ok1 src_range⟩, xo⟩⟩
/-! ### for -/
def rLoop (g : TRG) (rb : TRS) (D : EnT) : List T → Fm → Store → Prop
  | [], σ, S => D.nx σ S
  | t :: ts, σ, S => g t σ S (fun σ1 S1 => rb { D with nx := rLoop g rb D ts, ct := rLoop g rb D ts, bk := D.nx } σ1 S1) D.ex
def sFor (ri : TRI) (g : TRG) (rb : TRS) : TRS := fun D σ S => ri σ S (fun ts S1 => rLoop g rb D ts σ S1) D.ex
theorem ss_for {iter tg : Expr} {body : List Stmt} {ri : TRI} {rb : TRS} (hp : PassesOwn (model X.prog X.w) X.A X.env X.xe) (hc : X.calm = true) (hi : IT X E tg iter ri) (hg : GT X E tg g) (hb : BS X E body rb)
    (hs : ∀ x, foldedSetIterable iter X.env x = pure x := by intro _; rfl) : SS X E (.For tg iter body [] pos) (sFor ri g rb) :=
  ⟨ps_weak (ps_for hp hc hi.pi hg.pg hb.ps hs) fun D sl H ⟨⟨Z, σ, S, DT, fr, ok, w, eo, xo⟩⟩ => by
    refine ⟨_, σ, S, _, DT.ex, fr, ok, w, fun ts S1 J H1 k le ok1 src => ?_, xo⟩
    refine ⟨fun i m sl' H' => m = ts.length - i ∧ i ≤ ts.length ∧ ∃ σ' S', FrR X.K Z S' H' sl' σ' ∧ Ok X.K Z S' H' ∧ Le S1 H1 S' H' ∧ rLoop g rb DT (ts.drop i) σ' S', ⟨_, rfl, Nat.zero_le _, σ, S1, fr.le le, ok1, .refl, k⟩, ?_⟩
    rintro i m sl' H' ⟨rfl, hi, σ', S', fr', ok', le', k'⟩
    obtain ⟨go, stop⟩ := src Z S' H' (fun _ z => .inl z) le' ok'
    by_cases hlt : i < ts.length
    · refine .inr ?_
      have hd : ts.drop i = ts[i] :: ts.drop (i + 1) := (List.drop_eq_getElem_cons hlt)
      rw [hd] at k'
      obtain ⟨g1, g2⟩ := go i ts[i] (List.getElem?_eq_getElem hlt)
      refine ⟨g1, fun sl2 H2 => ∃ σ2 S2, FrR X.K Z S2 H2 sl2 σ2 ∧ Ok X.K Z S2 H2 ∧ Le S1 H1 S2 H2 ∧ rLoop g rb DT (ts.drop (i + 1)) σ2 S2, ?_, ?_⟩
      · rintro sl2 H2 ⟨σ2, S2, f2, o2, l2, k2⟩
        exact ⟨_, by omega, rfl, hlt, σ2, S2, f2, o2, l2, k2⟩
      · intro x H2 y
        obtain ⟨l2, o2, rep⟩ := g2 x H2 y
        refine ⟨_, σ', S', ts[i], _, DT.ex, fr'.le l2, o2, rep, k', fun σ3 S3 sl3 H3 k3 l3 o3 f3 => ?_, (xo.le (le.trans le')).le l2⟩
        have lt := (le'.trans l2).trans l3
        refine ⟨_, σ3, S3, _, f3, o3, k3, ⟨fun σ4 S4 sl4 H4 k4 l4 o4 f4 => ⟨σ4, S4, f4, o4, lt.trans l4, k4⟩, (eo.rt.le (le.trans lt)), (eo.nx.le (le.trans lt)), fun σ4 S4 sl4 H4 k4 l4 o4 f4 => ⟨σ4, S4, f4, o4, lt.trans l4, k4⟩⟩, (xo.le (le.trans lt))⟩
    · have e : i = ts.length := by omega
      subst e
      rw [List.drop_length] at k'
      exact .inl ⟨stop _ (Nat.le_refl _), eo.nx σ' S' sl' H' k' (le.trans le') ok' fr'⟩⟩
/-- with an invariant -/
theorem rLoop_inv {rb : TRS} {D : EnT} {ts : List T} {σ : Fm} {S : Store} (P : Nat → Fm → Store → Prop) (h0 : P 0 σ S)
    (hs : ∀ i t σ S, ts[i]? = some t → P i σ S → ∀ N : Fm → Store → Prop, (∀ σ' S', P (i + 1) σ' S' → N σ' S') → g t σ S (fun σ1 S1 => rb { D with nx := N, ct := N, bk := D.nx } σ1 S1) D.ex)
    (hd : ∀ σ S, P ts.length σ S → D.nx σ S) : rLoop g rb D ts σ S := by
  suffices h : ∀ (us : List T) (i : Nat) σ S, ts.drop i = us → i ≤ ts.length → P i σ S → rLoop g rb D us σ S from h ts 0 σ S rfl (Nat.zero_le _) h0
  intro us
  induction us with
  | nil =>
    intro i σ S e hi p
    have : i = ts.length := by
      have := congrArg List.length e
      simp at this
      omega
    subst this
    exact hd σ S p
  | cons u us ih =>
    intro i σ S e hi p
    have hlt : i < ts.length := by
      have := congrArg List.length e
      simp at this
      omega
    rw [List.drop_eq_getElem_cons hlt] at e
    injection e with e1 e2
    exact hs i u σ S (by rw [← e1]; exact List.getElem?_eq_getElem hlt) p _ fun σ' S' p' => ih (i + 1) σ' S' e2 hlt p'
/-! ### while -/
def sWhile (tc : TRB) (rb : TRS) : TRS := fun D σ S => ∃ W : Nat → Fm → Store → Prop, (∃ m, W m σ S) ∧ ∀ m σ S, W m σ S →
  tc σ S (fun c S1 => if c = true then rb { D with nx := fun σ' S' => ∃ m', m' < m ∧ W m' σ' S', ct := fun σ' S' => ∃ m', m' < m ∧ W m' σ' S', bk := D.nx } σ S1 else D.nx σ S1) D.ex
theorem ss_while {body : List Stmt} {ta : TRB} {rb : TRS} (hp : PassesOwn (model X.prog X.w) X.A X.env X.xe) (hc : TT' X E c ta) (hb : BS X E body rb) : SS X E (.While c body [] pos) (sWhile ta rb) :=
  ⟨ps_weak (ps_while hp hc.pt hb.ps) fun D sl H ⟨⟨Z, σ, S, DT, fr, ok, ⟨W, ⟨m0, w0⟩, turn⟩, eo, xo⟩⟩ => by
    refine ⟨fun m sl' H' => ∃ σ' S', FrR X.K Z S' H' sl' σ' ∧ Ok X.K Z S' H' ∧ Le S H S' H' ∧ W m σ' S', ⟨m0, σ, S, fr, ok, .refl, w0⟩, ?_⟩
    rintro m sl' H' ⟨σ', S', fr', ok', le', w'⟩
    refine ⟨_, σ', S', _, DT.ex, fr', ok', turn m σ' S' w', fun c S1 H1 k le1 ok1 => ?_, xo.le le'⟩
    cases c with
    | true =>
      refine ⟨fun sl2 H2 => ∃ σ2 S2, FrR X.K Z S2 H2 sl2 σ2 ∧ Ok X.K Z S2 H2 ∧ Le S H S2 H2 ∧ ∃ m', m' < m ∧ W m' σ2 S2, ?_, ?_⟩
      · rintro sl2 H2 ⟨σ2, S2, f2, o2, l2, m', hm, k2⟩
        exact ⟨m', hm, σ2, S2, f2, o2, l2, k2⟩
      · have lt := le'.trans le1
        exact ⟨_, σ', S1, _, fr'.le le1, ok1, k, ⟨fun σ4 S4 sl4 H4 k4 l4 o4 f4 => ⟨σ4, S4, f4, o4, lt.trans l4, k4⟩, eo.rt.le lt, eo.nx.le lt, fun σ4 S4 sl4 H4 k4 l4 o4 f4 => ⟨σ4, S4, f4, o4, lt.trans l4, k4⟩⟩, xo.le lt⟩
    | false => exact eo.nx σ' S1 sl' H1 k (le'.trans le1) ok1 (fr'.le le1)⟩
end

/-! ### comprehensions -/
def XF : XT := fun _ _ _ => False
def EF : XK := fun _ _ _ => False
theorem XOk.f {K : PySem.W.Frag} {Z : Addr → Prop} {S : Store} {H : Hp} : XOk K Z S H XF EF := fun _ _ _ _ _ _ z => z.elim
structure TTs (X : Cx) (E : XK) (es : List Expr) (r : TRB) : Prop where
  pt : PTs X es (UpB X.K E r)
def bYes : TRB := fun _ S R _ => R true S
def rComp (fr : T → Fm) (tt : TRB) (re : TR) : List T → List T → Store → (List T → Store → Prop) → Prop
  | [], acc, S, R => R acc S
  | t :: ts, acc, S, R => tt (fr t) S (fun b S1 => if b = true then re (fr t) S1 (fun y S2 => acc.length < sizeLine ∧ rComp fr tt re ts (acc ++ [y]) S2 R) XF else rComp fr tt re ts acc S1 R) XF
section
variable {X : Cx} {E : XK} {e a b c : Expr} {es : List Expr} {pos : Pos} {ra rb rc : TR} {g : TRG} {gs : TRGs} {t : TRA}
theorem tts_nil : TTs X E [] bYes := ⟨⟨fun pins s sl H Q I h => pts_nil.run pins s sl H Q I (by
  obtain ⟨Z, σ, S, R, RE, fr, ok, w, po, xo⟩ := h.ex
  exact po true S H w .refl ok)⟩⟩
theorem tts_one {ta : TRB} (h : TT' X E c ta) : TTs X E [c] ta := ⟨pts_one h.pt⟩
def rLc (ri : TRI) (j : Nat) (tt : TRB) (re : TR) : TR := fun σ S R RE => ri σ S (fun ts S1 => rComp (fun t => σ.set j (some t)) tt re ts [] S1 (fun ys S2 => R (.lst ys) S2)) RE
theorem lc_turns {K : PySem.W.Frag} {Z : Addr → Prop} {S1 : Store} {H1 : Hp} {J : It} {ts : List T} {sl : L2.St} {σ : Fm} {g : TG} {vs : List Nat} {fr : T → Fm} {tt : TRB} {re : TR} {Q : VK} {R : List T → Store → Prop}
    (ok1 : Ok K Z S1 H1) (fr1 : FrR K Z S1 H1 sl σ) (src : SrcOk K Z S1 H1 J ts) (k : rComp fr tt re ts [] S1 R)
    (hg : ∀ Z' S H x t (Q' : L2.St → Hp → Prop), FrR K Z' S H sl σ → Rep K Z' S H x t → (∀ sl2, FrR K Z' S H sl2 (fr t) → wipe sl2 vs = wipe sl vs → Q' sl2 H) → g x (wipe sl vs) H Q')
    (po : ∀ ys S' v H', R ys S' → Le S1 H1 S' H' → Ok K Z S' H' → Rep K Z S' H' v (.lst ys) → Q v H') :
    ∀ D, H1 D = none → ∃ W : Nat → Nat → Hp → Prop, (∃ m, W 0 m (upd H1 D (.lst []))) ∧ ∀ i m H, W i m H →
  (J.stop i H ∧ Q (.ref D) H) ∨ (J.go i H ∧ ∃ Nx : Hp → Prop, (∀ H', Nx H' → ∃ m', m' < m ∧ W (i + 1) m' H') ∧ ∀ x H', J.yld i H x H' → g x (wipe sl vs) H' fun σ2 H2 => wipe σ2 vs = wipe sl vs ∧ UpB K EF tt σ2 H2 fun b H3 =>
    if b = true then UpE K EF re σ2 H3 fun y H4 => ∃ acc, H4 D = some (.lst acc) ∧ acc.length < sizeLine ∧ Nx (upd H4 D (.lst (acc ++ [y]))) else Nx H3) := by
  intro D hD
  have hz := hid_a (Z := Z) hD
  -- what holds at each turn
  let In : Nat → Hp → Prop := fun i H' => ∃ S' acc accV, Ok K (hideA Z D) S' H' ∧ FrR K (hideA Z D) S' H' sl σ ∧ Le S1 H1 S' H' ∧ H' D = some (.lst accV) ∧ Reps K (hideA Z D) S' H' accV acc ∧ rComp fr tt re (ts.drop i) acc S' R
  refine ⟨fun i m H' => m = ts.length - i ∧ i ≤ ts.length ∧ In i H', ⟨_, rfl, Nat.zero_le _, S1, [], [], ok1.hide hD, (fr1.hide hz).le (le_new hD), le_new hD, upd_same, .nil, k⟩, ?_⟩
  rintro i m H' ⟨rfl, hi, S', acc, accV, ok', fr', le', hd, rs, k'⟩
  obtain ⟨go, stop⟩ := src _ S' H' hz le' ok'
  by_cases hlt : i < ts.length
  · refine .inr ?_
    obtain ⟨g1, g2⟩ := go i ts[i] (List.getElem?_eq_getElem hlt)
    rw [List.drop_eq_getElem_cons hlt] at k'
    refine ⟨g1, In (i + 1), fun H2 h2 => ⟨_, by omega, rfl, hlt, h2⟩, fun x H2 y => ?_⟩
    obtain ⟨l2, o2, rep⟩ := g2 x H2 y
    refine hg _ S' H2 x ts[i] _ (fr'.le l2) rep fun sl2 f2 we => ⟨we, ?_⟩
    have hd2 := (l2 D _ hd (ok'.hid D (.inr rfl)).1).1
    refine ⟨_, fr ts[i], S', _, XF, f2, o2, k', fun b S3 H3 k3 l3 o3 => ?_, .f⟩
    have hd3 := (l3 D _ hd2 (o2.hid D (.inr rfl)).1).1
    cases b with
    | true =>
      refine ⟨_, fr ts[i], S3, _, XF, f2.le l3, o3, k3, fun y S4 vy H4 k4 l4 o4 ry => ?_, .f⟩
      obtain ⟨z, k4⟩ := k4
      have hd4 := (l4 D _ hd3 (o3.hid D (.inr rfl)).1).1
      have ll := ((l2.trans l3).trans l4)
      have lz : LeZ (hideA Z D) S4 H4 S4 (upd H4 D (.lst (accV ++ [vy]))) := lz_hid
      refine ⟨accV, hd4, by rw [rs.length]; exact z, S4, _, _, o4.hidSet, ((fr'.le ll).lz lz), fun a o h n => ?_, upd_same, ((rs.le ll).append (.cons ry .nil)).lz lz, k4⟩
      have := (le'.trans ll) a o h n
      rw [upd_ne (ne_of_none h hD)]
      exact this
    | false => exact ⟨S3, acc, accV, o3, fr'.le (l2.trans l3), (le'.trans l2).trans l3, hd3, rs.le (l2.trans l3), k3⟩
  · have e : i = ts.length := by omega
    subst e
    rw [List.drop_length] at k'
    refine .inl ⟨stop _ (Nat.le_refl _), po acc S' _ H' k' le' ok'.show ?_⟩
    exact .lst ⟨hd, (ok'.hid D (.inr rfl)).1, fun z => by
      obtain ⟨_, o, e⟩ := ok1.hid D z
      rw [hD] at e; cases e⟩ rs.show
theorem et_lc {elt tg iter : Expr} {ifs : List Expr} {scope : Scope} {x : Str} {j : Nat} {ri : TRI} {tt : TRB} {re : TR} (hc : X.calm = true) (hN : X.N.Nodup) (hi : IT X E tg iter ri) (ok : BlkOk X.N X.env.scope scope [(x, j)])
    (hg : ∀ (s : Shared) (H : Hp) (C : Addr) (cl : List (Str × Addr)) (fp : List Addr), PG (X.blk s H scope (compEnvC scope cl C X.env) fp) tg (gName j)) (ht : ∀ (s : Shared) (H : Hp) (C : Addr) (cl : List (Str × Addr)) (fp : List Addr), TTs (X.blk s H scope (compEnvC scope cl C X.env) fp) EF ifs tt)
    (he : ∀ (s : Shared) (H : Hp) (C : Addr) (cl : List (Str × Addr)) (fp : List Addr), ET (X.blk s H scope (compEnvC scope cl C X.env) fp) EF elt re) (hs : ∀ x, foldedSetIterable iter X.env x = pure x := by intro _; rfl) :
    ET X E (.ListComp elt [⟨tg, iter, ifs, 0⟩] scope pos) (rLc ri j tt re) :=
  ⟨pe_weak (pe_lc hc hN hi.pi ok hg (fun s H C cl fp => (ht s H C cl fp).pt) (fun s H C cl fp => (he s H C cl fp).pe) hs) fun sl H Q h => by
    obtain ⟨Z, σ, S, R, RE, fr, ok, w, po, xo⟩ := h.ex
    refine ⟨Z, σ, S, _, RE, fr, ok, w, fun ts S1 J H1 k le ok1 src => ?_, xo⟩
    refine lc_turns (fr := fun t => σ.set j (some t)) ok1 (fr.le le) src k (fun Z' S' H' x t Q' f r q => q _ ?_ ?_) fun ys S' v H' r l o rep => po _ S' v H' r (le.trans l) o rep
    · show FrR X.K Z' S' H' (((wipe sl []).set j none).set j (some x)) (σ.set j (some t))
      rw [List.set_set]
      exact f.set j r
    · show (((wipe sl []).set j none).set j (some x)).set j none = (wipe sl []).set j none
      rw [List.set_set, List.set_set]⟩
/-- y = [..] -/
theorem ss_setLc {i : Nat} {y : Str} {py spos : Pos} {elt tg iter : Expr} {ifs : List Expr} {scope : Scope} {x : Str} {j : Nat} {ri : TRI} {tt : TRB} {re : TR} (hc : X.calm = true) (hN : X.N.Nodup) (hy : X.N[i]? = some y) (hyl : X.env.scope.names.lookup y = some .local)
    (hsw : swapsWith (.ListComp elt [⟨tg, iter, ifs, 0⟩] scope pos) (some (.Name y py)) spos.line X.env = pure true) (hi : IT X E tg iter ri) (ok : BlkOk X.N X.env.scope scope [(x, j)])
    (hg : ∀ (s : Shared) (H : Hp) (C : Addr) (cl : List (Str × Addr)) (fp : List Addr), PG (X.blk s H scope (compEnvC scope cl C X.env) fp) tg (gName j)) (ht : ∀ (s : Shared) (H : Hp) (C : Addr) (cl : List (Str × Addr)) (fp : List Addr), TTs (X.blk s H scope (compEnvC scope cl C X.env) fp) EF ifs tt)
    (he : ∀ (s : Shared) (H : Hp) (C : Addr) (cl : List (Str × Addr)) (fp : List Addr), ET (X.blk s H scope (compEnvC scope cl C X.env) fp) EF elt re) (hs : ∀ x, foldedSetIterable iter X.env x = pure x := by intro _; rfl) :
    SS X E (.Assign [.Name y py] (.ListComp elt [⟨tg, iter, ifs, 0⟩] scope pos) spos) (sAsg (rLc ri j tt re) (gNameT i)) :=
  ⟨ps_weak (ps_setLc hc hN hy hyl hsw hi.pi ok hg (fun s H C cl fp => (ht s H C cl fp).pt) (fun s H C cl fp => (he s H C cl fp).pe) hs) fun D sl H h => by
    obtain ⟨Z, σ, S, DT, fr, ok, w, eo, xo⟩ := h.ex
    refine ⟨Z, σ, S, _, DT.ex, fr, ok, w, fun ts S1 J H1 k le ok1 src => ?_, xo⟩
    refine lc_turns (fr := fun t => σ.set j (some t)) ok1 (fr.le le) src k (fun Z' S' H' x t Q' f r q => q _ ?_ ?_) fun ys S' v H' r l o rep => eo.nx _ S' _ H' r (le.trans l) o ((fr.le (le.trans l)).set i rep)
    · show FrR X.K Z' S' H' (((wipe sl []).set j none).set j (some x)) (σ.set j (some t))
      rw [List.set_set]
      exact f.set j r
    · show (((wipe sl []).set j none).set j (some x)).set j none = (wipe sl []).set j none
      rw [List.set_set, List.set_set]⟩
/-- by an invariant: all items kept -/
theorem rComp_all {fr : T → Fm} {re : TR} {ts : List T} {S : Store} {R : List T → Store → Prop} (P : Nat → Store → Prop) (F : Nat → T → T → Prop) (h0 : P 0 S) (hl : ts.length ≤ sizeLine)
    (hs : ∀ i t S, ts[i]? = some t → P i S → ∀ N : T → Store → Prop, (∀ y S', F i t y → P (i + 1) S' → N y S') → re (fr t) S N XF)
    (hd : ∀ ys S, ys.length = ts.length → (∀ (i : Nat) t y, ts[i]? = some t → ys[i]? = some y → F i t y) → P ts.length S → R ys S) : rComp fr bYes re ts [] S R := by
  suffices h : ∀ (us : List T) (i : Nat) acc S, ts.drop i = us → i ≤ ts.length → acc.length = i → (∀ (j : Nat) t y, ts[j]? = some t → acc[j]? = some y → F j t y) → P i S → rComp fr bYes re us acc S R from
    h ts 0 [] S rfl (Nat.zero_le _) rfl (fun j t y _ e => by simp at e) h0
  intro us
  induction us with
  | nil =>
    intro i acc S e hi la fa p
    have : i = ts.length := by
      have := congrArg List.length e
      simp at this
      omega
    subst this
    exact hd acc S la fa p
  | cons u us ih =>
    intro i acc S e hi la fa p
    have hlt : i < ts.length := by
      have := congrArg List.length e
      simp at this
      omega
    rw [List.drop_eq_getElem_cons hlt] at e
    injection e with e1 e2
    have hu : ts[i]? = some u := by rw [← e1]; exact List.getElem?_eq_getElem hlt
    refine hs i u S hu p _ fun y S' f p' => ⟨by omega, ih (i + 1) (acc ++ [y]) S' e2 hlt (by simp [la]) (fun j t z ht hz => ?_) p'⟩
    by_cases hj : j < acc.length
    · rw [List.getElem?_append_left hj] at hz
      exact fa j t z ht hz
    · rw [List.getElem?_append_right (by omega)] at hz
      by_cases hj2 : j = acc.length
      · subst hj2
        simp at hz
        subst hz
        rw [la] at ht ⊢
        rw [hu] at ht
        cases ht
        exact f
      · rw [List.getElem?_eq_none (by simp; omega)] at hz
        cases hz
end
/-! ### defs -/
/-- a def's promise: arguments, what changes, what is wanted of the answer, of an error -/
abbrev SpT := List T → Store → (T → Store → Prop) → XT → Prop
structure UpF (K : PySem.W.Frag) (sp : SpT) (vs : List V) (H : Hp) (Q : VK) (E : XK) : Prop where
  ex : ∃ Z ts S R RE, Reps K Z S H vs ts ∧ Ok K Z S H ∧ sp ts S R RE ∧ PO K Z S H R Q ∧ XOk K Z S H RE E
theorem passN {X : Cx} : Passes (L2N.CX X.prog X.w) X EF := fun _ _ _ _ _ _ _ h => by
  obtain ⟨_, _, _, _, _, _, _, _, _, _, _, _, z⟩ := h
  exact z.elim
theorem passL2N {X : Cx} {E : XK} (tk : L2N.Takes X (fun cls d _ H => E cls d H)) : Passes (L2N.CX X.prog X.w) X E := L2N.passes_call tk fun _ _ _ _ h => h
structure FnT (P : Program) (w : World) (K : PySem.W.Frag) (mg : Str → Option Value) (base : Heap) (k : Nat) (f : Addr) (fd : FuncData) (ps : List Str) (sp : SpT) : Prop where
  fn : FnG P w K mg base (L2N.CX P w) k f fd ps (UpF K sp)
section
variable {P : Program} {w : World} {K : PySem.W.Frag} {mg : Str → Option Value} {base : Heap} {k : Nat} {f : Addr} {fd : FuncData} {ps : List Str} {sp : SpT}
theorem FnT.up {j : Nat} (F : FnT P w K mg base j f fd ps sp) (h : j ≤ k) : FnT P w K mg base k f fd ps sp := ⟨F.fn.up h⟩
theorem FnT.imp {sp' : SpT} (F : FnT P w K mg base k f fd ps sp) (h : ∀ ts S R RE, sp' ts S R RE → sp ts S R RE) : FnT P w K mg base k f fd ps sp' :=
  ⟨F.fn.imp fun vs H Q E q => let ⟨Z, ts, S, R, RE, rs, ok, s, po, xo⟩ := q.ex; ⟨Z, ts, S, R, RE, rs, ok, h _ _ _ _ s, po, xo⟩⟩
/-- the context of a def's body -/
abbrev cxT (P : Program) (w : World) (K : PySem.W.Frag) (mg : Str → Option Value) (base : Heap) (N : List Str) (qual : Str) (sc : Scope) (f : Addr) (cdv : Value) (A : Around) (out : List Env) (s : Shared) (H : Hp) (E : XK) : Cx := cxOf (L2N.CX P w) P w K mg base N qual sc f cdv A out s H E
theorem up_body {N : List Str} {X : Cx} {E : XK} {body : List Stmt} {r : TRS} {vs : List V} {H : Hp} {Q : VK} (bs : BS X E body r) (hsp : ∀ ts S R RE, sp ts S R RE → r { nx := fun _ S' => R .non S', rt := R, ex := RE } (startT N ts) S) (q : UpF X.K sp vs H Q E) :
    ∃ t, PSs X body t ∧ t { nx := fun _ H' => Q .non H', rt := Q } (start N vs) H := by
  obtain ⟨Z, ts, S, R, RE, rs, ok, s, po, xo⟩ := q.ex
  refine ⟨_, bs.ps, Z, startT N ts, S, _, FrR.start rs, ok, hsp ts S R RE s, ⟨fun σ' S' sl' H' r' le' ok' _ => po _ S' _ H' r' le' ok' .non, po, fun _ _ _ _ z => z.elim, fun _ _ _ _ z => z.elim⟩, xo⟩
theorem okT {x qual : Str} {st : Stmt} {N : List Str} {r : TRS} (F : Fun K x qual st f fd) (S : FnScope N ps (defScope st)) (len : ∀ ts S R RE, sp ts S R RE → ts.length = ps.length)
    (bs : ∀ (cdv : Value) (A : Around) (out : List Env) (s : Shared) (H : Hp) (E : XK), A.guards = some [] → Room k (A.deeper (envOfC qual (defScope st) s.heap.objs.size f cdv)) → BS (cxT P w K mg base N qual (defScope st) f cdv A out s H E) E (defBody st) r)
    (hsp : ∀ ts S R RE, sp ts S R RE → r { nx := fun _ S' => R .non S', rt := R, ex := RE } (startT N ts) S) : FnT P w K mg base (k + 1) f fd ps sp := by
  obtain ⟨_, _, _, _, _, _, cdv, _, _, e, lk, code⟩ := F.ex
  subst e
  refine ⟨okG0 lk code S (fun vs H Q E q => ?_) fun A out s H vs Q E g rm q => up_body (bs cdv A out s H E g rm) hsp q⟩
  obtain ⟨Z, ts, S, R, RE, rs, ok, s, po, xo⟩ := q.ex
  exact rs.length.trans (len _ _ _ _ s)
theorem okTD {x qual : Str} {st : Stmt} {N : List Str} {r : TRS} {dvs : List V} (F : FunD K x qual (defArgs st) (defBody st) (defScope st) dvs [] f fd) (S : FnScope N ps (defScope st)) (len : ∀ ts S R RE, sp ts S R RE → ts.length = ps.length)
    (bs : ∀ (cdv : Value) (A : Around) (out : List Env) (s : Shared) (H : Hp) (E : XK), A.guards = some [] → Room k (A.deeper (envOfC qual (defScope st) s.heap.objs.size f cdv)) → BS (cxT P w K mg base N qual (defScope st) f cdv A out s H E) E (defBody st) r)
    (hsp : ∀ ts S R RE, sp ts S R RE → r { nx := fun _ S' => R .non S', rt := R, ex := RE } (startT N ts) S) : FnT P w K mg base (k + 1) f fd ps sp := by
  obtain ⟨_, _, _, _, _, _, _, cdv, _, _, e, lk, code, _, _⟩ := F.ex
  subst e
  refine ⟨okG0 lk code S (fun vs H Q E q => ?_) fun A out s H vs Q E g rm q => up_body (bs cdv A out s H E g rm) hsp q⟩
  obtain ⟨Z, ts, S, R, RE, rs, ok, s, po, xo⟩ := q.ex
  exact rs.length.trans (len _ _ _ _ s)
end
section
variable {X : Cx} {E : XK} {k n : Nat} {f : Addr} {fd : FuncData} {ps ks : List Str} {sp : SpT} {dvs : List V} {dts : List T} {ds : List Value} {x : Str} {p pos : Pos} {e : Expr} {es : List Expr} {kws : List Keyword} {t : TRA}
def rCall (sp : SpT) (dts : List T) (t : TRA) : TR := fun σ S R RE => t σ S (fun xs S1 => sp (xs ++ dts) S1 R RE) RE
/-- values that are the same whatever the heap -/
def DefT (K : PySem.W.Frag) (dvs : List V) (dts : List T) : Prop := ∀ Z S H, Reps K Z S H dvs dts
theorem DefT.nil {K : PySem.W.Frag} : DefT K [] [] := fun _ _ _ => .nil
theorem DefT.int {K : PySem.W.Frag} {i : Int} {vs ts} (r : DefT K vs ts) : DefT K (.int i :: vs) (.int i :: ts) := fun Z S H => .cons (.int i) (r Z S H)
theorem DefT.non {K : PySem.W.Frag} {vs ts} (r : DefT K vs ts) : DefT K (.non :: vs) (.non :: ts) := fun Z S H => .cons .non (r Z S H)
theorem DefT.bl {K : PySem.W.Frag} {b : Bool} {vs ts} (r : DefT K vs ts) : DefT K (.bl b :: vs) (.bl b :: ts) := fun Z S H => .cons (.bl b) (r Z S H)
theorem DefT.str {K : PySem.W.Frag} {z : Str} {vs ts} (r : DefT K vs ts) : DefT K (.str z :: vs) (.str z :: ts) := fun Z S H => .cons (.str z) (r Z S H)
theorem et_call (F : FnT X.prog X.w X.K X.mg X.base k f fd ps sp) (gds : X.A.guards = some []) (hr : Room k X.A) (hg : Gl X x) (hm : X.mg x = some (.ref f)) (hk : PySem.W.keepIn X.K (.ref f) = true) (hb : Binds X.K fd ps ds) (hd : Vals dvs ds) (hdt : DefT X.K dvs dts) (hx : Passes (L2N.CX X.prog X.w) X E)
    (ha : AT X E (e :: es) t) (hdb : (x == ("__debug__" : Str)) = false := by decide) (he : starEach (e :: es) X.env = (false, eval e X.env) :: starEach es X.env := by rfl) (hpl : (backTo pos (starEach es X.env)).any (·.1) = false := by rfl) :
    ET X E (.Call (.Name x p) (e :: es) [] pos) (rCall sp dts t) :=
  ⟨pe_weak (callG F.fn gds hr hg hm hk hb hd hx ha.pa hdb he hpl) fun sl H Q h => UpA.args (k := fun xs S1 R RE => sp (xs ++ dts) S1 R RE) h fun Z xs S1 vs H1 R RE ok rs kk po xo =>
    ⟨Z, _, S1, R, RE, rs.append (hdt Z S1 H1), ok, kk, po, xo⟩⟩
theorem et_call0 (F : FnT X.prog X.w X.K X.mg X.base k f fd ps sp) (gds : X.A.guards = some []) (hr : Room k X.A) (hg : Gl X x) (hm : X.mg x = some (.ref f)) (hk : PySem.W.keepIn X.K (.ref f) = true) (hb : Binds X.K fd ps ds) (hd : Vals dvs ds) (hdt : DefT X.K dvs dts) (hx : Passes (L2N.CX X.prog X.w) X E)
    (hdb : (x == ("__debug__" : Str)) = false := by decide) : ET X E (.Call (.Name x p) [] [] pos) (rCall sp dts aNil) :=
  ⟨pe_weak (callG0 F.fn gds hr hg hm hk hb hd hx hdb) fun sl H Q h => by
    obtain ⟨Z, σ, S, R, RE, fr, ok, w, po, xo⟩ := h.ex
    exact ⟨Z, _, S, R, RE, hdt Z S H, ok, w, po, xo⟩⟩
/-! keywords -/
structure KT (X : Cx) (E : XK) (kws : List Keyword) (r : TRA) : Prop where
  pk : PK X kws (UpA X.K E r)
/-- an order of the arguments, the same for trees and values -/
def OrdT (K : PySem.W.Frag) (gV : List V → List V → List V) (gT : List T → List T → List T) : Prop := ∀ Z S H vs ts us ws, Reps K Z S H vs ts → Reps K Z S H us ws → Reps K Z S H (gV vs us) (gT ts ws)
def rCallN (n m : Nat) (sp : SpT) (gT : List T → List T → List T) (t tk : TRA) : TR := fun σ S R RE => t σ S (fun xs S1 => tk σ S1 (fun zs S2 => xs.length = n ∧ zs.length = m ∧ sp (gT xs zs) S2 R RE) RE) RE
variable {g : List Value → List Value → List Value} {gV : List V → List V → List V} {gT : List T → List T → List T} {tk : TRA}
theorem et_callN (F : FnT X.prog X.w X.K X.mg X.base k f fd ps sp) (gds : X.A.guards = some []) (hr : Room k X.A) (hg : Gl X x) (hm : X.mg x = some (.ref f)) (hk : PySem.W.keepIn X.K (.ref f) = true) (hb : KBn X.K fd ps n ks g gV) (ho : OrdT X.K gV gT) (hx : Passes (L2N.CX X.prog X.w) X E)
    (ha : AT X E (e :: es) t) (hkw : KT X E kws tk) (hall : (backToKw pos (keywordEach kws X.env)).all (·.1.isSome) = true := by rfl) (hks : (backToKw pos (keywordEach kws X.env)).filterMap (·.1) = ks := by rfl)
    (hdb : (x == ("__debug__" : Str)) = false := by decide) (he : starEach (e :: es) X.env = (false, eval e X.env) :: starEach es X.env := by rfl)
    (hpl : ((backTo pos (starEach (e :: es) X.env)).any (·.1) || (backToKw pos (keywordEach kws X.env)).any (·.1.isNone)) = false := by rfl) :
    ET X E (.Call (.Name x p) (e :: es) kws pos) (rCallN n ks.length sp gT t tk) :=
  ⟨pe_weak (callGN F.fn gds hr hg hm hk hb hx ha.pa hkw.pk hall hks hdb he hpl) fun sl H Q h => by
    obtain ⟨Z, σ, S, R, RE, fr, ok, w, po, xo⟩ := h.ex
    refine ⟨Z, σ, S, _, RE, fr, ok, w, fun xs S1 vs H1 k1 le1 ok1 r1 => ?_, xo⟩
    refine ⟨Z, σ, S1, _, RE, fr.le le1, ok1, k1, fun zs S2 us H2 k2 le2 ok2 r2 => ?_, xo.le le1⟩
    obtain ⟨l1, l2, s⟩ := k2
    exact ⟨r1.length.trans l1, r2.length.trans l2, Z, _, S2, R, RE, ho _ _ _ _ _ _ _ (r1.le le2) r2, ok2, s, (po.le le1).le le2, (xo.le le1).le le2⟩⟩
theorem et_callK (F : FnT X.prog X.w X.K X.mg X.base k f fd ps sp) (gds : X.A.guards = some []) (hr : Room k X.A) (hg : Gl X x) (hm : X.mg x = some (.ref f)) (hk : PySem.W.keepIn X.K (.ref f) = true) (hb : KBn X.K fd ps 0 ks g gV) (ho : OrdT X.K gV gT) (hx : Passes (L2N.CX X.prog X.w) X E)
    (hkw : KT X E kws tk) (hall : (backToKw pos (keywordEach kws X.env)).all (·.1.isSome) = true := by rfl) (hks : (backToKw pos (keywordEach kws X.env)).filterMap (·.1) = ks := by rfl)
    (hdb : (x == ("__debug__" : Str)) = false := by decide)
    (hpl : ((backTo pos (starEach [] X.env)).any (·.1) || (backToKw pos (keywordEach kws X.env)).any (·.1.isNone)) = false := by rfl) :
    ET X E (.Call (.Name x p) [] kws pos) (rCallN 0 ks.length sp gT aNil tk) :=
  ⟨pe_weak (callGK F.fn gds hr hg hm hk hb hx hkw.pk hall hks hdb hpl) fun sl H Q h => by
    obtain ⟨Z, σ, S, R, RE, fr, ok, w, po, xo⟩ := h.ex
    refine ⟨Z, σ, S, _, RE, fr, ok, w, fun zs S2 us H2 k2 le2 ok2 r2 => ?_, xo⟩
    obtain ⟨l1, l2, s⟩ := k2
    exact ⟨rfl, r2.length.trans l2, Z, _, S2, R, RE, ho _ _ _ _ _ _ _ .nil r2, ok2, s, po.le le2, xo.le le2⟩⟩
end

/-! ### data -/
mutual
def T.dat : T → Option PyData
  | .non => some .none
  | .bl b => some (.bool b)
  | .int i => some (.int i)
  | .str z => some (.str z)
  | .lst l => (T.datL l).map .list
  | .tup l => (T.datL l).map .tuple
  | _ => none
def T.datL : List T → Option (List PyData)
  | [] => some []
  | t :: ts => match t.dat, T.datL ts with
    | some d, some ds => some (d :: ds)
    | _, _ => none
end
section
variable {K : PySem.W.Frag} {Z : Addr → Prop} {S : Store} {H : Hp}
mutual
theorem Rep.dp : ∀ {v : V} {t : T}, Rep K Z S H v t → ∀ {d}, t.dat = some d → Dp K H v d
  | _, _, .non, d, e => by rw [T.dat] at e; cases e; exact .non
  | _, _, .bl b, d, e => by rw [T.dat] at e; cases e; exact .bl b
  | _, _, .int i, d, e => by rw [T.dat] at e; cases e; exact .int i
  | _, _, .str z, d, e => by rw [T.dat] at e; cases e; exact .str z
  | _, _, .ty n, d, e => by rw [T.dat] at e <;> first | cases e | (intros; rename_i h; cases h)
  | _, _, .st a, d, e => by rw [T.dat] at e <;> first | cases e | (intros; rename_i h; cases h)
  | _, _, .cell a, d, e => by rw [T.dat] at e <;> first | cases e | (intros; rename_i h; cases h)
  | _, _, .scr h r, d, e => by rw [T.dat] at e <;> first | cases e | (intros; rename_i h; cases h)
  | _, _, .ins h n r, d, e => by rw [T.dat] at e <;> first | cases e | (intros; rename_i h; cases h)
  | _, _, .tup h r, d, e => by
    rw [T.dat] at e
    obtain ⟨ds, e1, rfl⟩ := Option.map_eq_some_iff.mp e
    exact .tup h.sq (Reps.dp r e1)
  | _, _, .lst h r, d, e => by
    rw [T.dat] at e
    obtain ⟨ds, e1, rfl⟩ := Option.map_eq_some_iff.mp e
    exact .lst h.sq (Reps.dp r e1)
theorem Reps.dp : ∀ {vs : List V} {ts : List T}, Reps K Z S H vs ts → ∀ {ds}, T.datL ts = some ds → DpAll K H vs ds
  | _, _, .nil, ds, e => by rw [T.datL] at e; cases e; exact .nil
  | _, _, .cons h r, ds, e => by
    rw [T.datL] at e
    split at e
    · rename_i d1 ds1 e1 e2
      cases e
      exact .cons (Rep.dp h e1) (Reps.dp r e2)
    · cases e
end
end
/-! ### operators of trees -/
section
variable {X : Cx} {E : XK}
theorem OpR.or {f : Value → Value → Sem Value} {r r' : R2} (h : OpR X f r) (h' : OpR X f r') : OpR X f (fun x y H Q => r x y H Q ∨ r' x y H Q) := fun pins s σ H x y v u Q I rx ry w =>
  w.elim (h pins s σ H x y v u Q I rx ry) (h' pins s σ H x y v u Q I rx ry)
abbrev KB := T → T → Store → (T → Store → Prop) → XT → Prop
def kAdd : KB := fun x y S R _ => match x, y with
  | .int i, .int j => R (.int (i + j)) S
  | .str a, .str b => a.length + b.length ≤ sizeLine ∧ R (.str (a ++ b)) S
  | .lst a, .lst b => a.length + b.length ≤ sizeLine ∧ R (.lst (a ++ b)) S
  | .tup a, .tup b => a ≠ [] ∧ a.length + b.length ≤ sizeLine ∧ R (.tup (a ++ b)) S
  | _, _ => False
def rStrAdd : R2 := fun x y H Q => ∃ i j, x = .str i ∧ y = .str j ∧ i.length + j.length ≤ sizeLine ∧ Q (.str (i ++ j)) H
theorem cv_add : Conv X.K E kAdd (fun x y H Q => (rI0 fun i j => .int (i + j)) x y H Q ∨ (rStrAdd x y H Q ∨ (rCat x y H Q ∨ rCatT X.K x y H Q))) := by
  intro Z x y S v u H R RE Q ok rx ry kk po xo
  unfold kAdd at kk
  split at kk
  · cases rx; cases ry
    exact .inl ⟨_, _, rfl, rfl, po _ _ _ _ kk .refl ok (.int _)⟩
  · cases rx; cases ry
    exact .inr (.inl ⟨_, _, rfl, rfl, kk.1, po _ _ _ _ kk.2 .refl ok (.str _)⟩)
  · cases rx with
    | lst h1 r1 =>
      cases ry with
      | lst h2 r2 => exact .inr (.inr (.inl ⟨_, _, _, _, rfl, rfl, h1.1, h2.1, by rw [r1.length, r2.length]; exact kk.1, fun p hp => po _ _ _ _ kk.2 (le_new hp) (ok.new hp) (.lstN ok hp (r1.append r2))⟩))
  · cases rx with
    | tup h1 r1 =>
      cases ry with
      | @tup p2 vs2 ts2 h2 r2 =>
        refine .inr (.inr (.inr ⟨_, _, _, _, rfl, rfl, h1.sq, h2.sq, fun e => ?_, by rw [r1.length, r2.length]; exact kk.2.1, fun e => ?_, fun _ p hp => po _ _ _ _ kk.2.2 (le_new hp) (ok.new hp) (.tupN ok hp (r1.append r2))⟩))
        · subst e
          cases r1
          exact kk.1 rfl
        · subst e
          cases r2
          have q := kk.2.2
          rw [List.append_nil] at q
          exact po _ _ _ _ q .refl ok (.tup h1 r1)
  · exact kk.elim
theorem op_addG : OpR X (binaryOp .Add) (fun x y H Q => (rI0 fun i j => .int (i + j)) x y H Q ∨ (rStrAdd x y H Q ∨ (rCat x y H Q ∨ rCatT X.K x y H Q))) := op_add.or (OpR.or op_add_str (op_cat.or op_catT))
def kI2 (C : Int → Int → Prop) (g : Int → Int → T) : KB := fun x y S R _ => match x, y with
  | .int i, .int j => C i j ∧ R (g i j) S
  | _, _ => False
theorem cv_I2 {C : Int → Int → Prop} {g : Int → Int → Int} : Conv X.K E (kI2 C fun i j => .int (g i j)) (rI C fun i j => .int (g i j)) := by
  intro Z x y S v u H R RE Q ok rx ry kk po xo
  unfold kI2 at kk
  split at kk
  · cases rx; cases ry
    exact ⟨_, _, rfl, rfl, kk.1, po _ _ _ _ kk.2 .refl ok (.int _)⟩
  · exact kk.elim
def kI2n (g : Int → Int → T) : KB := fun x y S R _ => match x, y with
  | .int i, .int j => R (g i j) S
  | _, _ => False
theorem cv_I2n {g : Int → Int → Int} : Conv X.K E (kI2n fun i j => .int (g i j)) (rI0 fun i j => .int (g i j)) := by
  intro Z x y S v u H R RE Q ok rx ry kk po xo
  unfold kI2n at kk
  split at kk
  · cases rx; cases ry
    exact ⟨_, _, rfl, rfl, po _ _ _ _ kk .refl ok (.int _)⟩
  · exact kk.elim
theorem cv_B2n {g : Int → Int → Bool} : Conv X.K E (kI2n fun i j => .bl (g i j)) (rI0 fun i j => .bl (g i j)) := by
  intro Z x y S v u H R RE Q ok rx ry kk po xo
  unfold kI2n at kk
  split at kk
  · cases rx; cases ry
    exact ⟨_, _, rfl, rfl, po _ _ _ _ kk .refl ok (.bl _)⟩
  · exact kk.elim
def kMul : KB := fun x y S R _ => match x, y with
  | .int i, .int j => IntMulOk i j ∧ R (.int (i * j)) S
  | .lst a, .int k => (-(2 ^ 63) ≤ k ∧ k < 2 ^ 63) ∧ a.length * k.toNat ≤ sizeLine ∧ R (.lst (List.replicate k.toNat a).flatten) S
  | .tup a, .int k => a ≠ [] ∧ 2 ≤ k ∧ k ≤ 1000 ∧ a.length ≤ 1000 ∧ R (.tup (List.replicate k.toNat a).flatten) S
  | _, _ => False
theorem Reps.rep {K : PySem.W.Frag} {Z : Addr → Prop} {S : Store} {H : Hp} {vs : List V} {ts : List T} (r : Reps K Z S H vs ts) : ∀ n : Nat, Reps K Z S H (List.replicate n vs).flatten (List.replicate n ts).flatten
  | 0 => .nil
  | n + 1 => by
    rw [List.replicate_succ, List.replicate_succ, List.flatten_cons, List.flatten_cons]
    exact r.append (Reps.rep r n)
theorem cv_mul : Conv X.K E kMul (fun x y H Q => (rI IntMulOk fun i j => .int (i * j)) x y H Q ∨ (rRep x y H Q ∨ rRepT X.K x y H Q)) := by
  intro Z x y S v u H R RE Q ok rx ry kk po xo
  unfold kMul at kk
  split at kk
  · cases rx; cases ry
    exact .inl ⟨_, _, rfl, rfl, kk.1, po _ _ _ _ kk.2 .refl ok (.int _)⟩
  · cases ry
    cases rx with
    | lst h1 r1 => exact .inr (.inl ⟨_, _, _, rfl, rfl, h1.1, kk.1.1, kk.1.2, by rw [r1.length]; exact kk.2.1, fun p hp => po _ _ _ _ kk.2.2 (le_new hp) (ok.new hp) (.lstN ok hp (r1.rep _))⟩)
  · cases ry
    cases rx with
    | tup h1 r1 => exact .inr (.inr ⟨_, _, _, rfl, rfl, h1.sq, fun e => by subst e; cases r1; exact kk.1 rfl, kk.2.1, kk.2.2.1, by rw [r1.length]; exact kk.2.2.2.1, fun p hp => po _ _ _ _ kk.2.2.2.2 (le_new hp) (ok.new hp) (.tupN ok hp (r1.rep _))⟩)
  · exact kk.elim
theorem op_mulP : OpR X (binaryOp .Mult) (rI IntMulOk fun i j => .int (i * j)) := opI fun _ _ _ _ _ _ _ hc q => mul_int q hc
theorem op_mulG : OpR X (binaryOp .Mult) (fun x y H Q => (rI IntMulOk fun i j => .int (i * j)) x y H Q ∨ (rRep x y H Q ∨ rRepT X.K x y H Q)) := op_mulP.or (op_rep.or op_repT)
/-! comparisons -/
def scalT : T → T → Bool
  | .non, .non => true | .non, .int _ => true | .int _, .non => true | .non, .bl _ => true | .bl _, .non => true | .non, .str _ => true | .str _, .non => true
  | .int _, .int _ => true | .bl _, .bl _ => true | .str _, .str _ => true
  | .int _, .str _ => true | .str _, .int _ => true | .bl _, .str _ => true | .str _, .bl _ => true
  | _, _ => false
def eqS : T → T → Bool
  | .non, .non => true
  | .int i, .int j => decide (i = j)
  | .bl i, .bl j => decide (i = j)
  | .str i, .str j => decide (i = j)
  | _, _ => false
def kEqG (ng : Bool) : KB := fun x y S R _ => (scalT x y = true ∧ R (.bl (ng ^^ eqS x y)) S) ∨ ∃ d e, x.dat = some d ∧ y.dat = some e ∧ SeqAt.shaped d = true ∧ SeqAt.shaped e = true ∧ R (.bl (ng ^^ PyData.eqv d e)) S
theorem scal_rep {K : PySem.W.Frag} {Z : Addr → Prop} {S : Store} {H : Hp} {v u : V} {x y : T} (rx : Rep K Z S H v x) (ry : Rep K Z S H u y) (h : scalT x y = true) : scal v u = true ∧ decide (v = u) = eqS x y := by
  cases rx <;> cases ry <;> first | (cases h; done) | exact ⟨rfl, by simp [eqS]⟩
theorem cv_eq : Conv X.K E (kEqG false) (fun x y H Q => rEq x y H Q ∨ rEqD X.K x y H Q) := by
  intro Z x y S v u H R RE Q ok rx ry kk po xo
  rcases kk with ⟨h, k⟩ | ⟨d, e, hd, he, sd, se, k⟩
  · obtain ⟨h1, h2⟩ := scal_rep rx ry h
    refine .inl ⟨h1, ?_⟩
    rw [h2]
    exact po _ _ _ _ (by simpa using k) .refl ok (.bl _)
  · exact .inr ⟨d, e, rx.dp hd, ry.dp he, sd, se, po _ _ _ _ (by simpa using k) .refl ok (.bl _)⟩
theorem cv_ne : Conv X.K E (kEqG true) (fun x y H Q => rNe x y H Q ∨ rNeD X.K x y H Q) := by
  intro Z x y S v u H R RE Q ok rx ry kk po xo
  rcases kk with ⟨h, k⟩ | ⟨d, e, hd, he, sd, se, k⟩
  · obtain ⟨h1, h2⟩ := scal_rep rx ry h
    refine .inl ⟨h1, ?_⟩
    rw [h2]
    exact po _ _ _ _ (by simpa using k) .refl ok (.bl _)
  · exact .inr ⟨d, e, rx.dp hd, ry.dp he, sd, se, po _ _ _ _ (by simpa using k) .refl ok (.bl _)⟩
theorem op_eqG (hu : X.A.units + 64 < cLine) : OpR X (compareOp .Eq) (fun x y H Q => rEq x y H Q ∨ rEqD X.K x y H Q) := op_eq.or (op_eqD hu)
theorem op_neG (hu : X.A.units + 64 < cLine) : OpR X (compareOp .NotEq) (fun x y H Q => rNe x y H Q ∨ rNeD X.K x y H Q) := op_ne.or (op_neD hu)
def isNon : T → Bool
  | .non => true
  | _ => false
def kIsN (ng : Bool) : KB := fun x y S R _ => y = .non ∧ R (.bl (ng ^^ isNon x)) S
theorem non_rep {K : PySem.W.Frag} {Z : Addr → Prop} {S : Store} {H : Hp} {v : V} {x : T} (rx : Rep K Z S H v x) : decide (v = .non) = isNon x := by
  cases rx <;> simp [isNon]
theorem cv_isN : Conv X.K E (kIsN false) (fun x y H Q => y = .non ∧ Q (.bl (decide (x = .non))) H) := by
  intro Z x y S v u H R RE Q ok rx ry ⟨e, k⟩ po xo
  subst e
  cases ry
  refine ⟨rfl, ?_⟩
  rw [non_rep rx]
  exact po _ _ _ _ (by simpa using k) .refl ok (.bl _)
theorem cv_notN : Conv X.K E (kIsN true) (fun x y H Q => y = .non ∧ Q (.bl (!decide (x = .non))) H) := by
  intro Z x y S v u H R RE Q ok rx ry ⟨e, k⟩ po xo
  subst e
  cases ry
  refine ⟨rfl, ?_⟩
  rw [non_rep rx]
  exact po _ _ _ _ (by simpa using k) .refl ok (.bl _)
/-! a[i] -/
def kIx : KB := fun x y S R _ => match x, y with
  | .lst l, .int i => ∃ t, atI l i = some t ∧ R t S
  | .tup l, .int i => ∃ t, atI l i = some t ∧ R t S
  | .scr l, .int i => ∃ t, atI l i = some t ∧ R t S
  | .str z, .int i => z.length ≤ sizeLine ∧ ∃ c, atI z.cps.toList i = some c ∧ R (.str ⟨#[c]⟩) S
  | .cell a, .int i => ∃ l t, S a = some (.lst l) ∧ atI l i = some t ∧ R t S
  | _, _ => False
theorem Reps.at {K : PySem.W.Frag} {Z : Addr → Prop} {S : Store} {H : Hp} {vs : List V} {ts : List T} {i : Int} {t : T} (r : Reps K Z S H vs ts) (h : atI ts i = some t) : ∃ v, atI vs i = some v ∧ Rep K Z S H v t := by
  unfold atI at h ⊢
  rw [r.length]
  cases e : ixN ts.length i with
  | none => rw [e] at h; cases h
  | some j => rw [e] at h; exact r.get h
theorem cv_ix : Conv X.K E kIx (rIx X.K) := by
  intro Z x y S v u H R RE Q ok rx ry kk po xo
  unfold kIx at kk
  split at kk
  · obtain ⟨t, h, k⟩ := kk
    cases ry
    cases rx with
    | lst h1 r1 =>
      obtain ⟨w, hw, rw'⟩ := r1.at h
      exact .inl ⟨_, _, _, _, rfl, rfl, h1.sq, hw, po _ _ _ _ k .refl ok rw'⟩
  · obtain ⟨t, h, k⟩ := kk
    cases ry
    cases rx with
    | tup h1 r1 =>
      obtain ⟨w, hw, rw'⟩ := r1.at h
      exact .inr (.inl ⟨_, _, _, _, rfl, rfl, h1.sq, hw, po _ _ _ _ k .refl ok rw'⟩)
  · obtain ⟨t, h, k⟩ := kk
    cases ry
    cases rx with
    | scr h1 r1 =>
      obtain ⟨w, hw, rw'⟩ := r1.at h
      exact .inl ⟨_, _, _, _, rfl, rfl, h1.sq, hw, po _ _ _ _ k .refl ok rw'⟩
  · obtain ⟨z, c, h, k⟩ := kk
    cases ry; cases rx
    exact .inr (.inr ⟨_, _, _, rfl, rfl, z, h, po _ _ _ _ k .refl ok (.str _)⟩)
  · obtain ⟨l, t, hs, h, k⟩ := kk
    cases ry; cases rx
    rename_i a i
    have c := ok.cl a
    rw [hs] at c
    obtain ⟨vs, hv, r1⟩ := c
    obtain ⟨w, hw, rw'⟩ := r1.at h
    exact .inl ⟨_, _, _, _, rfl, rfl, .of hv, hw, po _ _ _ _ k .refl ok rw'⟩
  · exact kk.elim
/-! len, truth, built-ins -/
abbrev KA := List T → Store → (T → Store → Prop) → XT → Prop
def lenT : T → Store → Option Nat
  | .lst l, _ => some l.length
  | .tup l, _ => some l.length
  | .scr l, _ => some l.length
  | .str z, _ => if z.length ≤ sizeLine then some z.length else none
  | .cell a, S => match S a with
    | some (.lst l) => some l.length
    | _ => none
  | _, _ => none
def kLen : KA := fun xs S R _ => ∃ x n, xs = [x] ∧ lenT x S = some n ∧ R (.int (n : Nat)) S
theorem len_rep {K : PySem.W.Frag} {Z : Addr → Prop} {S : Store} {H : Hp} {v : V} {x : T} {n : Nat} (ok : Ok K Z S H) (rx : Rep K Z S H v x) (h : lenT x S = some n) : LenV K v H n := by
  cases rx with
  | str z =>
    simp only [lenT] at h
    split at h
    · cases h; exact ⟨by assumption, rfl⟩
    · cases h
  | tup h1 r1 => cases h; exact .inr ⟨_, h1.sq, r1.length.symm⟩
  | lst h1 r1 => cases h; exact .inl ⟨_, h1.sq, r1.length.symm⟩
  | scr h1 r1 => cases h; exact .inl ⟨_, h1.sq, r1.length.symm⟩
  | cell a =>
    simp only [lenT] at h
    have c := ok.cl a
    split at h
    · rename_i l e
      rw [e] at c
      obtain ⟨vs, hv, r⟩ := c
      cases h
      exact .inl ⟨_, .of hv, r.length.symm⟩
    · cases h
  | _ => cases h
theorem cv_len : ConvA X.K E kLen (fun xs H Q => ∃ x n, xs = [x] ∧ LenV X.K x H n ∧ Q (.int n) H) := by
  intro Z xs S vs H R RE Q ok rs ⟨x, n, e, h, k⟩ po xo
  subst e
  cases rs with
  | cons r rr =>
    cases rr
    exact ⟨_, n, rfl, len_rep ok r h, po _ _ _ _ k .refl ok (.int _)⟩
def kU (g : Int → T) : KA := fun xs S R _ => ∃ i, xs = [.int i] ∧ R (g i) S
theorem cv_U {g : Int → Int} : ConvA X.K E (kU fun i => .int (g i)) (fun xs H Q => ∃ i, xs = [.int i] ∧ Q (.int (g i)) H) := by
  intro Z xs S vs H R RE Q ok rs ⟨i, e, k⟩ po xo
  subst e
  cases rs with
  | cons r rr =>
    cases rr; cases r
    exact ⟨_, rfl, po _ _ _ _ k .refl ok (.int _)⟩
def kA2 (g : Int → Int → T) : KA := fun xs S R _ => ∃ i j, xs = [.int i, .int j] ∧ R (g i j) S
theorem cv_A2 {g : Int → Int → Int} : ConvA X.K E (kA2 fun i j => .int (g i j)) (fun xs H Q => ∃ i j, xs = [.int i, .int j] ∧ Q (.int (g i j)) H) := by
  intro Z xs S vs H R RE Q ok rs ⟨i, j, e, k⟩ po xo
  subst e
  cases rs with
  | cons r rr =>
    cases r
    cases rr with
    | cons r rr =>
      cases r; cases rr
      exact ⟨_, _, rfl, po _ _ _ _ k .refl ok (.int _)⟩
def kDm : KA := fun xs S R _ => ∃ i j, xs = [.int i, .int j] ∧ CDivP i j ∧ R (.tup [.int (i / j), .int (i % j)]) S
theorem cv_dm : ConvA X.K E kDm (fun xs H Q => ∃ i j, xs = [.int i, .int j] ∧ CDivP i j ∧ ∀ p, H p = none → Q (.ref p) (upd H p (.tup [.int (i / j), .int (i % j)]))) := by
  intro Z xs S vs H R RE Q ok rs ⟨i, j, e, c, k⟩ po xo
  subst e
  cases rs with
  | cons r rr =>
    cases r
    cases rr with
    | cons r rr =>
      cases r; cases rr
      exact ⟨_, _, rfl, c, fun p hp => po _ _ _ _ k (le_new hp) (ok.new hp) (.tupN ok hp (.cons (.int _) (.cons (.int _) .nil)))⟩
def kStrI : KA := fun xs S R _ => ∃ i, xs = [.int i] ∧ i.natAbs.log2 < 1920 ∧ R (.str (toString i)) S
theorem cv_strI : ConvA X.K E kStrI (fun xs H Q => ∃ i, xs = [.int i] ∧ i.natAbs.log2 < 1920 ∧ Q (.str (toString i)) H) := by
  intro Z xs S vs H R RE Q ok rs ⟨i, e, c, k⟩ po xo
  subst e
  cases rs with
  | cons r rr =>
    cases rr; cases r
    exact ⟨_, rfl, c, po _ _ _ _ k .refl ok (.str _)⟩
/-- all, any of a list of truths -/
def kAll (f : List Bool → Bool) : KA := fun xs S R _ => ∃ bs : List Bool, xs = [.lst (bs.map .bl)] ∧ R (.bl (f bs)) S
theorem reps_bl {K : PySem.W.Frag} {Z : Addr → Prop} {S : Store} {H : Hp} : ∀ {bs : List Bool} {vs : List V}, Reps K Z S H vs (bs.map .bl) → vs = bs.map .bl
  | [], _, .nil => rfl
  | b :: bs, _, .cons h r => by cases h; rw [reps_bl r]; rfl
theorem cv_all {f : List Bool → Bool} : ConvA X.K E (kAll f) (fun vs H Q => ∃ (a : Addr) (bs : List Bool), vs = [V.ref a] ∧ SqL X.K H a (bs.map V.bl) ∧ Q (.bl (f bs)) H) := by
  intro Z xs S vs H R RE Q ok rs ⟨bs, e, k⟩ po xo
  subst e
  cases rs with
  | cons r rr =>
    cases rr
    cases r with
    | lst h1 r1 =>
      rw [reps_bl r1] at h1
      exact ⟨_, bs, rfl, h1.sq, po _ _ _ _ k .refl ok (.bl _)⟩
end

/-! ### slices -/
abbrev TRO := Fm → Store → (Option Int → Store → Prop) → XT → Prop
structure UpO (K : PySem.W.Frag) (E : XK) (r : TRO) (sl : L2.St) (H : Hp) (Q : Option Int → Hp → Prop) : Prop where
  ex : ∃ Z σ S R RE, FrR K Z S H sl σ ∧ Ok K Z S H ∧ r σ S R RE ∧ (∀ o S' H', R o S' → Le S H S' H' → Ok K Z S' H' → Q o H') ∧ XOk K Z S H RE E
structure OT (X : Cx) (E : XK) (e : Option Expr) (r : TRO) : Prop where
  po : L2.PO X e (UpO X.K E r)
theorem po_weak {X : Cx} {e : Option Expr} {t t' : TO} (he : L2.PO X e t) (imp : ∀ sl H Q, t' sl H Q → t sl H Q) : L2.PO X e t' := ⟨fun pins s sl H Q inv h => he.run pins s sl H Q inv (imp sl H Q h)⟩
def oNone : TRO := fun _ S R _ => R none S
def oSome (ra : TR) : TRO := fun σ S R RE => ra σ S (fun x S1 => ∃ i, x = .int i ∧ R (some i) S1) RE
def cutT (l : List T) (lo hi : Option Int) : List T := (l.drop (HT.sIx l.length 0 lo)).take (HT.sIx l.length l.length hi - HT.sIx l.length 0 lo)
section
variable {X : Cx} {E : XK} {e a b c : Expr} {es : List Expr} {pos p2 : Pos} {ra rb rc : TR} {t : TRA} {lo hi : Option Expr} {rl rh : TRO}
theorem ot_none : OT X E none oNone := ⟨po_weak po_none fun sl H Q ⟨⟨Z, σ, S, R, RE, fr, ok, w, po, xo⟩⟩ => po none S H w .refl ok⟩
theorem ot_some (h : ET X E a ra) : OT X E (some a) (oSome ra) := ⟨po_weak (po_some h.pe) fun sl H Q ⟨⟨Z, σ, S, R, RE, fr, ok, w, po, xo⟩⟩ => ⟨Z, σ, S, _, RE, fr, ok, w, fun x S1 v H1 k le ok1 rep => by
  obtain ⟨i, rfl, k⟩ := k
  cases rep
  exact ⟨i, rfl, po _ S1 H1 k le ok1⟩, xo⟩⟩
def kSl : T → Option Int → Option Int → Store → (T → Store → Prop) → Prop := fun x lo hi S R => match x with
  | .lst l => R (.lst (cutT l lo hi)) S
  | .scr l => R (.lst (cutT l lo hi)) S
  | .tup l => ¬ (HT.sIx l.length 0 lo = 0 ∧ HT.sIx l.length l.length hi = l.length) ∧ R (.tup (cutT l lo hi)) S
  | .str z => z.length ≤ sizeLine ∧ R (.str (cutS z lo hi)) S
  | _ => False
def rSl (ra : TR) (rl rh : TRO) : TR := fun σ S R RE => ra σ S (fun x S1 => rl σ S1 (fun l S2 => rh σ S2 (fun h S3 => kSl x l h S3 R) RE) RE) RE
theorem Reps.cut {K : PySem.W.Frag} {Z : Addr → Prop} {S : Store} {H : Hp} {vs : List V} {ts : List T} {l h : Option Int} (r : Reps K Z S H vs ts) : Reps K Z S H (cutV vs l h) (cutT ts l h) := by
  unfold cutV cutT
  rw [r.length]
  exact (r.drop _).take _
theorem et_slice (ha : ET X E a ra) (hl : OT X E lo rl) (hh : OT X E hi rh) : ET X E (.Subscript a (.Slice lo hi none p2) pos) (rSl ra rl rh) :=
  ⟨pe_weak (pe_slice (SlR.or sl_list (SlR.or sl_tup sl_str)) ha.pe hl.po hh.po) fun sl H Q ⟨⟨Z, σ, S, R, RE, fr, ok, w, po, xo⟩⟩ => by
    refine ⟨Z, σ, S, _, RE, fr, ok, w, fun x S1 v H1 k1 le1 ok1 rep => ?_, xo⟩
    refine ⟨Z, σ, S1, _, RE, fr.le le1, ok1, k1, fun l S2 H2 k2 le2 ok2 => ?_, xo.le le1⟩
    refine ⟨Z, σ, S2, _, RE, (fr.le le1).le le2, ok2, k2, fun h S3 H3 k3 le3 ok3 => ?_, (xo.le le1).le le2⟩
    have po3 := ((po.le le1).le le2).le le3
    have rep3 := (rep.le le2).le le3
    unfold kSl at k3
    split at k3
    · cases rep3 with
      | lst h1 r1 => exact .inl ⟨_, _, rfl, h1.sq, fun p hp => po3 _ _ _ _ k3 (le_new hp) (ok3.new hp) (.lstN ok3 hp r1.cut)⟩
    · cases rep3 with
      | scr h1 r1 => exact .inl ⟨_, _, rfl, h1.sq, fun p hp => po3 _ _ _ _ k3 (le_new hp) (ok3.new hp) (.lstN ok3 hp r1.cut)⟩
    · cases rep3 with
      | tup h1 r1 => exact .inr (.inl ⟨_, _, rfl, h1.sq, by rw [r1.length]; exact k3.1, fun p hp => po3 _ _ _ _ k3.2 (le_new hp) (ok3.new hp) (.tupN ok3 hp r1.cut)⟩)
    · cases rep3
      exact .inr (.inr ⟨_, rfl, k3.1, po3 _ _ _ _ k3.2 .refl ok3 (.str _)⟩)
    · exact k3.elim⟩
/-! ### xs.append(e) and the like: methods of a list that changes -/
def rMut (k : Addr → List T → List T → Store → (T → Store → Prop) → Prop) (ra : TR) (t : TRA) : TR := fun σ S R RE => ra σ S (fun x S1 => ∃ a, x = .cell a ∧ (∃ l, S1 a = some (.lst l)) ∧ t σ S1 (fun xs S2 => ∃ l, S2 a = some (.lst l) ∧ k a l xs S2 R) RE) RE
theorem et_mut {name : Str} {id : String} {apos cpos : Pos} {o : Expr} {r : V → List V → Hp → VK → Prop} {k} (slot : Slot "list" name id) (hty : typeOf (.builtin id) = pure (.type "method_descriptor")) (hm : MtR X id r)
    (cv : ∀ Z a l xs S vs H R Q, Ok X.K Z S H → Reps X.K Z S H vs xs → S a = some (.lst l) → k a l xs S R → PO X.K Z S H R Q → r (.ref a) vs H Q) (ho : ET X E o ra) (ha : AT X E (e :: es) t)
    (hbase : attributeBase o name X.env (eval o X.env) = eval o X.env := by rfl)
    (hfew : ((backTo cpos (starEach (e :: es) X.env)).all (fun x => !x.1) && (backToKw cpos (keywordEach [] X.env)).all (fun x => x.1.isSome)
      && decide ((e :: es).length + ([] : List Keyword).length + (if ([] : List Keyword).isEmpty then 0 else 1) < 30)) = true := by rfl)
    (hline : (apos.endLine == cpos.line) = true := by rfl) (hs : starEach (e :: es) X.env = (false, eval e X.env) :: starEach es X.env := by rfl) (hplain : (backTo cpos (starEach es X.env)).any (·.1) = false := by rfl) :
    ET X E (.Call (.Attribute o name apos) (e :: es) [] cpos) (rMut k ra t) :=
  ⟨pe_weak (pe_bm PySem.F.plainAttrs_list slot hty hm ho.pe ha.pa hbase hfew hline hs hplain) fun sl H Q ⟨⟨Z, σ, S, R, RE, fr, ok, w, po, xo⟩⟩ => by
    refine ⟨Z, σ, S, _, RE, fr, ok, w, fun x S1 v H1 k1 le1 ok1 rep => ?_, xo⟩
    obtain ⟨a, rfl, ⟨l, hl⟩, k1⟩ := k1
    cases rep
    have c := ok1.cl a
    rw [hl] at c
    obtain ⟨vs, hv, _⟩ := c
    refine ⟨.inl ⟨rfl, _, SqL.of hv⟩, Z, σ, S1, _, RE, fr.le le1, ok1, k1, fun xs S2 ws H2 k2 le2 ok2 rs => ?_, xo.le le1⟩
    obtain ⟨l2, hl2, k2⟩ := k2
    exact cv Z a l2 xs S2 ws H2 R Q ok2 rs hl2 k2 ((po.le le1).le le2)⟩
def kAppend : Addr → List T → List T → Store → (T → Store → Prop) → Prop := fun a l xs S R => ∃ x, xs = [x] ∧ l.length < sizeLine ∧ R .non (S.put a (.lst (l ++ [x])))
theorem cv_append : ∀ Z a l xs S vs H R Q, Ok X.K Z S H → Reps X.K Z S H vs xs → S a = some (.lst l) → kAppend a l xs S R → PO X.K Z S H R Q → rAppend (.ref a) vs H Q := by
  intro Z a l xs S vs H R Q ok rs hs ⟨x, e, z, k⟩ po
  subst e
  cases rs with
  | @cons v _ _ _ r rr =>
    cases rr
    have c := ok.cl a
    rw [hs] at c
    obtain ⟨ws, hv, r1⟩ := c
    have l3 : Le S H (S.put a (.lst (l ++ [x]))) (upd H a (.lst (ws ++ [v]))) := le_setc hs
    exact ⟨a, ws, _, rfl, rfl, hv, by rw [r1.length]; exact z, po _ _ _ _ k l3 (ok.put l3 (ok.nzc hs) ⟨_, upd_same, (r1.append (.cons r .nil)).le l3⟩) .non⟩
def kExtend : Addr → List T → List T → Store → (T → Store → Prop) → Prop := fun a l xs S R => ∃ m, xs = [.lst m] ∧ l.length + m.length ≤ sizeLine ∧ R .non (S.put a (.lst (l ++ m)))
theorem cv_extend : ∀ Z a l xs S vs H R Q, Ok X.K Z S H → Reps X.K Z S H vs xs → S a = some (.lst l) → kExtend a l xs S R → PO X.K Z S H R Q → rExtend (.ref a) vs H Q := by
  intro Z a l xs S vs H R Q ok rs hs ⟨m, e, z, k⟩ po
  subst e
  cases rs with
  | cons r rr =>
    cases rr
    cases r with
    | lst h2 r2 =>
      have c := ok.cl a
      rw [hs] at c
      obtain ⟨ws, hv, r1⟩ := c
      have l3 := fun vs => (le_setc hs : Le S H (S.put a (.lst (l ++ m))) (upd H a (.lst (ws ++ vs))))
      exact ⟨a, _, ws, _, rfl, rfl, hv, h2.1, by rw [r1.length, r2.length]; exact z, po _ _ _ _ k (l3 _) (ok.put (l3 _) (ok.nzc hs) ⟨_, upd_same, (r1.append r2).le (l3 _)⟩) .non⟩
/-! ### repr of data -/
structure SmT (k n : Nat) (t : T) : Prop where
  ex : ∃ d, t.dat = some d ∧ d.showable = true ∧ d.hasDict = false ∧ d.depth ≤ k ∧ d.shown.length ≤ n
def shownT (t : T) : Str := match t.dat with
  | some d => d.shown
  | none => Str.empty
def isDispT : T → Bool
  | .lst _ => true
  | .tup _ => true
  | _ => false
def kRepr : KA := fun xs S R _ => ∃ x k n, xs = [x] ∧ isDispT x = true ∧ SmT k n x ∧ k ≤ 64 ∧ n ≤ 16777216 ∧ R (.str (shownT x)) S
theorem cv_repr : ConvA X.K E kRepr (RRepr X.K) := by
  intro Z xs S vs H R RE Q ok rs ⟨x, k, n, e, di, ⟨d, hd, sh, nd, dp, ln⟩, hk, hn, r⟩ po xo
  subst e
  cases rs with
  | cons rx rr =>
    cases rr
    refine ⟨_, d, rfl, rx.dp hd, ?_, sh, nd, Nat.le_trans dp hk, Nat.le_trans ln (by rw [sizeLine_eq]; exact hn), ?_⟩
    · cases x <;> first | (cases di; done) | (rw [T.dat] at hd; obtain ⟨ds, _, rfl⟩ := Option.map_eq_some_iff.mp hd; rfl)
    · refine po _ _ _ _ r .refl ok ?_
      unfold shownT
      rw [hd]
      exact .str _
/-! ### tuple(..), list(..) -/
def kTuple : KA := fun xs S R _ => ∃ x l, xs = [x] ∧ (x = .lst l ∨ x = .tup l) ∧ R (.tup l) S
theorem cv_tuple : ConvA X.K E kTuple (fun xs H Q => ∃ p ys, xs = [.ref p] ∧ ((SqL X.K H p ys ∧ ∀ l, H l = none → Q (.ref l) (upd H l (.tup ys))) ∨ (SqT X.K H p ys ∧ Q (.ref p) H))) := by
  intro Z xs S vs H R RE Q ok rs ⟨x, l, e, hx, k⟩ po xo
  subst e
  cases rs with
  | cons r rr =>
    cases rr
    rcases hx with rfl | rfl
    · cases r with
      | lst h1 r1 => exact ⟨_, _, rfl, .inl ⟨h1.sq, fun p hp => po _ _ _ _ k (le_new hp) (ok.new hp) (.tupN ok hp r1)⟩⟩
    · cases r with
      | tup h1 r1 => exact ⟨_, _, rfl, .inr ⟨h1.sq, po _ _ _ _ k .refl ok (.tup h1 r1)⟩⟩
def kList : KA := fun xs S R _ => ∃ x l, xs = [x] ∧ seqOf x = some l ∧ R (.lst l) S
theorem cv_list : ConvA X.K E kList (fun xs H Q => ∃ p ys, xs = [.ref p] ∧ (SqL X.K H p ys ∨ SqT X.K H p ys) ∧ ∀ l, H l = none → Q (.ref l) (upd H l (.lst ys))) := by
  intro Z xs S vs H R RE Q ok rs ⟨x, l, e, hx, k⟩ po xo
  subst e
  cases rs with
  | cons r rr =>
    cases rr
    cases r <;> try (cases hx; done)
    · rename_i h1 r1
      cases hx
      exact ⟨_, _, rfl, .inr h1.sq, fun p hp => po _ _ _ _ k (le_new hp) (ok.new hp) (.lstN ok hp r1)⟩
    · rename_i h1 r1
      cases hx
      exact ⟨_, _, rfl, .inl h1.sq, fun p hp => po _ _ _ _ k (le_new hp) (ok.new hp) (.lstN ok hp r1)⟩
    · rename_i h1 r1
      cases hx
      exact ⟨_, _, rfl, .inl h1.sq, fun p hp => po _ _ _ _ k (le_new hp) (ok.new hp) (.lstN ok hp r1)⟩
end
/-! keywords -/
section
variable {X : Cx} {E : XK} {e : Expr} {ra : TR} {tk : TRA}
theorem kt_nil : KT X E [] aNil := ⟨⟨fun pos pins s sl H Q I h => pk_nil.run pos pins s sl H Q I (by
  obtain ⟨Z, σ, S, R, RE, fr, ok, w, po, xo⟩ := h.ex
  exact po [] S [] H w .refl ok .nil)⟩⟩
theorem kt_cons {nm : Option Str} {kpos : Pos} {kws : List Keyword} (ha : ET X E e ra) (hr : KT X E kws tk) : KT X E (⟨nm, e, kpos⟩ :: kws) (aCons ra tk) := ⟨⟨fun pos pins s sl H Q I h => (pk_cons ha.pe hr.pk).run pos pins s sl H Q I (by
  obtain ⟨Z, σ, S, R, RE, fr, ok, w, po, xo⟩ := h.ex
  refine ⟨Z, σ, S, _, RE, fr, ok, w, fun x S1 v H1 kk le ok1 rep => ?_, xo⟩
  exact ⟨Z, σ, S1, _, RE, fr.le le, ok1, kk, fun xs S2 vs H2 k2 le2 ok2 rs => po (x :: xs) S2 (v :: vs) H2 k2 (le.trans le2) ok2 (.cons (rep.le le2) rs), xo.le le⟩)⟩⟩
end
/-! ### isinstance -/
/-- what isinstance asks of a class of one's own -/
structure InsC (K : PySem.W.Frag) (C : Addr) : Prop where
  cl : Cls K C
  c1 : PySem.W.findIn K (.ref C) "__class__" = some (some (.builtin "object.__class__"))
  c2 : PySem.W.specialIn K (.builtin "object.__class__") "__get__" = some (some (.builtin "getset_descriptor.__get__"))
  c3 : PySem.W.takesIn K (.builtin "object.__class__") = some true
  c4 : PySem.W.mroIn K C (.type "object") = some true
inductive TyT (K : PySem.W.Frag) (S : Store) : T → Value → Prop
  | non : TyT K S .non (.type "NoneType")
  | bl (x : Bool) : TyT K S (.bl x) (.type "bool")
  | int (i : Int) : TyT K S (.int i) (.type "int")
  | str (x : Str) : TyT K S (.str x) (.type "str")
  | lst (l : List T) : TyT K S (.lst l) (.type "list")
  | scr (l : List T) : TyT K S (.scr l) (.type "list")
  | tup (l : List T) : TyT K S (.tup l) (.type "tuple")
  | cell {a : Addr} {l : List T} (h : S a = some (.lst l)) : TyT K S (.cell a) (.type "list")
  | ins {C : Addr} {gs : List (Str × T)} (h : InsC K C) : TyT K S (.ins C gs) (.ref C)
  | cins {a C : Addr} {gs : List (Str × T)} (h : InsC K C) (e : S a = some (.ins C gs)) : TyT K S (.cell a) (.ref C)
inductive ClT : T → Value → Prop
  | ty (n : String) : ClT (.ty n) (.type n)
  | st (a : Addr) : ClT (.st a) (.ref a)
section
variable {X : Cx} {E : XK}
theorem ty_rep {K : PySem.W.Frag} {Z : Addr → Prop} {S : Store} {H : Hp} {v : V} {x : T} {t : Value} (ok : Ok K Z S H) (rx : Rep K Z S H v x) (h : TyT K S x t) : TyX K H v t := by
  cases h with
  | non => cases rx; exact .base .non
  | bl b => cases rx; exact .base (.bl b)
  | int i => cases rx; exact .base (.int i)
  | str z => cases rx; exact .base (.str z)
  | lst l => cases rx with | lst h r => exact .base (.lst h.1)
  | scr l =>
    cases rx with
    | scr h r =>
      rcases h with ⟨⟨o, h⟩, _⟩ | ⟨o, its, n, h, c, _⟩
      · exact .base (.frz h)
      · exact .kList h c
  | tup l =>
    cases rx with
    | tup h r =>
      rcases h with ⟨h | ⟨o, h⟩, _⟩ | ⟨o, its, n, h, c, _⟩
      · exact .base (.tup h)
      · exact .fTuple h
      · exact .kTuple h c
  | @cell a l h =>
    cases rx
    have c := ok.cl a
    rw [h] at c
    obtain ⟨vs, hv, _⟩ := c
    exact .base (.lst hv)
  | ins h => cases rx with | ins h2 n r => exact .base (.ins h2 h.cl h.c1 h.c2 h.c3 h.c4)
  | @cins a C gs h e =>
    cases rx
    have c := ok.cl a
    rw [e] at c
    obtain ⟨dx, fs, hv, _⟩ := c
    exact .base (.ins hv h.cl h.c1 h.c2 h.c3 h.c4)
def kIsi (K : PySem.W.Frag) : KA := fun xs S R _ => ∃ x c t u b, xs = [x, c] ∧ ClT c u ∧ TyT K S x t ∧ PySem.W.kitOne K t u = some b ∧ R (.bl b) S
theorem cv_isi {K : PySem.W.Frag} : ConvA K E (kIsi K) (rIsi K) := by
  intro Z xs S vs H R RE Q ok rs ⟨x, c, t, u, b, e, hc, ht, hk, k⟩ po xo
  subst e
  cases rs with
  | cons r rr =>
    cases rr with
    | cons r2 rr =>
      cases rr
      refine ⟨_, _, t, u, b, rfl, ?_, ty_rep ok r ht, hk, po _ _ _ _ k .refl ok (.bl b)⟩
      cases hc with
      | ty n => cases r2; exact .ty n
      | st a => cases r2; exact .own a
end

/-! an own error with one field, made and raised: the class's text, C(e) for L2N, raise C(e) -/
section
open PySem.W PySem.Calls PyProof.Rows PySem.HandSPX
def evArgs (p1 p2 : Pos) : Arguments := { posonlyargs := [], args := [{ arg := "self", annotation := none, pos := p1 }, { arg := "value", annotation := none, pos := p2 }], vararg := none, kwonlyargs := [], kw_defaults := [], kwarg := none, defaults := [] }
def evBody (q1 q2 q3 q4 : Pos) : List Stmt := [.Assign [.Attribute (.Name "self" q1) "value" q2] (.Name "value" q3) q4]
def evScope : Scope := { kind := .function, names := [(PySem.Str.ofString "self", .local), (PySem.Str.ofString "value", .local)], isGenerator := false, isCoroutine := false, more := [] }
/-- what the top says of the class at C and of its __init__ at fI -/
structure EvTxt (K : Frag) (C fI : Addr) (qi : Str) : Prop where
  cls : ∃ nm q N bs bm sn sub ab col dd k0 k1 k2 k3 k5, K.lookup C = some (excClassObj nm q C N bs bm true sn sub ab col dd k0 k1 k2 k3 k5 "ValueError.__new__") ∧ refsVE bm = true
  sa : findIn K (.ref C) "__setattr__" = some (some (.builtin "object.__setattr__"))
  ga : findIn K (.ref C) "__getattribute__" = some (some (.builtin "BaseException.__getattribute__"))
  gg : findIn K (.ref C) "__getattr__" = some none
  noN : findIn K (.ref C) "value" = some none
  iC : findIn K (.ref C) "__init__" = some (some (.ref fI))
  tC : typeIn K (.ref fI) = some (.type "function")
  kC : keepIn K (.ref C) = true
  exC : subIn K (.ref C) (.type "BaseException") = some true
  tyC : typeIn K (.ref C) = some (.type "type")
  hdC : hasDictIn K C = true
  fn : ∃ (oc : Value) (od : Option Addr) (doc pm : Value) (an : Option Addr) (cdv ct : Value) (osl : Array (Option Value)) (p1 p2 q1 q2 q3 q4 : Pos),
    K.lookup fI = some ⟨oc, od, .func (fnOf "__init__" qi (evArgs p1 p2) (evBody q1 q2 q3 q4) evScope .none .none doc pm an cdv ct), osl⟩ ∧ codeIn K cdv qi = true
theorem one_fits (u : Value) : [u].length ≤ sizeLine := by
  show 1 ≤ sizeLine
  rw [sizeLine_eq]
  decide
theorem ev_name {M : Model} {s0 : Shared} {nm : Str} {sc : Scope} {fr a : Addr} {cd : Value} {m : Str → Option Value} {y : Str} {ps : Pos} {u : Value} {Q : Value → Shared → Prop} {A : Around} {E : Value → Shared → Prop} (hns : s0.heap.Ns fr m) (hu : m y = some u) (fin : Q u s0)
    (isf : sc.kind = .function := by rfl) (isl : (envOfC nm sc fr a cd).kindOf y = some .local := by rfl) (dbg : (y == ("__debug__" : Str)) = false := by decide) :
    wpAny M A (eval (.Name y ps) (envOfC nm sc fr a cd)) Q E s0 := wpAny_Name (wpAny_loadName_local isf isl hns hu fin) dbg
/-- what __init__ leaves of the new error at x -/
structure EvEnd (h h' : Heap) (x C dx t1 : Addr) (u : Value) : Prop where
  keep : ∀ b o, b ≠ x → h.get? b = some o → h'.get? b = some o
  obj : h'.get? x = some { cls := .ref C, dict := some dx, data := .fields #[.ref t1, .none, .none, .none, .bool false, .none] }
  dbig : h.objs.size ≤ dx
  dne : dx ≠ x
  ns : h'.Ns1 dx (fun y => if y = "value" then some u else none)
structure EvMade (h h' : Heap) (e C d : Addr) (u : Value) : Prop where
  keep : ∀ b o, h.get? b = some o → h'.get? b = some o
  new : h.objs.size ≤ e
  obj : ∃ oe t1, h'.get? e = some oe ∧ oe.cls = .ref C ∧ oe.dict = some d ∧ oe.data = .fields #[.ref t1, .none, .none, .none, .bool false, .none]
  dbig : h.objs.size ≤ d
  dne : d ≠ e
  ns : h'.Ns1 d (fun y => if y = "value" then some u else none)
section
variable {prog : Program} {w : World} {A : Around} {E : Value → Shared → Prop} {R : Result → Shared → Prop} {s0 : Shared} {K : Frag} {C fI : Addr} {qi : Str}
theorem ev_init (Z : EvTxt K C fI qi) {x t0 : Addr} {u : Value} (inK : K.In s0.heap) (lim : s0.heap.NoLimit) (hx : s0.heap.get? x = some (excO C t0)) (room : A.depth < recursionLimit)
    (fin : ∀ h' tk dx, EvEnd s0.heap h' x C dx t0 u → R (.ok (.ret .none)) { s0 with heap := h', toks := tk }) :
    codeAny (model prog w) A (.call (.ref fI) ⟨[.ref x, u], []⟩) R s0 := by
  obtain ⟨oc, od, doc, pm, an, cdv, ct, osl, p1, p2, q1, q2, q3, q4, lk, code⟩ := Z.fn
  obtain ⟨cn, cq, cN, cb, cm, csn, csb, cab, ccol, cdd, j0, j1, j2, j3, j5, lkC, refs⟩ := Z.cls
  have cdat : clsIn K C = some { name := cn, bases := cb, mro := .ref C :: cm, ns := cN, qualname := cq, hasDict := true, slotNames := csn, subclasses := csb, abstract := cab, collection := ccol, hasDel := false } := by
    unfold clsIn
    rw [lkC] <;> rfl
  refine Att.call_fn (binds := [("self", .ref x), ("value", u)]) inK lim lk code room (BindsTo.of_eq (by first | rfl | with_unfolding_all rfl)) (by first | rfl | decide | with_unfolding_all rfl) (fun s1 inC => ?_) rfl rfl rfl
  obtain ⟨h1, tk1, rfl⟩ := inC.toInCall.same
  have kp : ∀ b o, s0.heap.get? b = some o → h1.get? b = some o := inC.toInCall.keep
  have hns := inC.toInCall.ns
  have inK1 : K.In h1 := inK.keeps kp
  have hx1 := kp _ _ hx
  show wpAny _ _ (execs _ _) _ _ _
  refine wpAny_execs_cons (plainObj_wpAny_Assign_Attribute ?_)
  refine ev_name (u := u) hns (by first | rfl | with_unfolding_all rfl | kernel_rfl) (ev_name (u := .ref x) hns (by first | rfl | with_unfolding_all rfl | kernel_rfl) ?_)
  refine set_plain inK1 (ox := excO C t0) (od := none) ⟨hx1, rfl, rfl, trivial⟩ Z.sa ?_
  refine exc_osa inK1 hx1 cdat (show refsVE (.ref C :: cm) = true from refs) rfl Z.noN (fun h3 tk3 dx kp3 dbig dne hx3 ns3 => ?_)
  show wpAny _ _ (execs _ _) _ _ _
  have lt : s0.heap.objs.size < h1.objs.size := hns.lt
  exact wpAny_execs_nil (fin h3 tk3 dx ⟨fun b o hb e => kp3 b o hb (kp b o e), hx3, Nat.le_of_lt (Nat.lt_of_lt_of_le lt dbig), dne, ns3⟩)
theorem ev_made (Z : EvTxt K C fI qi) {u : Value} (inK : K.In s0.heap) (lim : s0.heap.NoLimit) (room : A.depth + 1 < recursionLimit)
    (fin : ∀ h' tk e d, EvMade s0.heap h' e C d u → R (.ok (.ret (.ref e))) { s0 with heap := h', toks := tk }) :
    codeAny (model prog w) A (.call (.ref C) ⟨[u], []⟩) R s0 := by
  obtain ⟨cn, cq, cN, cb, cm, csn, csb, cab, ccol, cdd, j0, j1, j2, j3, j5, lkC, refs⟩ := Z.cls
  obtain ⟨hp, gn, dr, tk, os⟩ := s0
  have kp : ∀ b o, hp.get? b = some o → ((hp.push (kdv_tup [u])).push (excO C hp.objs.size)).get? b = some o := fun b o e => Heap.get?_push_of_some _ (Heap.get?_push_of_some _ e)
  have got : ((hp.push (kdv_tup [u])).push (excO C hp.objs.size)).get? (hp.objs.size + 1) = some (excO C hp.objs.size) := by heap_get
  refine call_own F.excBase_ValueError (fun Y => refsVE_contains Y cm refs) (inK _ _ lkC) (looks_findIn inK Z.iC) (fun self => bind_fn inK self Z.tC) (one_fits u) ?_
  refine ev_init (s0 := ⟨(hp.push (kdv_tup [u])).push (excO C hp.objs.size), gn, dr, tk, os⟩) Z (inK.keeps kp) (lim.keeps kp) got ?_ fun h' tk' dx made => ?_
  · show A.depth + 1 < recursionLimit
    exact room
  · have old : ∀ b o, hp.get? b = some o → h'.get? b = some o := fun b o e => made.keep b o (Nat.ne_of_lt (Nat.lt_succ_of_lt (Heap.lt_size e))) (kp b o e)
    have far : hp.objs.size + 1 + 1 ≤ dx := by
      have q := made.dbig
      first
        | exact q
        | (rw [Heap.size_push, Heap.size_push] at q; exact q)
        | simpa only [Heap.size_push] using q
    exact ⟨rfl, fin h' tk' (hp.objs.size + 1) dx ⟨old, Nat.le_succ _, ⟨_, _, made.obj, rfl, rfl, rfl⟩, Nat.le_trans (Nat.le_trans (Nat.le_succ _) (Nat.le_succ _)) far, made.dne, made.ns⟩⟩
end
end
theorem relO_ev {v : V} {u : Value} (r : RelV v u) (y : Str) : RelO (List.lookup y [(("value" : Str), v)]) (if y = "value" then some u else none) := by
  by_cases hy : y = "value"
  · subst hy
    rw [if_pos rfl, show List.lookup ("value" : Str) [(("value" : Str), v)] = some v by simp [List.lookup]]
    exact r
  · have ny : (y == ("value" : Str)) = false := by simpa using hy
    rw [if_neg hy, show List.lookup y [(("value" : Str), v)] = none by simp [List.lookup, ny]]
    trivial
section
variable {X : Cx} {C fI : Addr} {qi : Str}
/-- C(e): the error's own dict is new -/
def tEv (C : Addr) (ta : TA) : L2.St → Hp → XK → Prop := fun sl H Q => ta sl H fun vs H1 => ∃ v, vs = [v] ∧ ∀ d, H1 d = none → Q (.ref C) (some d) (upd H1 d (.xd [(("value" : Str), v)]))
theorem pmk_ev {nm : Str} {a : Expr} {ta : TA} {p pos : Pos} {k : Nat} (Z : EvTxt X.K C fI qi) (hm : X.mg nm = some (.ref C)) (room : Room k X.A) (ha : PA X [a] ta) (hg : Gl X nm) (dbg : (nm == ("__debug__" : Str)) = false := by decide)
    (hst : starEach (a :: []) X.env = (false, eval a X.env) :: starEach [] X.env := by rfl) (hpl : (backTo pos (starEach [] X.env)).any (·.1) = false := by rfl) :
    L2N.PMk X (.Call (.Name nm p) [a] [] pos) (tEv C ta) := by
  intro pins st sl H Q inv want
  refine wpAny_Call_Name_kw (ld_glob inv hg hm ?_ dbg)
  refine PySem.W.callWith_K (h₀ := X.base) inv.ok.mod.kin Z.kC (thn (ha.run pos pins st sl H _ inv want) fun us st1 got => ?_) hst hpl
  obtain ⟨vs, H1, inv1, rel, v, ev, q⟩ := got
  subst ev
  refine ⟨inv1.kIn, ?_⟩
  obtain ⟨u, rfl, rv⟩ := vals1 rel
  show wpAny _ _ (call (.ref C) [u]) _ _ _
  have lim := inv1.nolimit
  obtain ⟨hp, gn, dr, tk, os⟩ := st1
  refine wpAny_call (ev_made Z inv1.kIn lim (by have := room.dp; omega) fun h' tk' e d made => ?_)
  show L2N.MkP X pins sl Q (.ref e) ⟨h', gn, dr, tk', os⟩
  obtain ⟨oe, t1, hoe, ec, ed, edat⟩ := made.obj
  obtain ⟨G, g1, g2⟩ := restrict h' fun b => decide (b ≠ e)
  have same : ∀ b, b ≠ e → G.get? b = h'.get? b := fun b hb => g1 b (decide_eq_true hb)
  have gone : G.get? e = none := g2 e (by simp)
  have old : ∀ b o, hp.get? b = some o → G.get? b = some o := fun b o z => (same b (Nat.ne_of_lt (Nat.lt_of_lt_of_le (Heap.lt_size z) made.new))).trans (made.keep b o z)
  have ok : ObjOk X.prog X.w (upd H1 d (.xd [(("value" : Str), v)])) G d (.xd [(("value" : Str), v)]) := ⟨_, made.ns.at fun o z => (same d made.dne).trans z, fun y => relO_ev rv y⟩
  have inv2 : Inv X pins sl (upd H1 d (.xd [(("value" : Str), v)])) ⟨G, gn, dr, tk', os⟩ := inv1.laid (t' := tk') old made.dbig ok
  refine ⟨e, oe, _, ⟨G, gn, dr, tk', os⟩, _, .ref C, some d, rfl, inv2, fun b o z => ?_, gone, hoe, ⟨ec, ed, fun vs hv => ?_⟩, edat, rfl, ?_, rfl, inv1.bare, raises_own Z.exC Z.tyC, q d (inv1.hok.fresh made.dbig)⟩
  · by_cases hb : b = e
    · have z' : G.get? b = some o := z
      rw [hb, gone] at z'
      cases z'
    · exact (same b hb).symm.trans z
  · rw [edat] at hv
    cases hv
    rfl
  · rw [upd_ne (Ne.symm made.dne)]
    exact inv1.hok.fresh made.new
/-- raise C(e) -/
theorem ps_ev {nm : Str} {a : Expr} {ta : TA} {W : WX} {p pos pos2 : Pos} {k : Nat} (calm : X.calm = true) (Z : EvTxt X.K C fI qi) (hm : X.mg nm = some (.ref C)) (room : Room k X.A) (tk : L2N.Takes X W) (ha : PA X [a] ta) (hg : Gl X nm) (dbg : (nm == ("__debug__" : Str)) = false := by decide)
    (hst : starEach (a :: []) X.env = (false, eval a X.env) :: starEach [] X.env := by rfl) (hpl : (backTo pos (starEach [] X.env)).any (·.1) = false := by rfl) :
    PS X (.Raise (some (.Call (.Name nm p) [a] [] pos)) none pos2) (fun _ sl H => tEv C ta sl H fun cls d H' => W cls d sl H') := L2N.ps_raise calm tk (pmk_ev Z hm room ha hg dbg hst hpl)
end


/-! ### places of written sequences -/
section
variable {α : Type} {a0 a1 a2 a3 a4 a5 a6 a7 : α} {l : List α}
theorem at_0 : atI (a0 :: l) 0 = some a0 := by
  unfold atI ixN
  have h : (0 : Int) < (((a0 :: l).length : Nat) : Int) := by simp only [List.length_cons]; omega
  simp [h]
theorem atI_ofNat {xs : List α} {j : Nat} {v : α} (h : xs[j]? = some v) : atI xs (j : Int) = some v := by
  have hl : j < xs.length := (List.getElem?_eq_some_iff.mp h).1
  unfold atI ixN
  have h1 : ((j : Int) < ((xs.length : Nat) : Int)) := by omega
  simp [h1, h]
theorem at_1 : atI (a0 :: a1 :: l) 1 = some a1 := atI_ofNat (j := 1) rfl
theorem at_2 : atI (a0 :: a1 :: a2 :: l) 2 = some a2 := atI_ofNat (j := 2) rfl
theorem at_3 : atI (a0 :: a1 :: a2 :: a3 :: l) 3 = some a3 := atI_ofNat (j := 3) rfl
theorem at_4 : atI (a0 :: a1 :: a2 :: a3 :: a4 :: l) 4 = some a4 := atI_ofNat (j := 4) rfl
theorem at_5 : atI (a0 :: a1 :: a2 :: a3 :: a4 :: a5 :: l) 5 = some a5 := atI_ofNat (j := 5) rfl
theorem at_6 : atI (a0 :: a1 :: a2 :: a3 :: a4 :: a5 :: a6 :: l) 6 = some a6 := atI_ofNat (j := 6) rfl
theorem at_7 : atI (a0 :: a1 :: a2 :: a3 :: a4 :: a5 :: a6 :: a7 :: l) 7 = some a7 := atI_ofNat (j := 7) rfl
end
theorem ix_1_0 : ixN 1 0 = some 0 := by decide
theorem ix_2_0 : ixN 2 0 = some 0 := by decide
theorem ix_2_1 : ixN 2 1 = some 1 := by decide
theorem ix_3_0 : ixN 3 0 = some 0 := by decide
theorem ix_3_1 : ixN 3 1 = some 1 := by decide
theorem ix_3_2 : ixN 3 2 = some 2 := by decide
theorem ix_4_0 : ixN 4 0 = some 0 := by decide
theorem ix_4_1 : ixN 4 1 = some 1 := by decide
theorem ix_4_2 : ixN 4 2 = some 2 := by decide
theorem ix_4_3 : ixN 4 3 = some 3 := by decide
/-! ### the rest of the operators -/
section
variable {X : Cx} {E : XK} {e a b c : Expr} {es : List Expr} {pos : Pos} {ra rb rc : TR} {t : TRA}
theorem op_fdivP : OpR X (binaryOp .FloorDiv) (rI CDivP fun i j => .int (i / j)) := opI fun i j _ _ _ _ _ hc q => by
  have h1 : (0 : Int) < j := hc.1
  refine floordiv_int (by omega) ?_ (.inl hc.2)
  rw [Int.fdiv_eq_ediv_of_nonneg i (by omega)]
  exact q
def rNeg (ra : TR) : TR := fun σ S R RE => ra σ S (fun x S1 => ∃ i, x = .int i ∧ R (.int (-i)) S1) RE
theorem et_neg (ha : ET X E a ra) : ET X E (.UnaryOp .USub a pos) (rNeg ra) :=
  ⟨pe_weak (pe_un un_neg ha.pe) fun sl H Q h => UpE.one (k := fun σ x S1 R RE => ∃ i, x = .int i ∧ R (.int (-i)) S1) h fun Z σ x S1 v H1 R RE fr ok rx kk po xo => by
    obtain ⟨i, rfl, kk⟩ := kk
    cases rx
    exact ⟨i, rfl, po _ S1 _ H1 kk .refl ok (.int _)⟩⟩
/-! in, not in -/
def flatT : T → Bool
  | .non => true
  | .bl _ => true
  | .int _ => true
  | .str _ => true
  | _ => false
def eqT : T → T → Bool
  | .non, .non => true
  | .bl a, .bl b => a == b
  | .bl a, .int b => (if a then 1 else 0) == b
  | .int a, .bl b => a == (if b then 1 else 0)
  | .int a, .int b => a == b
  | .str a, .str b => a == b
  | _, _ => false
def inT (x : T) (l : List T) : Bool := l.any fun y => eqT y x
theorem flat_rep {K : PySem.W.Frag} {Z : Addr → Prop} {S : Store} {H : Hp} {v : V} {x : T} (r : Rep K Z S H v x) : flatT x = true → flatV v = true := by
  cases r <;> intro h <;> first | rfl | (cases h; done)
theorem eq_rep {K : PySem.W.Frag} {Z : Addr → Prop} {S : Store} {H : Hp} {v u : V} {x y : T} (r : Rep K Z S H v x) (q : Rep K Z S H u y) (fx : flatT x = true) (fy : flatT y = true) : eqV v u = eqT x y := by
  cases r <;> cases q <;> first | rfl | (cases fx; done) | (cases fy; done)
theorem in_rep {K : PySem.W.Frag} {Z : Addr → Prop} {S : Store} {H : Hp} {v : V} {x : T} (rx : Rep K Z S H v x) (fx : flatT x = true) : ∀ {vs : List V} {l : List T}, Reps K Z S H vs l → l.all flatT = true → vs.all flatV = true ∧ inV v vs = inT x l
  | _, _, .nil, _ => ⟨rfl, rfl⟩
  | _, _, .cons r rr, f => by
    rw [List.all_cons, Bool.and_eq_true] at f
    obtain ⟨a, b⟩ := in_rep rx fx rr f.2
    refine ⟨by rw [List.all_cons, flat_rep r f.1, a]; rfl, ?_⟩
    unfold inV inT at b ⊢
    rw [List.any_cons, List.any_cons, eq_rep r rx f.1 fx, b]
def kIn (ng : Bool) : KB := fun x y S R _ => ∃ l, seqOf y = some l ∧ flatT x = true ∧ l.all flatT = true ∧ R (.bl (ng ^^ inT x l)) S
theorem cv_inX (ng : Bool) : Conv X.K E (kIn ng) (rIn X.K ng) := by
  intro Z x y S v u H R RE Q ok rx ry ⟨l, hl, fx, fl, k⟩ po xo
  have fv := flat_rep rx fx
  have fin : ∀ {vs : List V}, Reps X.K Z S H vs l → vs.all flatV = true ∧ Q (.bl (if ng then !inV v vs else inV v vs)) H := fun r => by
    obtain ⟨a, b⟩ := in_rep rx fx r fl
    refine ⟨a, ?_⟩
    rw [b]
    refine po _ _ _ _ k .refl ok ?_
    cases ng <;> simp <;> exact .bl _
  cases ry <;> try (cases hl; done)
  · rename_i h r
    cases hl
    exact ⟨_, _, rfl, .inr h.sq, fv, (fin r).1, (fin r).2⟩
  · rename_i h r
    cases hl
    exact ⟨_, _, rfl, .inl h.sq, fv, (fin r).1, (fin r).2⟩
  · rename_i h r
    cases hl
    exact ⟨_, _, rfl, .inl h.sq, fv, (fin r).1, (fin r).2⟩
theorem cv_in : Conv X.K E (kIn false) (rIn X.K false) := cv_inX false
theorem cv_notin : Conv X.K E (kIn true) (rIn X.K true) := cv_inX true
theorem op_inG : OpR X (compareOp .In) (rIn X.K false) := op_in_seq
theorem op_notinG : OpR X (compareOp .NotIn) (rIn X.K true) := op_notIn_seq
/-! raise C(e) -/
def sRaise (C : Addr) (t : TRA) : TRS := fun D σ S => t σ S (fun xs S1 => ∃ x, xs = [x] ∧ D.ex C [("value", x)] S1) D.ex
theorem ss_raise {C fI : Addr} {qi nm : Str} {p pos2 : Pos} {k : Nat} (Zt : EvTxt X.K C fI qi) (calm : X.calm = true) (hm : X.mg nm = some (.ref C)) (room : Room k X.A) (tk : L2N.Takes X (fun cls d _ H => E cls d H)) (ha : AT X E [a] t) (hg : Gl X nm := by rfl) (dbg : (nm == ("__debug__" : Str)) = false := by decide)
    (hst : starEach (a :: []) X.env = (false, eval a X.env) :: starEach [] X.env := by rfl) (hpl : (backTo pos (starEach [] X.env)).any (·.1) = false := by rfl) : SS X E (.Raise (some (.Call (.Name nm p) [a] [] pos)) none pos2) (sRaise C t) :=
  ⟨ps_weak (ps_ev calm Zt hm room tk ha.pa hg dbg hst hpl) fun D sl H h => by
    obtain ⟨Z, σ, S, DT, fr, ok, w, eo, xo⟩ := h.ex
    refine ⟨Z, σ, S, _, DT.ex, fr, ok, w, fun xs S1 vs H1 k le ok1 rs => ?_, xo⟩
    obtain ⟨x, rfl, k⟩ := k
    cases rs with
    | cons r rr =>
      cases rr
      exact ⟨_, rfl, fun d hd => xo C _ S1 (some d) _ _ k (le.trans (le_new hd)) (ok1.new hd) upd_same (.cons (r.le (le_new hd)) .nil)⟩⟩
end
/-! ### how arguments come -/
structure CallD (K : PySem.W.Frag) (fd : FuncData) (ps : List Str) (dts : List T) : Prop where
  ex : ∃ (ds : List Value) (dvs : List V), Binds K fd ps ds ∧ Vals dvs ds ∧ DefT K dvs dts
theorem CallD.all {K : PySem.W.Frag} {fd : FuncData} {ps : List Str} (b : Binds K fd ps []) : CallD K fd ps [] := ⟨[], [], b, .nil, .nil⟩
/-- k keywords behind n values -/
structure CallB (K : PySem.W.Frag) (fd : FuncData) (ps : List Str) (n : Nat) (ks : List Str) (gT : List T → List T → List T) : Prop where
  ex : ∃ (g : List Value → List Value → List Value) (gV : List V → List V → List V), KBn K fd ps n ks g gV ∧ OrdT K gV gT
def selG {α : Type} (w : Nat) (us its ws : List α) : List α := match w with
  | 0 => us
  | 1 => its
  | _ => ws
def pickG {α : Type} : List (Nat × Nat) → List α → List α → List α → List α
  | [], _, _, _ => []
  | (w, i) :: pk, us, its, ws => match (selG w us its ws)[i]? with
    | some x => x :: pickG pk us its ws
    | none => pickG pk us its ws
theorem valsAt {vs : List V} {us : List Value} (r : Vals vs us) (i : Nat) : (vs[i]? = none ∧ us[i]? = none) ∨ ∃ v u, vs[i]? = some v ∧ us[i]? = some u ∧ RelV v u := by
  induction r generalizing i with
  | nil => exact .inl ⟨rfl, rfl⟩
  | cons a r ih =>
    cases i with
    | zero => exact .inr ⟨_, _, rfl, rfl, a⟩
    | succ i => exact ih i
theorem repsAt {K : PySem.W.Frag} {Z : Addr → Prop} {S : Store} {H : Hp} {vs : List V} {us : List T} (r : Reps K Z S H vs us) (i : Nat) : (vs[i]? = none ∧ us[i]? = none) ∨ ∃ v u, vs[i]? = some v ∧ us[i]? = some u ∧ Rep K Z S H v u := by
  induction us generalizing vs i with
  | nil => cases r; exact .inl ⟨rfl, rfl⟩
  | cons u us ih =>
    cases r with
    | cons a r =>
      cases i with
      | zero => exact .inr ⟨_, _, rfl, rfl, a⟩
      | succ i => exact ih r i
theorem pick_vals {vs ds zs : List V} {us its ws : List Value} (r1 : Vals vs us) (r2 : Vals ds its) (r3 : Vals zs ws) : ∀ pk, Vals (pickG pk vs ds zs) (pickG pk us its ws)
  | [] => .nil
  | (w, i) :: pk => by
    have ih := pick_vals r1 r2 r3 pk
    have r : Vals (selG w vs ds zs) (selG w us its ws) := by
      match w with
      | 0 => exact r1
      | 1 => exact r2
      | _ + 2 => exact r3
    unfold pickG
    rcases valsAt r i with ⟨h1, h2⟩ | ⟨v, u, h1, h2, rv⟩
    · rw [h1, h2]; exact ih
    · rw [h1, h2]; exact .cons rv ih
theorem pick_reps {K : PySem.W.Frag} {Z : Addr → Prop} {S : Store} {H : Hp} {vs ds zs : List V} {us its ws : List T} (r1 : Reps K Z S H vs us) (r2 : Reps K Z S H ds its) (r3 : Reps K Z S H zs ws) : ∀ pk, Reps K Z S H (pickG pk vs ds zs) (pickG pk us its ws)
  | [] => .nil
  | (w, i) :: pk => by
    have ih := pick_reps r1 r2 r3 pk
    have r : Reps K Z S H (selG w vs ds zs) (selG w us its ws) := by
      match w with
      | 0 => exact r1
      | 1 => exact r2
      | _ + 2 => exact r3
    unfold pickG
    rcases repsAt r i with ⟨h1, h2⟩ | ⟨v, u, h1, h2, rv⟩
    · rw [h1, h2]; exact ih
    · rw [h1, h2]; exact .cons rv ih
theorem pick_ord {K : PySem.W.Frag} {dvs : List V} {dts : List T} (d : DefT K dvs dts) (pk : List (Nat × Nat)) : OrdT K (fun vs zs => pickG pk vs dvs zs) (fun ts zs => pickG pk ts dts zs) :=
  fun Z S H _ _ _ _ r1 r3 => pick_reps r1 (d Z S H) r3 pk
section
variable {X : Cx} {E : XK} {k n : Nat} {f : Addr} {fd : FuncData} {ps ks : List Str} {sp : SpT} {dts : List T} {x : Str} {p pos : Pos} {e : Expr} {es : List Expr} {kws : List Keyword} {t tk : TRA} {gT : List T → List T → List T}
theorem et_callD (F : FnT X.prog X.w X.K X.mg X.base k f fd ps sp) (gds : X.A.guards = some []) (hr : Room k X.A) (hg : Gl X x) (hm : X.mg x = some (.ref f)) (hk : PySem.W.keepIn X.K (.ref f) = true) (cd : CallD X.K fd ps dts) (hx : Passes (L2N.CX X.prog X.w) X E)
    (ha : AT X E (e :: es) t) (hdb : (x == ("__debug__" : Str)) = false := by decide) (he : starEach (e :: es) X.env = (false, eval e X.env) :: starEach es X.env := by rfl) (hpl : (backTo pos (starEach es X.env)).any (·.1) = false := by rfl) :
    ET X E (.Call (.Name x p) (e :: es) [] pos) (rCall sp dts t) := by
  obtain ⟨ds, dvs, hb, hd, hdt⟩ := cd.ex
  exact et_call F gds hr hg hm hk hb hd hdt hx ha hdb he hpl
theorem et_call0D (F : FnT X.prog X.w X.K X.mg X.base k f fd ps sp) (gds : X.A.guards = some []) (hr : Room k X.A) (hg : Gl X x) (hm : X.mg x = some (.ref f)) (hk : PySem.W.keepIn X.K (.ref f) = true) (cd : CallD X.K fd ps dts) (hx : Passes (L2N.CX X.prog X.w) X E)
    (hdb : (x == ("__debug__" : Str)) = false := by decide) : ET X E (.Call (.Name x p) [] [] pos) (rCall sp dts aNil) := by
  obtain ⟨ds, dvs, hb, hd, hdt⟩ := cd.ex
  exact et_call0 F gds hr hg hm hk hb hd hdt hx hdb
theorem et_callNB (F : FnT X.prog X.w X.K X.mg X.base k f fd ps sp) (gds : X.A.guards = some []) (hr : Room k X.A) (hg : Gl X x) (hm : X.mg x = some (.ref f)) (hk : PySem.W.keepIn X.K (.ref f) = true) (cb : CallB X.K fd ps n ks gT) (hx : Passes (L2N.CX X.prog X.w) X E)
    (ha : AT X E (e :: es) t) (hkw : KT X E kws tk) (hall : (backToKw pos (keywordEach kws X.env)).all (·.1.isSome) = true := by rfl) (hks : (backToKw pos (keywordEach kws X.env)).filterMap (·.1) = ks := by rfl)
    (hdb : (x == ("__debug__" : Str)) = false := by decide) (he : starEach (e :: es) X.env = (false, eval e X.env) :: starEach es X.env := by rfl)
    (hpl : ((backTo pos (starEach (e :: es) X.env)).any (·.1) || (backToKw pos (keywordEach kws X.env)).any (·.1.isNone)) = false := by rfl) :
    ET X E (.Call (.Name x p) (e :: es) kws pos) (rCallN n ks.length sp gT t tk) := by
  obtain ⟨g, gV, hb, ho⟩ := cb.ex
  exact et_callN F gds hr hg hm hk hb ho hx ha hkw hall hks hdb he hpl
theorem et_callKB (F : FnT X.prog X.w X.K X.mg X.base k f fd ps sp) (gds : X.A.guards = some []) (hr : Room k X.A) (hg : Gl X x) (hm : X.mg x = some (.ref f)) (hk : PySem.W.keepIn X.K (.ref f) = true) (cb : CallB X.K fd ps 0 ks gT) (hx : Passes (L2N.CX X.prog X.w) X E)
    (hkw : KT X E kws tk) (hall : (backToKw pos (keywordEach kws X.env)).all (·.1.isSome) = true := by rfl) (hks : (backToKw pos (keywordEach kws X.env)).filterMap (·.1) = ks := by rfl)
    (hdb : (x == ("__debug__" : Str)) = false := by decide)
    (hpl : ((backTo pos (starEach [] X.env)).any (·.1) || (backToKw pos (keywordEach kws X.env)).any (·.1.isNone)) = false := by rfl) :
    ET X E (.Call (.Name x p) [] kws pos) (rCallN 0 ks.length sp gT aNil tk) := by
  obtain ⟨g, gV, hb, ho⟩ := cb.ex
  exact et_callK F gds hr hg hm hk hb ho hx hkw hall hks hdb hpl
end

/-! ### instances -/
def insOf : T → Store → Option (Addr × List (Str × T))
  | .ins C gs, _ => some (C, gs)
  | .cell a, S => match S a with
    | some (.ins C gs) => some (C, gs)
    | _ => none
  | _, _ => none
def putT (f : Str) (t : T) : List (Str × T) → List (Str × T)
  | [] => [(f, t)]
  | (g, x) :: r => if g = f then (g, t) :: r else (g, x) :: putT f t r
section
variable {K : PySem.W.Frag} {Z : Addr → Prop} {S S1 : Store} {H H1 : Hp}
theorem ins_rep {v : V} {x : T} {C : Addr} {gs : List (Str × T)} (ok : Ok K Z S H) (r : Rep K Z S H v x) (h : insOf x S = some (C, gs)) : ∃ a dx fs, v = .ref a ∧ H a = some (.ins C dx fs) ∧ RepF K Z S H fs gs := by
  cases r <;> try (cases h; done)
  · rename_i a
    have c := ok.cl a
    simp only [insOf] at h
    split at h
    · rename_i C' gs' e
      cases h
      rw [e] at c
      obtain ⟨dx, fs, q, rf⟩ := c
      exact ⟨a, dx, fs, rfl, q, rf⟩
    · cases h
  · rename_i p C' dx fs gs' h1 n rf
    cases h
    exact ⟨p, dx, fs, rfl, h1, rf⟩
theorem RepF.put {fs : List (Str × V)} {gs : List (Str × T)} {f : Str} {v : V} {t : T} (r : RepF K Z S H fs gs) (h : Rep K Z S H v t) : RepF K Z S H (putF f v fs) (putT f t gs) := by
  induction gs generalizing fs with
  | nil => cases r; exact .cons h .nil
  | cons g gs ih =>
    cases r with
    | @cons n w u vs ts q r =>
      unfold putF putT
      by_cases e : n = f
      · rw [if_pos e, if_pos e]; exact .cons h r
      · rw [if_neg e, if_neg e]; exact .cons q (ih r)
end
/-- what the class at C says of an attribute of its instances -/
structure InF (K : PySem.W.Frag) (C : Addr) (f : Str) : Prop where
  cl : Cls K C
  na : NoAttr K C f
/-- .. of a constant of its own -/
structure InC (K : PySem.W.Frag) (C : Addr) (f : Str) (t : T) : Prop where
  cl : Cls K C
  ex : ∃ v u, Con K C f v u ∧ ∀ Z S H, Rep K Z S H v t
section
variable {X : Cx} {E : XK} {a e o : Expr} {es : List Expr} {pos apos cpos : Pos} {ra rb : TR} {t tk : TRA} {f m : Str} {C : Addr}
def rFld (K : PySem.W.Frag) (f : Str) (ra : TR) : TR := fun σ S R RE => ra σ S (fun x S1 => ∃ C gs t, insOf x S1 = some (C, gs) ∧ InF K C f ∧ gs.lookup f = some t ∧ R t S1) RE
theorem et_fld (ha : ET X E a ra) (hb : attributeBase a f X.env (eval a X.env) = eval a X.env := by rfl) : ET X E (.Attribute a f pos) (rFld X.K f ra) :=
  ⟨pe_weak (pe_fld ha.pe hb) fun sl H Q h => UpE.one (k := fun σ x S1 R RE => ∃ C gs t, insOf x S1 = some (C, gs) ∧ InF X.K C f ∧ gs.lookup f = some t ∧ R t S1) h fun Z σ x S1 v H1 R RE fr ok rx kk po xo => by
    obtain ⟨C, gs, t, hi, nf, hl, k⟩ := kk
    obtain ⟨b, dx, fs, rfl, hH, rf⟩ := ins_rep ok rx hi
    obtain ⟨u, hu, ru⟩ := rf.look hl
    exact ⟨b, C, dx, fs, u, rfl, hH, nf.cl, nf.na, hu, po _ _ _ _ k .refl ok ru⟩⟩
def rCon (K : PySem.W.Frag) (f : Str) (ra : TR) : TR := fun σ S R RE => ra σ S (fun x S1 => ∃ C gs t, insOf x S1 = some (C, gs) ∧ InC K C f t ∧ gs.lookup f = none ∧ R t S1) RE
theorem et_con (ha : ET X E a ra) (hb : attributeBase a f X.env (eval a X.env) = eval a X.env := by rfl) : ET X E (.Attribute a f pos) (rCon X.K f ra) :=
  ⟨pe_weak (pe_con ha.pe hb) fun sl H Q h => UpE.one (k := fun σ x S1 R RE => ∃ C gs t, insOf x S1 = some (C, gs) ∧ InC X.K C f t ∧ gs.lookup f = none ∧ R t S1) h fun Z σ x S1 v H1 R RE fr ok rx kk po xo => by
    obtain ⟨C, gs, t, hi, ⟨cl, w, u, cn, rp⟩, hl, k⟩ := kk
    obtain ⟨b, dx, fs, rfl, hH, rf⟩ := ins_rep ok rx hi
    exact ⟨b, C, dx, fs, w, u, rfl, hH, cl, cn, rf.lookN hl, po _ _ _ _ k .refl ok (rp _ _ _)⟩⟩
/-- C.f, f a constant of the class -/
theorem et_cval {mc u : Value} {v : V} {x : Str} {p : Pos} {tt : T} (r : ClX.CRead X.K C mc) (k : ClX.CVal X.K C mc f v u) (rep : ∀ Z S H, Rep X.K Z S H v tt) (hg : Gl X x) (hm : X.mg x = some (.ref C)) (hd : (x == ("__debug__" : Str)) = false := by decide)
    (hb : attributeBase (.Name x p) f X.env (eval (.Name x p) X.env) = eval (.Name x p) X.env := by rfl) : ET X E (.Attribute (.Name x p) f pos) (rC tt) :=
  ⟨pe_weak (ClX.pe_cval (pe_glob (v := .ref C) hg hm rfl hd) hb) fun sl H Q ⟨⟨Z, σ, S, R, RE, fr, ok, w, po, xo⟩⟩ => ⟨C, mc, v, u, rfl, r, k, po _ _ _ _ w .refl ok (rep _ _ _)⟩⟩
/-- o.f = e -/
def sFldT (K : PySem.W.Frag) (f : Str) (rv ra : TR) : TRS := fun D σ S => rv σ S (fun y S1 => ra σ S1 (fun x S2 => ∃ a C gs, x = .cell a ∧ S2 a = some (.ins C gs) ∧ InF K C f ∧ gs.length < 1000 ∧ D.nx σ (S2.put a (.ins C (putT f y gs)))) D.ex) D.ex
theorem ss_fld (ha : ET X E o ra) (hv : ET X E e rb) (hs : swapsWith e (some (.Attribute o f apos)) pos.line X.env = pure false := by rfl) : SS X E (.Assign [.Attribute o f apos] e pos) (sFldT X.K f rb ra) :=
  ⟨ps_weak (ps_fld ha.pe hv.pe hs) fun D sl H h => by
    obtain ⟨Z, σ, S, DT, fr, ok, w, eo, xo⟩ := h.ex
    refine ⟨Z, σ, S, _, DT.ex, fr, ok, w, fun y S1 v H1 k1 le1 ok1 ry => ?_, xo⟩
    refine ⟨Z, σ, S1, _, DT.ex, fr.le le1, ok1, k1, fun x S2 u H2 k2 le2 ok2 rx => ?_, xo.le le1⟩
    obtain ⟨b, C, gs, rfl, hs, nf, hl, k⟩ := k2
    cases rx
    have c := ok2.cl b
    rw [hs] at c
    obtain ⟨dx, fs, hH, rf⟩ := c
    have l3 : Le S2 H2 (S2.put b (.ins C (putT f y gs))) (upd H2 b (.ins C dx (putF f v fs))) := le_setc hs
    exact ⟨b, C, dx, fs, rfl, hH, nf.cl, nf.na, by rw [rf.length]; exact hl, eo.nx _ _ _ _ k ((le1.trans le2).trans l3) (ok2.put l3 (ok2.nzc hs) ⟨dx, _, upd_same, (rf.put (ry.le le2)).le l3⟩) (((fr.le le1).le le2).le l3)⟩⟩
end
/-! ### calls -/
section
variable {X : Cx} {E : XK} {k n : Nat} {f C : Addr} {fd : FuncData} {ps ks : List Str} {sp : SpT} {dts : List T} {x m : Str} {p pos apos : Pos} {e o : Expr} {es : List Expr} {kws : List Keyword} {t tk : TRA} {ra : TR} {gT : List T → List T → List T}
theorem goT {pins : List (Addr × Obj)} {sl : L2.St} {H : Hp} {s : Shared} {Q : VK} {us0 us : List Value} {kw : List (Str × Value)} {vs : List V} (F : FnT X.prog X.w X.K X.mg X.base k f fd ps sp) (gds : X.A.guards = some []) (hr : Room k X.A) (hx : Passes (L2N.CX X.prog X.w) X E)
    (inv : Inv X pins sl H s) (b : BindsTo s fd ⟨us0, kw⟩ (ps.zip us)) (r : Vals vs us) (want : UpF X.K sp vs H Q E) : wpAny (model X.prog X.w) X.A (call (.ref f) us0 kw) (EP X pins sl Q) X.xe s := goG F.fn gds hr hx inv b r want
/-- what a new instance is made by: its __init__ -/
theorem make_t {pins : List (Addr × Obj)} {sl : L2.St} {H : Hp} {s : Shared} {Q : VK} {us : List Value} {kw : List (Str × Value)} {all : Addr → List Value} {vsA : Addr → List V} {G : Addr → List T} {Z : Addr → Prop} {S : Store} {R : T → Store → Prop} {RE : XT}
    (M : Mk X.K C f) (F : FnT X.prog X.w X.K X.mg X.base k f fd ps sp) (gds : X.A.guards = some []) (hr : Room (k + 1) X.A) (hx : Passes (L2N.CX X.prog X.w) X E) (inv : Inv X pins sl H s)
    (b : ∀ (s' : Shared) (u : Addr), X.K.In s'.heap → (all u).length = ps.length → BindsTo s' fd ⟨.ref u :: us, kw⟩ (ps.zip (all u))) (r : ∀ u, Vals (vsA u) (all u)) (ok : Ok X.K Z S H)
    (rp : ∀ u S' H', Le S H S' H' → Reps X.K Z S' H' (vsA u) (G u))
    (want : ∀ u, S u = none → sp (G u) (S.put u (.ins C [])) (fun z S2 => z = .non ∧ ∃ gs, S2 u = some (.ins C gs) ∧ R (.ins C gs) (S2.drop u)) RE) (po : PO X.K Z S H R Q) (xo : XOk X.K Z S H RE E) :
    wpAny (model X.prog X.w) X.A (call (.ref C) us kw) (EP X pins sl Q) X.xe s := by
  have nx : H (s.heap.objs.size + 1) = none := inv.hok.fresh (Nat.le_succ _)
  have nd : H s.heap.objs.size = none := inv.hok.fresh (Nat.le_refl _)
  have ne : s.heap.objs.size + 1 ≠ s.heap.objs.size := Nat.succ_ne_self _
  have I2 := Inv.made (C := C) inv
  have ok1 : Ok X.K Z S (upd H s.heap.objs.size (.own (s.heap.objs.size + 1))) := ok.new nd
  have nx1 : upd H s.heap.objs.size (.own (s.heap.objs.size + 1)) (s.heap.objs.size + 1) = none := by rw [upd_ne ne]; exact nx
  have l2 : Le S (upd H s.heap.objs.size (.own (s.heap.objs.size + 1))) (S.put (s.heap.objs.size + 1) (.ins C [])) (upd (upd H s.heap.objs.size (.own (s.heap.objs.size + 1))) (s.heap.objs.size + 1) (.ins C s.heap.objs.size [])) := le_newc nx1
  have ok2 : Ok X.K Z (S.put (s.heap.objs.size + 1) (.ins C [])) (upd (upd H s.heap.objs.size (.own (s.heap.objs.size + 1))) (s.heap.objs.size + 1) (.ins C s.heap.objs.size [])) := ok1.put l2 (ok1.nz nx1) ⟨_, [], upd_same, .nil⟩
  have le : Le S H (S.put (s.heap.objs.size + 1) (.ins C [])) (upd (upd H s.heap.objs.size (.own (s.heap.objs.size + 1))) (s.heap.objs.size + 1) (.ins C s.heap.objs.size [])) := (le_new nd).trans l2
  have up : UpF X.K sp (vsA (s.heap.objs.size + 1)) (upd (upd H s.heap.objs.size (.own (s.heap.objs.size + 1))) (s.heap.objs.size + 1) (.ins C s.heap.objs.size [])) (fun v H2 => v = .non ∧ Q (.ref (s.heap.objs.size + 1)) H2) E := by
    refine ⟨Z, G _, _, _, RE, rp _ _ _ le, ok2, want _ (ok.free nx), fun z S3 v H3 w l3 ok3 rep => ?_, xo.le le⟩
    obtain ⟨rfl, gs, hs, w⟩ := w
    cases rep
    exact ⟨rfl, po _ _ _ _ w ((le.trans l3).trans le_drop) ok3.drop (.frzI ok3 hs)⟩
  refine wpAny_call (make_map (f := f) inv.kIn M.makes M.init (beq_iff_eq.mp M.fn) (codeAny_mono (F.fn.go _ X.stack _ _ ⟨Value.ref (s.heap.objs.size + 1) :: us, kw⟩ _ _ _ E (by first | exact gds | simpa [Around.under] using gds) (hr.make C us kw) (I2.env0.make C us kw) (b _ _ I2.kIn ((r _).length.symm.trans (F.fn.len _ _ _ _ up))) (r _) up) fun q s' hq => ?_))
  cases q with
  | error er => exact hx pins sl _ _ er s' I2 hq
  | ok fl =>
    cases fl with
    | ret u =>
      obtain ⟨v, H', I3, rv, rfl, q3⟩ := I2.after hq
      exact ⟨rv, V.ref (s.heap.objs.size + 1), H', I3, rfl, q3⟩
    | next => exact hq.elim
    | brk => exact hq.elim
    | cont => exact hq.elim
def rMake (C : Addr) (sp : SpT) (dts : List T) (t : TRA) : TR := fun σ S R RE => t σ S (fun xs S1 => ∀ u, S1 u = none → sp (.cell u :: (xs ++ dts)) (S1.put u (.ins C [])) (fun z S2 => z = .non ∧ ∃ gs, S2 u = some (.ins C gs) ∧ R (.ins C gs) (S2.drop u)) RE) RE
theorem cell_reps {K : PySem.W.Frag} {Z : Addr → Prop} {S : Store} {H : Hp} {u : Addr} {vs : List V} {ts : List T} (r : Reps K Z S H vs ts) : Reps K Z S H (.ref u :: vs) (.cell u :: ts) := .cons (.cell u) r
theorem et_make (M : Mk X.K C f) (F : FnT X.prog X.w X.K X.mg X.base k f fd ps sp) (gds : X.A.guards = some []) (hr : Room (k + 1) X.A) (hg : Gl X x) (hm : X.mg x = some (.ref C)) (cd : CallD X.K fd ps dts) (hx : Passes (L2N.CX X.prog X.w) X E)
    (ha : AT X E (e :: es) t) (hdb : (x == ("__debug__" : Str)) = false := by decide) (he : starEach (e :: es) X.env = (false, eval e X.env) :: starEach es X.env := by rfl) (hpl : (backTo pos (starEach es X.env)).any (·.1) = false := by rfl) :
    ET X E (.Call (.Name x p) (e :: es) [] pos) (rMake C sp dts t) := by
  refine ⟨⟨fun pins s sl H Q I h => ?_⟩⟩
  obtain ⟨Z, σ, S, R, RE, fr, ok, w, po, xo⟩ := h.ex
  obtain ⟨ds, dvs, hb, hd, hdt⟩ := cd.ex
  refine wpAny_Call_Name_kw (ld_glob I hg hm ?_ hdb)
  refine PySem.W.callWith_K (h₀ := X.base) I.ok.mod.kin M.kp (thn (ha.pa.run pos pins s sl H (fun vs H1 => ∃ xs S1, (∀ u, S1 u = none → sp (.cell u :: (xs ++ dts)) (S1.put u (.ins C [])) (fun z S2 => z = .non ∧ ∃ gs, S2 u = some (.ins C gs) ∧ R (.ins C gs) (S2.drop u)) RE) ∧ Le S H S1 H1 ∧ Ok X.K Z S1 H1 ∧ Reps X.K Z S1 H1 vs xs) I
    ⟨Z, σ, S, _, RE, fr, ok, w, fun xs S1 vs H1 k1 l1 o1 r1 => ⟨xs, S1, k1, l1, o1, r1⟩, xo⟩) fun us s1 hu => ?_) he hpl
  obtain ⟨vs, H1, I1, rv, xs, S1, k1, l1, o1, r1⟩ := hu
  refine ⟨I1.kIn, ?_⟩
  exact make_t (us := us) (kw := []) (all := fun u => (Value.ref u :: us) ++ ds) (vsA := fun u => .ref u :: (vs ++ dvs)) (G := fun u => .cell u :: (xs ++ dts)) M F gds hr hx I1 (fun s' u hK hl => hb s' (.ref u :: us) hK hl) (fun u => .cons rfl (rv.append hd)) o1
    (fun u S' H' l => cell_reps ((r1.le l).append (hdt _ _ _))) k1 (po.le l1) (xo.le l1)
theorem et_make0 (M : Mk X.K C f) (F : FnT X.prog X.w X.K X.mg X.base k f fd ps sp) (gds : X.A.guards = some []) (hr : Room (k + 1) X.A) (hg : Gl X x) (hm : X.mg x = some (.ref C)) (cd : CallD X.K fd ps dts) (hx : Passes (L2N.CX X.prog X.w) X E)
    (hdb : (x == ("__debug__" : Str)) = false := by decide) : ET X E (.Call (.Name x p) [] [] pos) (rMake C sp dts aNil) := by
  refine ⟨⟨fun pins s sl H Q I h => ?_⟩⟩
  obtain ⟨Z, σ, S, R, RE, fr, ok, w, po, xo⟩ := h.ex
  obtain ⟨ds, dvs, hb, hd, hdt⟩ := cd.ex
  refine wpAny_Call_Name_kw (ld_glob I hg hm ?_ hdb)
  refine PySem.W.callWith_K0 I.kIn M.kp ?_
  exact make_t (us := []) (kw := []) (all := fun u => [Value.ref u] ++ ds) (vsA := fun u => .ref u :: ([] ++ dvs)) (G := fun u => .cell u :: ([] ++ dts)) M F gds hr hx I (fun s' u hK hl => hb s' [.ref u] hK hl) (fun u => .cons rfl hd) ok
    (fun u S' H' l => cell_reps (hdt _ _ _)) w po xo
/-- with keywords; gT puts the new one and the values in order -/
def rMakeN (C : Addr) (n m : Nat) (sp : SpT) (gT : List T → List T → List T) (t tk : TRA) : TR := fun σ S R RE => t σ S (fun xs S1 => tk σ S1 (fun zs S2 => xs.length = n ∧ zs.length = m ∧
  ∀ u, S2 u = none → sp (gT (.cell u :: xs) zs) (S2.put u (.ins C [])) (fun z S3 => z = .non ∧ ∃ gs, S3 u = some (.ins C gs) ∧ R (.ins C gs) (S3.drop u)) RE) RE) RE
theorem et_makeN (M : Mk X.K C f) (F : FnT X.prog X.w X.K X.mg X.base k f fd ps sp) (gds : X.A.guards = some []) (hr : Room (k + 1) X.A) (hg : Gl X x) (hm : X.mg x = some (.ref C)) (cb : CallB X.K fd ps (n + 1) ks gT) (hx : Passes (L2N.CX X.prog X.w) X E)
    (ha : AT X E (e :: es) t) (hkw : KT X E kws tk) (hall : (backToKw pos (keywordEach kws X.env)).all (·.1.isSome) = true := by rfl) (hks : (backToKw pos (keywordEach kws X.env)).filterMap (·.1) = ks := by rfl)
    (hdb : (x == ("__debug__" : Str)) = false := by decide) (he : starEach (e :: es) X.env = (false, eval e X.env) :: starEach es X.env := by rfl)
    (hpl : ((backTo pos (starEach (e :: es) X.env)).any (·.1) || (backToKw pos (keywordEach kws X.env)).any (·.1.isNone)) = false := by rfl) :
    ET X E (.Call (.Name x p) (e :: es) kws pos) (rMakeN C n ks.length sp gT t tk) := by
  refine ⟨⟨fun pins s sl H Q I h => ?_⟩⟩
  obtain ⟨Z, σ, S, R, RE, fr, ok, w, po, xo⟩ := h.ex
  obtain ⟨g, gV, hb, ho⟩ := cb.ex
  refine wpAny_Call_Name_kw (ld_glob I hg hm ?_ hdb)
  refine PySem.W.callWith_KW (h₀ := X.base) I.ok.mod.kin M.kp hall (thn (ha.pa.run pos pins s sl H (fun vs H1 => ∃ xs S1, tk σ S1 _ RE ∧ Le S H S1 H1 ∧ Ok X.K Z S1 H1 ∧ Reps X.K Z S1 H1 vs xs) I
    ⟨Z, σ, S, _, RE, fr, ok, w, fun xs S1 vs H1 k1 l1 o1 r1 => ⟨xs, S1, k1, l1, o1, r1⟩, xo⟩) fun us s1 hu => ?_) hpl he
  obtain ⟨vs, H1, I1, rv, xs, S1, k1, l1, o1, r1⟩ := hu
  refine thn (hkw.pk.run pos pins s1 sl H1 (fun zvs H2 => ∃ zs S2, (xs.length = n ∧ zs.length = ks.length ∧
    ∀ u, S2 u = none → sp (gT (.cell u :: xs) zs) (S2.put u (.ins C [])) (fun z S3 => z = .non ∧ ∃ gs, S3 u = some (.ins C gs) ∧ R (.ins C gs) (S3.drop u)) RE) ∧ Le S1 H1 S2 H2 ∧ Ok X.K Z S2 H2 ∧ Reps X.K Z S2 H2 zvs zs) I1
    ⟨Z, σ, S1, _, RE, fr.le l1, o1, k1, fun zs S2 zvs H2 k2 l2 o2 r2 => ⟨zs, S2, k2, l2, o2, r2⟩, xo.le l1⟩) fun ws s2 hu => ?_
  obtain ⟨zvs, H2, I2, rz, zs, S2, ⟨e1, e2, k2⟩, l2, o2, r2⟩ := hu
  refine ⟨I2.kIn, ?_⟩
  rw [hks]
  have lu : us.length = n := (rv.length.symm.trans r1.length).trans e1
  have lw : ws.length = ks.length := (rz.length.symm.trans r2.length).trans e2
  exact make_t (us := us) (kw := ks.zip ws) (all := fun u => g (Value.ref u :: us) ws) (vsA := fun u => gV (.ref u :: vs) zvs) (G := fun u => gT (.cell u :: xs) zs) M F gds hr hx I2 (fun s' u hK hl => hb.to s' (.ref u :: us) ws hK (by simp [lu]) lw) (fun u => hb.rel (.cons rfl rv) rz) o2
    (fun u S' H' l => ho _ _ _ _ _ _ _ (cell_reps ((r1.le l2).le l)) (r2.le l)) k2 (po.le (l1.trans l2)) (xo.le (l1.trans l2))
theorem et_makeK0 (M : Mk X.K C f) (F : FnT X.prog X.w X.K X.mg X.base k f fd ps sp) (gds : X.A.guards = some []) (hr : Room (k + 1) X.A) (hg : Gl X x) (hm : X.mg x = some (.ref C)) (cb : CallB X.K fd ps 1 ks gT) (hx : Passes (L2N.CX X.prog X.w) X E)
    (hkw : KT X E kws tk) (hall : (backToKw pos (keywordEach kws X.env)).all (·.1.isSome) = true := by rfl) (hks : (backToKw pos (keywordEach kws X.env)).filterMap (·.1) = ks := by rfl)
    (hdb : (x == ("__debug__" : Str)) = false := by decide)
    (hpl : ((backTo pos (starEach [] X.env)).any (·.1) || (backToKw pos (keywordEach kws X.env)).any (·.1.isNone)) = false := by rfl) :
    ET X E (.Call (.Name x p) [] kws pos) (rMakeN C 0 ks.length sp gT aNil tk) := by
  refine ⟨⟨fun pins s sl H Q I h => ?_⟩⟩
  obtain ⟨Z, σ, S, R, RE, fr, ok, w, po, xo⟩ := h.ex
  obtain ⟨g, gV, hb, ho⟩ := cb.ex
  refine wpAny_Call_Name_kw (ld_glob I hg hm ?_ hdb)
  refine PySem.W.callWith_KW0 (h₀ := X.base) I.ok.mod.kin M.kp hall ?_ hpl
  refine thn (hkw.pk.run pos pins s sl H (fun zvs H2 => ∃ zs S2, (([] : List T).length = 0 ∧ zs.length = ks.length ∧
    ∀ u, S2 u = none → sp (gT [.cell u] zs) (S2.put u (.ins C [])) (fun z S3 => z = .non ∧ ∃ gs, S3 u = some (.ins C gs) ∧ R (.ins C gs) (S3.drop u)) RE) ∧ Le S H S2 H2 ∧ Ok X.K Z S2 H2 ∧ Reps X.K Z S2 H2 zvs zs) I
    ⟨Z, σ, S, _, RE, fr, ok, w, fun zs S2 zvs H2 k2 l2 o2 r2 => ⟨zs, S2, k2, l2, o2, r2⟩, xo⟩) fun ws s2 hu => ?_
  obtain ⟨zvs, H2, I2, rz, zs, S2, ⟨e1, e2, k2⟩, l2, o2, r2⟩ := hu
  refine ⟨I2.kIn, ?_⟩
  rw [hks]
  have lw : ws.length = ks.length := (rz.length.symm.trans r2.length).trans e2
  exact make_t (us := []) (kw := ks.zip ws) (all := fun u => g [Value.ref u] ws) (vsA := fun u => gV [.ref u] zvs) (G := fun u => gT [.cell u] zs) M F gds hr hx I2 (fun s' u hK hl => hb.to s' [.ref u] ws hK rfl lw) (fun u => hb.rel (.cons rfl .nil) rz) o2
    (fun u S' H' l => ho _ _ _ _ _ _ _ (cell_reps .nil) (r2.le l)) k2 (po.le l2) (xo.le l2)
/-! methods; D tells which promise the method has at which class -/
structure MetD (X : Cx) (m : Str) (dts : List T) (D : Addr → SpT → Prop) : Prop where
  at_ : ∀ C sp, D C sp → ∃ k f fd ps, Cls X.K C ∧ Meth X.K C m f ∧ FnT X.prog X.w X.K X.mg X.base k f fd ps sp ∧ Room k X.A ∧ CallD X.K fd ps dts
/-- just one class -/
def one (C : Addr) (sp : SpT) : Addr → SpT → Prop := fun C' sp' => C' = C ∧ sp' = sp
theorem MetD.one (c : Cls X.K C) (hm : Meth X.K C m f) (F : FnT X.prog X.w X.K X.mg X.base k f fd ps sp) (hr : Room k X.A) (cd : CallD X.K fd ps dts) : MetD X m dts (one C sp) := ⟨fun C' sp' ⟨e1, e2⟩ => by
  subst e1 e2
  exact ⟨k, f, fd, ps, c, hm, F, hr, cd⟩⟩
def rMeth (D : Addr → SpT → Prop) (m : Str) (dts : List T) (ra : TR) (t : TRA) : TR := fun σ S R RE => ra σ S (fun x S1 => ∃ C gs sp, insOf x S1 = some (C, gs) ∧ D C sp ∧ gs.lookup m = none ∧ t σ S1 (fun xs S2 => sp (x :: (xs ++ dts)) S2 R RE) RE) RE
variable {D : Addr → SpT → Prop}
theorem et_meth {pl : Sem Bool} (M : MetD X m dts D) (gds : X.A.guards = some []) (hx : Passes (L2N.CX X.prog X.w) X E) (ho : ET X E o ra) (ha : AT X E (e :: es) t)
    (hst : starEach (e :: es) X.env = (false, eval e X.env) :: starEach es X.env := by rfl) (hpl : (backTo pos (starEach es X.env)).any (·.1) = false := by rfl)
    (ht : eval (.Call (.Attribute o m apos) (e :: es) [] pos) X.env = ((eval o X.env) >>= fun ov => standAt apos.atName >>= fun _ => holding [ov] (getMethod ov m pl) >>= fun g => callWith pos g.1 g.2 (backTo pos (starEach (e :: es) X.env)) (backToKw pos (keywordEach [] X.env))) := by rfl) :
    ET X E (.Call (.Attribute o m apos) (e :: es) [] pos) (rMeth D m dts ra t) := by
  refine ⟨⟨fun pins s sl H Q I h => ?_⟩⟩
  obtain ⟨Z, σ, S, R, RE, fr, ok, w, po, xo⟩ := h.ex
  refine PySem.W.methodCall_KW (pl := pl) (thn (ho.pe.run pins s sl H (fun v H1 => ∃ x S1, _ ∧ Le S H S1 H1 ∧ Ok X.K Z S1 H1 ∧ Rep X.K Z S1 H1 v x) I ⟨Z, σ, S, _, RE, fr, ok, w, fun x S1 v H1 k1 l1 o1 r1 => ⟨x, S1, k1, l1, o1, r1⟩, xo⟩) fun u s1 hu => ?_) ht
  obtain ⟨v, H1, I1, rv, x, S1, ⟨C, gs, sp, hi, hD, hn, k1⟩, l1, o1, r1⟩ := hu
  obtain ⟨a, dx, fs, rfl, hH, rf⟩ := ins_rep o1 r1 hi
  obtain rfl : u = Value.ref a := rv
  obtain ⟨kk, g, fd, ps, c, hm, F, hr, cd⟩ := M.at_ C sp hD
  obtain ⟨ds, dvs, hb, hd, hdt⟩ := cd.ex
  refine getmeth_ok I1 hH c hm (rf.lookN hn) ?_
  refine PySem.W.callWith_K (first := [.ref a]) (h₀ := X.base) I.ok.mod.kin hm.kp (thn (ha.pa.run pos pins s1 sl H1 (fun vs H2 => ∃ xs S2, _ ∧ Le S1 H1 S2 H2 ∧ Ok X.K Z S2 H2 ∧ Reps X.K Z S2 H2 vs xs) I1 ⟨Z, σ, S1, _, RE, fr.le l1, o1, k1, fun xs S2 vs H2 k2 l2 o2 r2 => ⟨xs, S2, k2, l2, o2, r2⟩, xo.le l1⟩) fun us s2 hu => ?_) hst hpl
  obtain ⟨vs, H2, I2, rvs, xs, S2, k2, l2, o2, r2⟩ := hu
  refine ⟨I2.kIn, ?_⟩
  have up : UpF X.K sp (.ref a :: (vs ++ dvs)) H2 Q E := ⟨Z, _, S2, R, RE, .cons (r1.le l2) (r2.append (hdt _ _ _)), o2, k2, (po.le l1).le l2, (xo.le l1).le l2⟩
  have vv : Vals (V.ref a :: (vs ++ dvs)) ((Value.ref a :: us) ++ ds) := .cons rfl (rvs.append hd)
  exact goT F gds hr hx I2 (hb s2 (.ref a :: us) I2.kIn (vv.length.symm.trans (F.fn.len _ _ _ _ up))) vv up
theorem et_meth0 {pl : Sem Bool} (M : MetD X m dts D) (gds : X.A.guards = some []) (hx : Passes (L2N.CX X.prog X.w) X E) (ho : ET X E o ra)
    (ht : eval (.Call (.Attribute o m apos) [] [] pos) X.env = ((eval o X.env) >>= fun ov => standAt apos.atName >>= fun _ => holding [ov] (getMethod ov m pl) >>= fun g => callWith pos g.1 g.2 (backTo pos (starEach [] X.env)) (backToKw pos (keywordEach [] X.env))) := by rfl) :
    ET X E (.Call (.Attribute o m apos) [] [] pos) (rMeth D m dts ra aNil) := by
  refine ⟨⟨fun pins s sl H Q I h => ?_⟩⟩
  obtain ⟨Z, σ, S, R, RE, fr, ok, w, po, xo⟩ := h.ex
  refine PySem.W.methodCall_KW (pl := pl) (thn (ho.pe.run pins s sl H (fun v H1 => ∃ x S1, _ ∧ Le S H S1 H1 ∧ Ok X.K Z S1 H1 ∧ Rep X.K Z S1 H1 v x) I ⟨Z, σ, S, _, RE, fr, ok, w, fun x S1 v H1 k1 l1 o1 r1 => ⟨x, S1, k1, l1, o1, r1⟩, xo⟩) fun u s1 hu => ?_) ht
  obtain ⟨v, H1, I1, rv, x, S1, ⟨C, gs, sp, hi, hD, hn, k1⟩, l1, o1, r1⟩ := hu
  obtain ⟨a, dx, fs, rfl, hH, rf⟩ := ins_rep o1 r1 hi
  obtain rfl : u = Value.ref a := rv
  obtain ⟨kk, g, fd, ps, c, hm, F, hr, cd⟩ := M.at_ C sp hD
  obtain ⟨ds, dvs, hb, hd, hdt⟩ := cd.ex
  refine getmeth_ok I1 hH c hm (rf.lookN hn) ?_
  refine PySem.W.callWith_K0 (first := [.ref a]) I1.kIn hm.kp ?_
  have up : UpF X.K sp (.ref a :: dvs) H1 Q E := ⟨Z, _, S1, R, RE, .cons r1 (hdt _ _ _), o1, k1, po.le l1, xo.le l1⟩
  have vv : Vals (V.ref a :: dvs) ([Value.ref a] ++ ds) := .cons rfl hd
  exact goT F gds hr hx I1 (hb s1 [.ref a] I1.kIn (vv.length.symm.trans (F.fn.len _ _ _ _ up))) vv up
/-- .. with keywords alone -/
structure MetB (X : Cx) (m : Str) (ks : List Str) (gT : List T → List T → List T) (D : Addr → SpT → Prop) : Prop where
  at_ : ∀ C sp, D C sp → ∃ k f fd ps, Cls X.K C ∧ Meth X.K C m f ∧ FnT X.prog X.w X.K X.mg X.base k f fd ps sp ∧ Room k X.A ∧ CallB X.K fd ps 1 ks gT
def rMethK (D : Addr → SpT → Prop) (m : Str) (n : Nat) (gT : List T → List T → List T) (ra : TR) (tk : TRA) : TR := fun σ S R RE => ra σ S (fun x S1 => ∃ C gs sp, insOf x S1 = some (C, gs) ∧ D C sp ∧ gs.lookup m = none ∧ tk σ S1 (fun zs S2 => zs.length = n ∧ sp (gT [x] zs) S2 R RE) RE) RE
theorem et_methK {pl : Sem Bool} (M : MetB X m ks gT D) (gds : X.A.guards = some []) (hx : Passes (L2N.CX X.prog X.w) X E) (ho : ET X E o ra) (hkw : KT X E kws tk)
    (hall : (backToKw pos (keywordEach kws X.env)).all (·.1.isSome) = true := by rfl) (hks : (backToKw pos (keywordEach kws X.env)).filterMap (·.1) = ks := by rfl)
    (hpl : ((backTo pos (starEach [] X.env)).any (·.1) || (backToKw pos (keywordEach kws X.env)).any (·.1.isNone)) = false := by rfl)
    (ht : eval (.Call (.Attribute o m apos) [] kws pos) X.env = ((eval o X.env) >>= fun ov => standAt apos.atName >>= fun _ => holding [ov] (getMethod ov m pl) >>= fun g => callWith pos g.1 g.2 (backTo pos (starEach [] X.env)) (backToKw pos (keywordEach kws X.env))) := by rfl) :
    ET X E (.Call (.Attribute o m apos) [] kws pos) (rMethK D m ks.length gT ra tk) := by
  refine ⟨⟨fun pins s sl H Q I h => ?_⟩⟩
  obtain ⟨Z, σ, S, R, RE, fr, ok, w, po, xo⟩ := h.ex
  refine PySem.W.methodCall_KW (pl := pl) (thn (ho.pe.run pins s sl H (fun v H1 => ∃ x S1, _ ∧ Le S H S1 H1 ∧ Ok X.K Z S1 H1 ∧ Rep X.K Z S1 H1 v x) I ⟨Z, σ, S, _, RE, fr, ok, w, fun x S1 v H1 k1 l1 o1 r1 => ⟨x, S1, k1, l1, o1, r1⟩, xo⟩) fun u s1 hu => ?_) ht
  obtain ⟨v, H1, I1, rv, x, S1, ⟨C, gs, sp, hi, hD, hn, k1⟩, l1, o1, r1⟩ := hu
  obtain ⟨a, dx, fs, rfl, hH, rf⟩ := ins_rep o1 r1 hi
  obtain rfl : u = Value.ref a := rv
  obtain ⟨kk, g, fd, ps, c, hm, F, hr, cb⟩ := M.at_ C sp hD
  obtain ⟨g2, gV, hb, hor⟩ := cb.ex
  refine getmeth_ok I1 hH c hm (rf.lookN hn) ?_
  refine PySem.W.callWith_KW0 (first := [.ref a]) (h₀ := X.base) I.ok.mod.kin hm.kp hall ?_ hpl
  refine thn (hkw.pk.run pos pins s1 sl H1 (fun zvs H2 => ∃ zs S2, (zs.length = ks.length ∧ sp (gT [x] zs) S2 R RE) ∧ Le S1 H1 S2 H2 ∧ Ok X.K Z S2 H2 ∧ Reps X.K Z S2 H2 zvs zs) I1 ⟨Z, σ, S1, _, RE, fr.le l1, o1, k1, fun zs S2 zvs H2 k2 l2 o2 r2 => ⟨zs, S2, k2, l2, o2, r2⟩, xo.le l1⟩) fun ws s2 hu => ?_
  obtain ⟨zvs, H2, I2, rz, zs, S2, ⟨e2, k2⟩, l2, o2, r2⟩ := hu
  refine ⟨I2.kIn, ?_⟩
  rw [hks]
  have lw : ws.length = ks.length := (rz.length.symm.trans r2.length).trans e2
  have up : UpF X.K sp (gV [.ref a] zvs) H2 Q E := ⟨Z, _, S2, R, RE, hor _ _ _ _ _ _ _ (.cons (r1.le l2) .nil) r2, o2, k2, (po.le l1).le l2, (xo.le l1).le l2⟩
  exact goT F gds hr hx I2 (hb.to s2 [.ref a] ws I2.kIn rfl lw) (hb.rel (vs := [V.ref a]) (.cons rfl .nil) rz) up
end

section
variable {X : Cx} {E : XK} {k n : Nat} {f g C q : Addr} {fd : FuncData} {ps ks : List Str} {sp : SpT} {dts : List T} {x m : Str} {p pos apos : Pos} {e o a b : Expr} {es : List Expr} {kws : List Keyword} {t tk : TRA} {ra rb : TR}
/-! ### properties -/
structure PrpD (X : Cx) (m : Str) (D : Addr → SpT → Prop) : Prop where
  at_ : ∀ C sp, D C sp → ∃ k p g fd ps, Cls X.K C ∧ PropOf X.K C m p g ∧ FnT X.prog X.w X.K X.mg X.base k g fd ps sp ∧ Room (k + 1) X.A ∧ Binds X.K fd ps []
theorem PrpD.one (c : Cls X.K C) (hp : PropOf X.K C m q g) (F : FnT X.prog X.w X.K X.mg X.base k g fd ps sp) (hr : Room (k + 1) X.A) (hb : Binds X.K fd ps []) : PrpD X m (one C sp) := ⟨fun C' sp' ⟨e1, e2⟩ => by
  subst e1 e2
  exact ⟨k, q, g, fd, ps, c, hp, F, hr, hb⟩⟩
def rProp (D : Addr → SpT → Prop) (ra : TR) : TR := fun σ S R RE => ra σ S (fun x S1 => ∃ C gs sp, insOf x S1 = some (C, gs) ∧ D C sp ∧ sp [x] S1 R XF) RE
variable {D : Addr → SpT → Prop}
theorem et_prop (M : PrpD X m D) (gds : X.A.guards = some []) (ha : ET X E a ra) (hab : attributeBase a m X.env (eval a X.env) = eval a X.env := by rfl) : ET X E (.Attribute a m pos) (rProp D ra) := by
  refine ⟨⟨fun pins s sl H Q I h => ?_⟩⟩
  obtain ⟨Z, σ, S, R, RE, fr, ok, w, po, xo⟩ := h.ex
  refine attr_of hab (thn (ha.pe.run pins s sl H (fun v H1 => ∃ x S1, _ ∧ Le S H S1 H1 ∧ Ok X.K Z S1 H1 ∧ Rep X.K Z S1 H1 v x) I ⟨Z, σ, S, _, RE, fr, ok, w, fun x S1 v H1 k1 l1 o1 r1 => ⟨x, S1, k1, l1, o1, r1⟩, xo⟩) fun u s1 hu => ?_)
  obtain ⟨v, H1, I1, rv, x, S1, ⟨C, gs, sp, hi, hD, k1⟩, l1, o1, r1⟩ := hu
  obtain ⟨i, dx, fs, rfl, hH, rf⟩ := ins_rep o1 r1 hi
  obtain rfl : u = Value.ref i := rv
  obtain ⟨kk, pp, gg, fd, ps, c, hp, F, hr, hb⟩ := M.at_ C sp hD
  obtain ⟨mA, O, _⟩ := ins_get I1.hok hH
  obtain ⟨od, J, _⟩ := O.look
  obtain ⟨rest, hrec⟩ := hp.rec_
  have I2 := I1.tok (s1.toks + 1)
  have hc : (PySem.W.clsIn X.K C).isSome = true := by
    obtain ⟨cd, e1, _⟩ := PySem.W.any_some c.hd
    rw [e1]
    rfl
  have up : UpF X.K sp [.ref i] H1 Q EF := ⟨Z, _, S1, R, XF, .cons r1 .nil, o1, k1, po.le l1, fun _ _ _ _ _ _ z => z.elim⟩
  refine PySem.W.get_bind I1.kIn J (PySem.W.plainGet_of (c.get m)).1 (PySem.W.findObj_data hc hp.at_ hp.get hp.tak) (PySem.W.plainGet_of (c.get m)).2 (wpAny_call (PySem.W.prop_get (s := { s1 with toks := s1.toks + 1 }) I1.kIn hrec ?_))
  refine codeAny_mono (F.fn.go X.A.in1 X.stack { s1 with toks := s1.toks + 1 } H1 ⟨[.ref i], []⟩ ([Value.ref i] ++ []) [V.ref i] Q EF (by first | exact gds | simpa [Around.in1] using gds) hr.in1 I2.env0.in1 (hb _ [.ref i] I2.kIn (F.fn.len _ _ _ _ up)) (show Vals [V.ref i] [Value.ref i] from .cons rfl .nil) up) fun z s' hq => ?_
  cases z with
  | error er => exact (passN (X := X.nox) pins sl H1 { s1 with toks := s1.toks + 1 } er s' (I2.wish _) hq).elim
  | ok fl =>
    cases fl with
    | ret u =>
      obtain ⟨v, H', I3, rv, q3⟩ := I2.after hq
      show wpAny _ _ (handedOut u) _ _ _
      rw [PySem.W.handedOut_of (handed_of rv)]
      exact wpAny_pure ⟨v, H', I3, rv, q3⟩
    | next => exact hq.elim
    | brk => exact hq.elim
    | cont => exact hq.elim
/-! ### C.f(..), f a plain def of the class; C.m(..), m a classmethod -/
def rClsFn (sp : SpT) (dts : List T) (t : TRA) : TR := fun σ S R RE => t σ S (fun xs S1 => sp (xs ++ dts) S1 R RE) RE
theorem et_clsfn {mc : Value} {pl : Sem Bool} (r : ClX.CRead X.K C mc) (hv : PySem.W.findCls X.K (.ref C) mc m = some (.val (.ref f))) (hk : PySem.W.keepIn X.K (.ref f) = true) (F : FnT X.prog X.w X.K X.mg X.base k f fd ps sp) (cd : CallD X.K fd ps dts) (hr : Room k X.A) (gds : X.A.guards = some []) (hx : Passes (L2N.CX X.prog X.w) X E)
    (hg : Gl X x) (hm : X.mg x = some (.ref C)) (ha : AT X E (e :: es) t) (hd : (x == ("__debug__" : Str)) = false := by decide)
    (hst : starEach (e :: es) X.env = (false, eval e X.env) :: starEach es X.env := by rfl) (hpl : (backTo pos (starEach es X.env)).any (·.1) = false := by rfl)
    (ht : eval (.Call (.Attribute (.Name x p) m apos) (e :: es) [] pos) X.env = ((eval (.Name x p) X.env) >>= fun ov => standAt apos.atName >>= fun _ => holding [ov] (getMethod ov m pl) >>= fun g => callWith pos g.1 g.2 (backTo pos (starEach (e :: es) X.env)) (backToKw pos (keywordEach [] X.env))) := by rfl) :
    ET X E (.Call (.Attribute (.Name x p) m apos) (e :: es) [] pos) (rClsFn sp dts t) := by
  refine ⟨⟨fun pins s sl H Q I h => ?_⟩⟩
  obtain ⟨Z, σ, S, R, RE, fr, ok, w, po, xo⟩ := h.ex
  obtain ⟨ds, dvs, hb, hd2, hdt⟩ := cd.ex
  refine PySem.W.methodCall_KW (pl := pl) (thn ((pe_glob (pos := p) (v := .ref C) hg hm rfl hd).run pins s sl H (fun v H1 => v = .ref C ∧ H1 = H) I ⟨rfl, rfl⟩) fun u s1 hu => ?_) ht
  obtain ⟨v, H1, I1, rv, rfl, rfl⟩ := hu
  obtain rfl : u = Value.ref C := rv
  refine PySem.W.method_cls I1.kIn r.ga (PySem.W.cls_value I1.kIn r.rd hv (handed_of (v := .ref f) rfl) ?_)
  have I2 := I1.tok (s1.toks + 1)
  refine PySem.W.callWith_K (first := []) (h₀ := X.base) I.ok.mod.kin hk (thn (ha.pa.run pos pins _ sl _ (fun vs H2 => ∃ xs S2, _ ∧ Le S H1 S2 H2 ∧ Ok X.K Z S2 H2 ∧ Reps X.K Z S2 H2 vs xs) I2 ⟨Z, σ, S, _, RE, fr, ok, w, fun xs S2 vs H2 k2 l2 o2 r2 => ⟨xs, S2, k2, l2, o2, r2⟩, xo⟩) fun us s2 hu => ?_) hst hpl
  obtain ⟨vs, H2, I3, rvs, xs, S2, k2, l2, o2, r2⟩ := hu
  refine ⟨I3.kIn, ?_⟩
  have up : UpF X.K sp (vs ++ dvs) H2 Q E := ⟨Z, _, S2, R, RE, r2.append (hdt _ _ _), o2, k2, po.le l2, xo.le l2⟩
  have vv : Vals (vs ++ dvs) (us ++ ds) := rvs.append hd2
  exact goT F gds hr hx I3 (hb s2 us I3.kIn (vv.length.symm.trans (F.fn.len _ _ _ _ up))) vv up
end

theorem cxUpN {P : Program} {w : World} : StX.CXUp (L2N.CX P w) := by
  intro outer s H s2 H2 E e s' un kp same cx
  obtain ⟨a, B, H', cls, d, ea, fl, hok, ub, na, os, ag, he⟩ := cx
  refine ⟨a, B, H', cls, d, ea, fl, hok, ?_, na, os.trans same, ag, he⟩
  exact {
    keep := fun b o q n hb => ub.keep b o (kp b o q) (un.free b o q n (by simp)) hb
    slot := fun b o q hb => ub.slot b o (kp b o q) hb
    free := fun b o q n => ub.free b o (kp b o q) (un.free b o q n (by simp))
    there := fun b o q hb => ub.there b o (kp b o q) hb
    tups := fun b xs q => ub.tups b xs (un.tups b xs q)
    frzs := fun b o xs q => ub.frzs b o xs (un.frzs b o xs q)
    tbls := fun b ps q => by
      obtain ⟨m1, e1⟩ := un.tbls b ps q
      obtain ⟨m2, e2⟩ := ub.tbls b _ e1
      exact ⟨m1 ++ m2, by rw [e2, Array.append_assoc]⟩ }

/-! ### defs with *args alone -/
structure FnS (P : Program) (w : World) (K : PySem.W.Frag) (mg : Str → Option Value) (base : Heap) (k : Nat) (f : Addr) (sp : SpT) : Prop where
  go : ∀ (A : Around) (out : List Env) (s : Shared) (H : Hp) (us : List Value) (vs : List V) (Q : VK) (E : XK), A.guards = some [] → Room k A → Env0 P w K mg base A out s H → Vals vs us → UpF K sp vs H Q E →
    codeAny (model P w) A (.call (.ref f) ⟨us, []⟩) (CR (L2N.CX P w) out P w H s Q E) s
section
variable {P : Program} {w : World} {K : PySem.W.Frag} {mg : Str → Option Value} {base : Heap} {k : Nat} {f : Addr} {fd : FuncData} {sp : SpT}
theorem okTS {x qual pv : Str} {st : Stmt} {N : List Str} {r : TRS} (F : Fun K x qual st f fd) (S : FnScope N [pv] (defScope st))
    (hb : ∀ us : List Value, bindArgs fd ⟨us, []⟩ = (newTuple us >>= fun t => pure [(pv, t)]))
    (bs : ∀ (cdv : Value) (A : Around) (out : List Env) (s : Shared) (H : Hp) (E : XK), A.guards = some [] → Room k (A.deeper (envOfC qual (defScope st) s.heap.objs.size f cdv)) → BS (cxT P w K mg base N qual (defScope st) f cdv A out s H E) E (defBody st) r)
    (hsp : ∀ ts S R RE, sp ts S R RE → ts.length ≤ sizeLine ∧ r { nx := fun _ S' => R .non S', rt := R, ex := RE } (startT N [.tup ts]) S) : FnS P w K mg base (k + 1) f sp := by
  obtain ⟨_, _, _, _, _, _, cdv, _, _, e, lk, code⟩ := F.ex
  subst e
  refine ⟨fun A out s H us vs Q E gds hr e0 rv up => ?_⟩
  obtain ⟨Z, ts, S0, R, RE, rs, ok, h, po, xo⟩ := up.ex
  obtain ⟨hl, h⟩ := hsp ts S0 R RE h
  have lv : vs.length ≤ sizeLine := by rw [rs.length]; exact hl
  have lu : us.length ≤ sizeLine := by rw [← rv.length]; exact lv
  have hn : H s.heap.objs.size = Option.none := e0.hok.fresh (Nat.le_refl _)
  refine StX.run_bnd lk code S hr e0 (G := fun xs H2 => ∃ p, H p = Option.none ∧ xs = [V.ref p] ∧ H2 = upd H p (.tup vs)) (fun A' Ex Q' g => ?_) fun s2 H2 xs ⟨p, hp, ex, eH⟩ hr' => ?_
  · rw [hb us]
    refine wpAny_bind (wpAny_newTuple (wpAny_pure ?_) lu)
    have made : ObjOk P w (upd H s.heap.objs.size (.tup vs)) (s.heap.push ({ cls := .type "tuple", data := .seq us.toArray } : Obj)) s.heap.objs.size (.tup vs) := ⟨lv, us, rv, ⟨_, Heap.get?_push_size _ rfl, rfl, _, rfl⟩⟩
    have un := StX.un_laid (fs := frs out) (s := s) (o := ({ cls := .type "tuple", data := .seq us.toArray } : Obj)) (u := .tup vs) hn
    exact g _ _ [V.ref s.heap.objs.size] [Value.ref s.heap.objs.size] (StX.env0_laid e0 made) un rfl (fun e s' => cxUpN out s H _ _ E e s' un (fun b o q => Heap.get?_push_of_some _ q) rfl) (.cons rfl .nil) rfl ⟨_, hn, rfl, rfl⟩
  · subst ex eH
    refine ⟨_, (bs cdv A out s2 _ E gds hr').ps, Z, startT N [.tup ts], S0, _, FrR.start (.cons (.tupN ok hp rs) .nil), ok.new hp, h, ⟨fun σ' S' sl' H' r' le' ok' _ => po _ S' _ H' r' ((le_new hp).trans le') ok' .non, po.le (le_new hp), fun _ _ _ _ z => z.elim, fun _ _ _ _ z => z.elim⟩, xo.le (le_new hp)⟩
end
section
variable {X : Cx} {E : XK} {k : Nat} {f : Addr} {sp : SpT} {x : Str} {p pos : Pos} {e : Expr} {es : List Expr} {t : TRA}
theorem goS {pins : List (Addr × Obj)} {sl : L2.St} {H : Hp} {s : Shared} {Q : VK} {us : List Value} {vs : List V} (F : FnS X.prog X.w X.K X.mg X.base k f sp) (gds : X.A.guards = some []) (hr : Room k X.A) (hx : Passes (L2N.CX X.prog X.w) X E)
    (inv : Inv X pins sl H s) (r : Vals vs us) (want : UpF X.K sp vs H Q E) : wpAny (model X.prog X.w) X.A (call (.ref f) us) (EP X pins sl Q) X.xe s := by
  refine wpAny_call (codeAny_mono (F.go X.A X.stack s H us vs Q E gds hr inv.env0 r want) fun r s' got => ?_)
  cases r with
  | error er => exact hx pins sl H s er s' inv got
  | ok fl =>
    cases fl with
    | ret u => exact inv.after got
    | next => exact got.elim
    | brk => exact got.elim
    | cont => exact got.elim
def rCallS (sp : SpT) (t : TRA) : TR := fun σ S R RE => t σ S (fun xs S1 => sp xs S1 R RE) RE
theorem et_callS (F : FnS X.prog X.w X.K X.mg X.base k f sp) (gds : X.A.guards = some []) (hr : Room k X.A) (hg : Gl X x) (hm : X.mg x = some (.ref f)) (hk : PySem.W.keepIn X.K (.ref f) = true) (hx : Passes (L2N.CX X.prog X.w) X E)
    (ha : AT X E (e :: es) t) (hdb : (x == ("__debug__" : Str)) = false := by decide) (he : starEach (e :: es) X.env = (false, eval e X.env) :: starEach es X.env := by rfl) (hpl : (backTo pos (starEach es X.env)).any (·.1) = false := by rfl) :
    ET X E (.Call (.Name x p) (e :: es) [] pos) (rCallS sp t) := by
  refine ⟨⟨fun pins s sl H Q I h => ?_⟩⟩
  obtain ⟨Z, σ, S, R, RE, fr, ok, w, po, xo⟩ := h.ex
  refine wpAny_Call_Name_kw (ld_glob I hg hm ?_ hdb)
  refine PySem.W.callWith_K (h₀ := X.base) I.ok.mod.kin hk (thn (ha.pa.run pos pins s sl H (fun vs H1 => ∃ xs S1, sp xs S1 R RE ∧ Le S H S1 H1 ∧ Ok X.K Z S1 H1 ∧ Reps X.K Z S1 H1 vs xs) I
    ⟨Z, σ, S, _, RE, fr, ok, w, fun xs S1 vs H1 k1 l1 o1 r1 => ⟨xs, S1, k1, l1, o1, r1⟩, xo⟩) fun us s1 hu => ?_) he hpl
  obtain ⟨vs, H1, I1, rv, xs, S1, k1, l1, o1, r1⟩ := hu
  exact ⟨I1.kIn, goS F gds hr hx I1 rv ⟨Z, xs, S1, R, RE, r1, o1, k1, po.le l1, xo.le l1⟩⟩
end
/-! x * y where x's class has the def and y is of a built-in type, or of that class too -/
section
open PySem.W PySem.Calls PyProof.Rows
variable {prog : Program} {w : World} {A : Around} {E : Value → Shared → Prop} {s : Shared} {K : Frag} {x C L f : Addr} {h₀ : Heap} {m : Str → Option Value} {ox : Obj} {od : Option Obj} {T : String}
theorem binT {op : Operator} {b : Value} {fo ro rc : Option Value} {Q : Value → Shared → Prop} (F : PyProof.Rows.Fr h₀ L s.heap m) (X₀ : K.In h₀) (I : InstAt s.heap x ox C od) (ty : Looks (model prog w) s.heap (typeOf b) (.type T)) (first_ : selfFirst K C = true)
    (at_ : findIn K (.ref C) (PySem.dunder op.info.2) = some (some (.ref f))) (fn : isFn K (.ref f) = true) (right_ : findIn K (.ref C) (dunderR op.info.2) = some rc) (rp : rc = none ∨ ∃ g : Addr, rc = some (.ref g))
    (t1 : findIn K (.type T) (PySem.dunder op.info.2) = some fo) (t2 : findIn K (.type T) (dunderR op.info.2) = some ro) (no : subIn K (.type T) (.ref C) = some false)
    (h : wpAny (model prog w) A (call (.ref f) [.ref x, b]) (PySem.W.CmpBack Q) E s) : wpAny (model prog w) A (binaryOp op (.ref x) b) Q E s := by
  have X := X₀.keeps F.keep
  obtain ⟨cd, rest, hcd, hm⟩ := ksp_first first_
  rcases hi : op.info with ⟨sym, nm'⟩
  rw [hi] at at_ right_ t1 t2
  dsimp only at at_ right_ t1 t2
  have one := ksp_try X I at_ fn h
  obtain ⟨hh, g, d, tt, os⟩ := s
  have L1 : Looks (model prog w) hh (typeOf (.ref x)) (.ref C) := I.type
  have L2 : Looks (model prog w) hh (typeOf b) (.type T) := ty
  have L3 : Looks (model prog w) hh (fillsNumberSlot (.ref C) nm') true := fills_K X hcd hm at_
  have L4 : Looks (model prog w) hh (fillsNumberSlot (.type T) nm') ((fo.isSome && !isSeqSlot fo) || (ro.isSome && !isSeqSlot ro)) := ksp_fillsT X t1 t2
  have L5 : Looks (model prog w) hh (isSubtype (.type T) (.ref C)) false := looks_subIn X no
  have L6 : Looks (model prog w) hh (numberSlotInPython (.ref C) nm') true := ksp_inPy X at_ right_ rp
  have L7 : Looks (model prog w) hh (numberSlotInPython (.type T) nm') false := Looks.of_pure rfl
  have L8 : Looks (model prog w) hh (typeLookup (.type T) (dunderR nm')) ro := looks_findIn X t2
  generalize ((fo.isSome && !isSeqSlot fo) || (ro.isSome && !isSeqSlot ro)) = right at L4
  have ne : (Value.ref C == Value.type T) = false := Bool.eq_false_iff.mpr fun q => by cases beq_iff_eq.mp q
  simp only [binaryOp, hi]
  refine wpAny_holding (wpAny_bind ?_)
  unfold binaryOp1
  refine wpAny_bind (L1.at (wpAny_bind (L2.at (wpAny_bind (L3.at ?_)))))
  simp only [ne, Bool.false_eq_true, if_false]
  cases right with
  | false =>
    ksp_lk
    refine wpAny_mono one (fun r s' got => ?_) fun _ _ e => e
    obtain ⟨v, rfl, q⟩ := got
    ksp_lk
    exact q
  | true =>
    ksp_lk
    refine wpAny_mono one (fun r s' got => ?_) fun _ _ e => e
    obtain ⟨v, rfl, q⟩ := got
    ksp_lk
    exact q
end
/-- what the class at C says of its operator -/
structure BinOwn (K : PySem.W.Frag) (C f : Addr) (op : Operator) : Prop where
  first_ : PySem.W.selfFirst K C = true
  at_ : PySem.W.findIn K (.ref C) (PySem.dunder op.info.2) = some (some (.ref f))
  fn : PySem.W.isFn K (.ref f) = true
  right_ : ∃ rc, PySem.W.findIn K (.ref C) (PySem.dunderR op.info.2) = some rc ∧ (rc = none ∨ ∃ g : Addr, rc = some (.ref g))
/-- what a built-in type says of it -/
structure BinTy (K : PySem.W.Frag) (C : Addr) (op : Operator) (T : String) : Prop where
  l : ∃ fo, PySem.W.findIn K (.type T) (PySem.dunder op.info.2) = some fo
  r : ∃ ro, PySem.W.findIn K (.type T) (PySem.dunderR op.info.2) = some ro
  no : PySem.W.subIn K (.type T) (.ref C) = some false
/-- what may stand right of it -/
def BinArg (K : PySem.W.Frag) (C : Addr) (op : Operator) (H : Hp) (y : V) : Prop := (∃ T, TyX K H y (.type T) ∧ BinTy K C op T) ∨ ∃ b dx fs, y = .ref b ∧ H b = some (.ins C dx fs)

/-! ### x * y by the class's own def -/
structure BinT (K : PySem.W.Frag) (C : Addr) (op : Operator) (y : T) (S : Store) : Prop where
  ok : (∃ ty, TyT K S y (.type ty) ∧ BinTy K C op ty) ∨ ∃ gs, insOf y S = some (C, gs)
def rOpOwn (K : PySem.W.Frag) (C : Addr) (op : Operator) (sp : SpT) : KB := fun x y S R RE => (∃ gs, insOf x S = some (C, gs)) ∧ BinT K C op y S ∧ sp [x, y] S (fun z S' => (∃ C' gs', z = .ins C' gs') ∧ R z S') RE
theorem et_opOwn {X : Cx} {E : XK} {op : Operator} {C f : Addr} {fd : FuncData} {k : Nat} {ps : List Str} {sp : SpT} {a b : Expr} {pos : Pos} {ra rb : TR} (S : BinOwn X.K C f op) (F : FnT X.prog X.w X.K X.mg X.base k f fd ps sp) (gds : X.A.guards = some []) (hr : Room k X.A) (hb : Binds X.K fd ps []) (hx : Passes (L2N.CX X.prog X.w) X E)
    (ha : ET X E a ra) (hbb : ET X E b rb) : ET X E (.BinOp a op b pos) (rBin (rOpOwn X.K C op sp) ra rb) := by
  have run : OpR X (binaryOp op) (fun v u H Q => ∃ Z x y S0 R RE, Ok X.K Z S0 H ∧ Rep X.K Z S0 H v x ∧ Rep X.K Z S0 H u y ∧ rOpOwn X.K C op sp x y S0 R RE ∧ PO X.K Z S0 H R Q ∧ XOk X.K Z S0 H RE E) := by
    intro pins s sl H v w u1 u2 Q inv rx ry want
    obtain ⟨Z, x, y, S0, R, RE, ok, r1, r2, ⟨⟨gs, hi⟩, ⟨arg⟩, kk⟩, po, xo⟩ := want
    obtain ⟨i, dx, fs, rfl, hH, rf⟩ := ins_rep ok r1 hi
    obtain rfl : u1 = Value.ref i := rx
    obtain ⟨mA, O, _⟩ := ins_get inv.hok hH
    obtain ⟨od, J, _⟩ := O.look
    obtain ⟨m, fr⟩ := inv.fr
    have up : UpF X.K sp [.ref i, w] H (fun v H' => (∃ b, v = .ref b) ∧ Q v H') E := ⟨Z, [x, y], S0, _, RE, .cons r1 (.cons r2 .nil), ok, kk, fun z S' v H' kz le ok' rep => by
      obtain ⟨⟨C', gs', rfl⟩, kz⟩ := kz
      refine ⟨?_, po _ _ _ _ kz le ok' rep⟩
      cases rep
      exact ⟨_, rfl⟩, xo⟩
    have vv : Vals [V.ref i, w] [Value.ref i, u2] := .cons rfl (.cons ry .nil)
    have hl : ([Value.ref i, u2] ++ []).length = ps.length := vv.length.symm.trans (F.fn.len _ _ _ _ up)
    have run : wpAny (model X.prog X.w) X.A (call (.ref f) [.ref i, u2]) (PySem.W.CmpBack (EP X pins sl Q)) X.xe s := by
      refine thn (goT F gds hr hx inv (hb s [.ref i, u2] inv.kIn hl) vv up) fun z s' got => ?_
      obtain ⟨v, H', I3, rz, ⟨b, eb⟩, q3⟩ := got
      subst eb
      obtain rfl : z = Value.ref b := rz
      exact ⟨.ref b, H', I3, rfl, q3⟩
    rcases arg with ⟨ty, ht, B⟩ | ⟨gs2, hi2⟩
    · obtain ⟨KP, kx, kp, _⟩ := kit_of inv ry (ty_rep ok r2 ht)
      obtain ⟨fo, l⟩ := B.l
      obtain ⟨ro, r⟩ := B.r
      obtain ⟨rc, r3, r4⟩ := S.right_
      exact binT fr inv.ok.mod.kin J (kx.ty _ _ inv.kIn kp) S.first_ S.at_ S.fn r3 r4 l r B.no run
    · obtain ⟨b2, dx2, fs2, rfl, hb2, _⟩ := ins_rep ok r2 hi2
      obtain rfl : u2 = Value.ref b2 := ry
      obtain ⟨mB, OB, _⟩ := ins_get inv.hok hb2
      obtain ⟨od2, JB, _⟩ := OB.look
      exact PySem.W.binop_K fr inv.ok.mod.kin J JB.type S.first_ S.at_ S.fn run
  exact ⟨pe_weak (pe_op run ha.pe hbb.pe) fun sl H Q h => UpE.two h fun Z x y S2 v u H2 R RE ok rx ry kk po xo => ⟨Z, x, y, S2, R, RE, ok, rx, ry, kk, po, xo⟩⟩

section
variable {X : Cx} {E : XK} {k : Nat} {f C : Addr} {fd : FuncData} {ps ks : List Str} {sp : SpT} {dts : List T} {m : Str} {p pos : Pos} {e a b c : Expr} {gT : List T → List T → List T} {D1 D2 : Addr → SpT → Prop} {ra : TR}
/-! what is never reached -/
def rNo : TR := fun _ _ _ _ => False
def sNo : TRS := fun _ _ _ => False
theorem et_never : ET X E e rNo := ⟨⟨fun _ _ _ _ _ _ h => by
  obtain ⟨_, _, _, _, _, _, _, w, _, _⟩ := h.ex
  exact w.elim⟩⟩
theorem ss_never {st : Stmt} : SS X E st sNo := ⟨⟨fun _ _ _ _ _ _ h => by
  obtain ⟨_, _, _, _, _, _, w, _, _⟩ := h.ex
  exact w.elim⟩⟩
theorem MetD.or (h1 : MetD X m dts D1) (h2 : MetD X m dts D2) : MetD X m dts (fun C sp => D1 C sp ∨ D2 C sp) := ⟨fun C sp d => d.elim (h1.at_ C sp) (h2.at_ C sp)⟩
theorem MetB.one (c : Cls X.K C) (hm : Meth X.K C m f) (F : FnT X.prog X.w X.K X.mg X.base k f fd ps sp) (hr : Room k X.A) (cb : CallB X.K fd ps 1 ks gT) : MetB X m ks gT (one C sp) := ⟨fun C' sp' ⟨e1, e2⟩ => by
  subst e1 e2
  exact ⟨k, f, fd, ps, c, hm, F, hr, cb⟩⟩
theorem MetB.or (h1 : MetB X m ks gT D1) (h2 : MetB X m ks gT D2) : MetB X m ks gT (fun C sp => D1 C sp ∨ D2 C sp) := ⟨fun C sp d => d.elim (h1.at_ C sp) (h2.at_ C sp)⟩
/-- C.f is the constant t -/
structure CValT (K : PySem.W.Frag) (C : Addr) (f : Str) (t : T) : Prop where
  ex : ∃ v u, ClX.CVal K C (.type "type") f v u ∧ ∀ Z S H, Rep K Z S H v t
theorem et_cvalT {x : Str} {tt : T} (r : ClX.CRead X.K C (.type "type")) (k : CValT X.K C m tt) (hg : Gl X x) (hm : X.mg x = some (.ref C)) (hd : (x == ("__debug__" : Str)) = false := by decide)
    (hb : attributeBase (.Name x p) m X.env (eval (.Name x p) X.env) = eval (.Name x p) X.env := by rfl) : ET X E (.Attribute (.Name x p) m pos) (rC tt) := by
  obtain ⟨v, u, cv, rep⟩ := k.ex
  exact et_cval r cv rep hg hm hd hb
theorem bs_pass : BS X E [.Pass pos] sNext := ⟨pss_weak (pss_cons ps_pass pss_nil) fun D sl H ⟨⟨Z, σ, S, DT, fr, ok, w, eo, xo⟩⟩ => eo.nx σ S sl H w .refl ok fr⟩
/-! the same, the written part named -/
theorem et_fldK (K : PySem.W.Frag) (hK : X.K = K) (ha : ET X E a ra) (hb : attributeBase a m X.env (eval a X.env) = eval a X.env := by rfl) : ET X E (.Attribute a m pos) (rFld K m ra) := by
  subst hK
  exact et_fld ha hb
theorem et_conK (K : PySem.W.Frag) (hK : X.K = K) (ha : ET X E a ra) (hb : attributeBase a m X.env (eval a X.env) = eval a X.env := by rfl) : ET X E (.Attribute a m pos) (rCon K m ra) := by
  subst hK
  exact et_con ha hb
theorem ss_fldK (K : PySem.W.Frag) (hK : X.K = K) {rb : TR} {apos : Pos} (ha : ET X E a ra) (hv : ET X E e rb) (hs : swapsWith e (some (.Attribute a m apos)) pos.line X.env = pure false := by rfl) : SS X E (.Assign [.Attribute a m apos] e pos) (sFldT K m rb ra) := by
  subst hK
  exact ss_fld ha hv hs
theorem et_opOwnK (K : PySem.W.Frag) (hK : X.K = K) {op : Operator} {rb : TR} (S : BinOwn X.K C f op) (F : FnT X.prog X.w X.K X.mg X.base k f fd ps sp) (gds : X.A.guards = some []) (hr : Room k X.A) (hb : Binds X.K fd ps []) (hx : Passes (L2N.CX X.prog X.w) X E)
    (ha : ET X E a ra) (hbb : ET X E b rb) : ET X E (.BinOp a op b pos) (rBin (rOpOwn K C op sp) ra rb) := by
  subst hK
  exact et_opOwn S F gds hr hb hx ha hbb
theorem tt_never : TT' X E e (fun _ _ _ _ => False) := ⟨⟨fun _ _ _ _ _ _ h => by
  obtain ⟨_, _, _, _, _, _, _, w, _, _⟩ := h.ex
  exact w.elim⟩⟩
/-! a test that is a conditional expression -/
def bIf (tc ta tb : TRB) : TRB := fun σ S R RE => tc σ S (fun c S1 => if c = true then ta σ S1 R RE else tb σ S1 R RE) RE
theorem tt_ifExp {tc ta tb : TRB} (hc : TT' X E c tc) (ha : TT' X E a ta) (hb : TT' X E b tb) : TT' X E (.IfExp c a b pos) (bIf tc ta tb) := by
  refine ⟨⟨fun pins s sl H Q I h => ?_⟩⟩
  obtain ⟨Z, σ, S, R, RE, fr, ok, w, po, xo⟩ := h.ex
  refine isTrue_IfExp (thn (hc.pt.run pins s sl H (fun d H1 => ∃ S1, (if d = true then ta σ S1 R RE else tb σ S1 R RE) ∧ Le S H S1 H1 ∧ Ok X.K Z S1 H1) I ⟨Z, σ, S, _, RE, fr, ok, w, fun d S1 H1 k1 l1 o1 => ⟨S1, k1, l1, o1⟩, xo⟩) fun d s1 ⟨H1, I1, q1⟩ => ?_)
  obtain ⟨S1, k1, l1, o1⟩ := q1
  cases d with
  | true => exact ha.pt.run pins s1 sl H1 Q I1 ⟨Z, σ, S1, R, RE, fr.le l1, o1, k1, po.le l1, xo.le l1⟩
  | false => exact hb.pt.run pins s1 sl H1 Q I1 ⟨Z, σ, S1, R, RE, fr.le l1, o1, k1, po.le l1, xo.le l1⟩
end
/-! ### the end -/
section
variable {P : Program} {w : World} {K : PySem.W.Frag} {mg : Str → Option Value} {base : Heap} {k : Nat} {f : Addr} {fd : FuncData} {ps : List Str} {sp : SpT}
/-- a def that lets nothing out, as the end wants it -/
theorem FnT.cx0 (F : FnT P w K mg base k f fd ps sp) : FnG P w K mg base CX0 k f fd ps (fun vs H Q _ => UpF K sp vs H Q EF) := by
  refine ⟨fun vs H Q E h => F.fn.len _ _ _ _ h, fun A out st H as us vs Q E gds hr e0 b r h => ?_⟩
  refine codeAny_mono (F.fn.go A out st H as us vs Q EF gds hr e0 b r h) fun z s' got => ?_
  cases z with
  | error er =>
    obtain ⟨_, _, _, _, _, _, _, _, _, _, _, _, q⟩ := got
    exact q.elim
  | ok fl =>
    cases fl with
    | ret u => exact got
    | next => exact got
    | brk => exact got
    | cont => exact got
end
/-- what a law promises -/
def sp_law : SpT := fun ts S R _ => match ts with
  | [.scr l] => (∃ ns : List Int, l = ns.map T.int ∧ ns.length ≤ 63) ∧ ∀ S', R (.bl true) S'
  | _ => False
theorem reps_ints {K : PySem.W.Frag} {Z : Addr → Prop} {S : Store} {H : Hp} : ∀ ns : List Int, Reps K Z S H (ns.map V.int) (ns.map T.int)
  | [] => .nil
  | n :: ns => .cons (.int n) (reps_ints ns)
theorem law_want (K : PySem.W.Frag) (H : Hp) (a : Addr) (ns : List Int) (hl : ns.length ≤ 63) (only : Only H) (hS : SqL K H a (ns.map V.int)) : UpF K sp_law [.ref a] H (fun v _ => v = .bl true) EF := by
  have sc : ScrAt K (fun _ => False) (fun _ => none) H a (ns.map V.int) := by
    rcases hS with h | h
    · refine .inl ⟨?_, rfl, id⟩
      rcases h with h | h
      · rcases only a with z | ⟨o, xs, z⟩
        · rw [h] at z; cases z
        · rw [h] at z; cases z
      · exact h
    · exact .inr h
  refine ⟨fun _ => False, [.scr (ns.map T.int)], fun _ => none, fun t _ => t = .bl true, XF, .cons (.scr sc (reps_ints ns)) .nil, ⟨fun _ => trivial, fun _ z => z.elim⟩, ⟨⟨ns, rfl, hl⟩, fun _ => rfl⟩, ?_, fun _ _ _ _ _ _ z => z.elim⟩
  intro t S' v H' e _ _ rep
  subst e
  cases rep
  rfl
theorem walkT {l : PySem.W.OpenLaw} {k : Nat} {q : Program} {loose : List Str} {XP : (Str → Option Value) → Heap → Prop} {YP : World → Heap → Prop} {d : DefRec} {K : Params → PySem.W.Frag} {x : Str}
    (hn : l.most = some 63) (hdf : d.params.defaults = []) (hr : Room k callerA) (hY : ∀ (w : World) (h : Heap), YP w h → (K w.params).In h)
    (F : ∀ (w : World) (mg : Str → Option Value) (fa : Addr) (h : Heap), (K w.params).In h → h.Ns mainGlobals mg → mg d.name = some (.ref fa) →
      ∃ fd : FuncData, (∀ (s : Shared) (u : Value), BindsTo s fd ⟨[u], []⟩ [(x, u)]) ∧ ∀ base : Heap, (K w.params).In base → base.Ns mainGlobals mg → FnT l.prog w (K w.params) mg base k fa fd [x] sp_law) :
    PySem.W.WalkO q loose XP YP l.row.toRowW d [] (fun f vs => PySem.call f vs) :=
  walkG hn (by rw [sizeLine_eq]; decide) hdf hr hY (sp := fun K vs H Q _ => UpF K sp_law vs H Q EF) (fun w mg fa h a b c => let ⟨fd, e, g⟩ := F w mg fa h a b c; ⟨fd, e, fun base i n => (g base i n).cx0⟩) fun K H a ns hl o s => law_want K H a ns hl o s

theorem roomR {k : Nat} {A : Around} (r : Room k A) : A.units + 70 < cLine := by have := r.un; omega
section
variable {P : Program} {w : World} {K : PySem.W.Frag} {mg : Str → Option Value} {base : Heap} {k : Nat} {f : Addr} {fd : FuncData} {ps : List Str} {sp : SpT}
/-- a def with keyword-only defaults -/
theorem okTK {x qual : Str} {st : Stmt} {N : List Str} {r : TRS} {dvs : List V} {kws : List (Str × V)} (F : FunD K x qual (defArgs st) (defBody st) (defScope st) dvs kws f fd) (S : FnScope N ps (defScope st)) (len : ∀ ts S R RE, sp ts S R RE → ts.length = ps.length)
    (bs : ∀ (cdv : Value) (A : Around) (out : List Env) (s : Shared) (H : Hp) (E : XK), A.guards = some [] → Room k (A.deeper (envOfC qual (defScope st) s.heap.objs.size f cdv)) → BS (cxT P w K mg base N qual (defScope st) f cdv A out s H E) E (defBody st) r)
    (hsp : ∀ ts S R RE, sp ts S R RE → r { nx := fun _ S' => R .non S', rt := R, ex := RE } (startT N ts) S) : FnT P w K mg base (k + 1) f fd ps sp := by
  obtain ⟨_, _, _, _, _, _, _, cdv, _, _, e, lk, code, _, _⟩ := F.ex
  subst e
  refine ⟨okG0 lk code S (fun vs H Q E q => ?_) fun A out s H vs Q E g rm q => up_body (bs cdv A out s H E g rm) hsp q⟩
  obtain ⟨Z, ts, S, R, RE, rs, ok, s, po, xo⟩ := q.ex
  exact rs.length.trans (len _ _ _ _ s)
end
section
variable {K : PySem.W.Frag} {x qual : Str} {st : Stmt} {f : Addr} {fd : FuncData} {ps : List Str} {dvs : List V} {dts : List T} {kws : List (Str × V)}
theorem Fun.cb (F : Fun K x qual st f fd) (n : Nat) (ks : List Str) (pk : List (Nat × Nat))
    (h : ∀ (kV doc pm : Value) (an : Option Addr) (cdv ct : Value) (us ws : List Value), us.length = n → ws.length = ks.length → bindArgs (PySem.W.fnOf x qual (defArgs st) (defBody st) (defScope st) .none kV doc pm an cdv ct) ⟨us, ks.zip ws⟩ = pure (ps.zip (pickG pk us [] ws))) :
    CallB K fd ps n ks (fun ts zs => pickG pk ts [] zs) := by
  obtain ⟨oc, od, kV, doc, pm, an, cdv, ct, osl, e, lk, hcd⟩ := F.ex
  subst e
  exact ⟨fun us ws => pickG pk us [] ws, fun vs zs => pickG pk vs [] zs, ⟨fun s us ws _ l1 l2 => .of_eq (h kV doc pm an cdv ct us ws l1 l2), fun r1 r2 => pick_vals r1 .nil r2 pk⟩, pick_ord DefT.nil pk⟩
theorem FunK.cb (F : FunD K x qual (defArgs st) (defBody st) (defScope st) [] kws f fd) (n : Nat) (ks : List Str) (pk : List (Nat × Nat))
    (h : ∀ (kV doc pm : Value) (an : Option Addr) (cdv ct : Value) (us ws : List Value), us.length = n → ws.length = ks.length → bindArgs (PySem.W.fnOf x qual (defArgs st) (defBody st) (defScope st) .none kV doc pm an cdv ct) ⟨us, ks.zip ws⟩ = pure (ps.zip (pickG pk us [] ws))) :
    CallB K fd ps n ks (fun ts zs => pickG pk ts [] zs) := by
  obtain ⟨oc, od, dV, kV, doc, pm, an, cdv, ct, osl, e, lk, hcd, hD, hK⟩ := F.ex
  subst e
  rcases hD with ⟨_, e⟩ | ⟨e, _⟩
  · subst e
    exact ⟨fun us ws => pickG pk us [] ws, fun vs zs => pickG pk vs [] zs, ⟨fun s us ws _ l1 l2 => .of_eq (h kV doc pm an cdv ct us ws l1 l2), fun r1 r2 => pick_vals r1 .nil r2 pk⟩, pick_ord DefT.nil pk⟩
  · exact absurd rfl e
theorem FunK.cd (F : FunD K x qual (defArgs st) (defBody st) (defScope st) [] kws f fd) (n : Nat) (hk : kws ≠ []) (hn : n + kws.length = ps.length) (d : DefT K (kws.map (·.2)) dts)
    (h : ∀ (D : Addr) (doc pm : Value) (an : Option Addr) (cdv ct : Value) (us ks : List Value), us.length = n → ks.length = kws.length →
      KwChain D ((kws.map (·.1)).zip ks) (bindArgs (PySem.W.fnOf x qual (defArgs st) (defBody st) (defScope st) .none (.ref D) doc pm an cdv ct) ⟨us, []⟩) (ps.zip (us ++ ks))) : CallD K fd ps dts := by
  obtain ⟨ds, r, b⟩ := F.binds0 n hk hn h
  exact ⟨ds, _, b, r, d⟩
theorem FunP.cd (F : FunD K x qual (defArgs st) (defBody st) (defScope st) dvs [] f fd) (n j : Nat) (hd : dvs ≠ []) (hn : n + (dvs.length - j) = ps.length) (d : DefT K (dvs.drop j) dts)
    (h : ∀ (T : Addr) (kV doc pm : Value) (an : Option Addr) (cdv ct : Value) (us its : List Value), us.length = n → its.length = dvs.length →
      ∃ k, bindArgs (PySem.W.fnOf x qual (defArgs st) (defBody st) (defScope st) (.ref T) kV doc pm an cdv ct) ⟨us, []⟩ = seqItems? (.ref T) >>= k ∧ k (some its.toArray) = pure (ps.zip (us ++ its.drop j))) : CallD K fd ps dts := by
  obtain ⟨ds, r, b⟩ := F.binds1 n j hd hn h
  exact ⟨ds, _, b, r, d⟩
theorem FunP.cb (F : FunD K x qual (defArgs st) (defBody st) (defScope st) dvs [] f fd) (n : Nat) (ks : List Str) (pk : List (Nat × Nat)) (hd : dvs ≠ []) (d : DefT K dvs dts)
    (h : ∀ (T : Addr) (kV doc pm : Value) (an : Option Addr) (cdv ct : Value) (us its ws : List Value), us.length = n → its.length = dvs.length → ws.length = ks.length →
      ∃ k, bindArgs (PySem.W.fnOf x qual (defArgs st) (defBody st) (defScope st) (.ref T) kV doc pm an cdv ct) ⟨us, ks.zip ws⟩ = seqItems? (.ref T) >>= k ∧ k (some its.toArray) = pure (ps.zip (pickG pk us its ws))) :
    CallB K fd ps n ks (fun ts zs => pickG pk ts dts zs) := by
  obtain ⟨oc, od, dV, kV, doc, pm, an, cdv, ct, osl, e, lk, hcd, hD, hK⟩ := F.ex
  subst e
  rcases hD with ⟨e, _⟩ | ⟨_, A, o, its, m, e, lT, oT, rT⟩
  · exact absurd e hd
  · subst e
    refine ⟨fun us ws => pickG pk us its ws, fun vs zs => pickG pk vs dvs zs, ⟨fun s us ws inK l1 l2 => ?_, fun r1 r2 => pick_vals r1 rT r2 pk⟩, pick_ord d pk⟩
    obtain ⟨k, e1, e2⟩ := h A kV doc pm an cdv ct us its ws l1 rT.length.symm l2
    refine BindsTo.of_looks fun M => ?_
    rw [e1]
    exact looks_items inK lT oT (.of_pure e2)
end

/-! a != b where the class has an own __eq__ and no own __ne__ -/
namespace NeOwn
open PySem PySem.Calls PyProof.Rows
section
variable {prog : Program} {w : World} {A : Around} {E : Value → Shared → Prop} {s : Shared} {K : PySem.W.Frag} {x C f : Addr} {ox : Obj} {od : Option Obj} {b tb : Value}
/-- the answer of __eq__, turned about -/
def Neg (Q : Value → Shared → Prop) (r : Value) (s' : Shared) : Prop := ∃ c, r = .bool c ∧ Q (.bool (!c)) s'
theorem body {Q : Fin → Shared → Prop} (inK : K.In s.heap) (I : PySem.W.InstAt s.heap x ox C od) (hu : A.units < cLine) (he : PySem.W.findIn K (.ref C) "__eq__" = some (some (.ref f))) (hf : PySem.W.isFn K (.ref f) = true)
    (hc : wpAny (model prog w) A (call (.ref f) [.ref x, b]) (Neg fun r s' => Q (.done (.ret r)) s') E s) : wpAny (model prog w) A (Builtin.«object.__ne__» ⟨[.ref x, b], []⟩) Q E s := by
  unfold Builtin.«object.__ne__»
  repeat (first
    | with_reducible refine wpAny_cRoomFor hu ?_
    | (refine wpAny_bind (m := callSpecialIfBound? (.ref x) (Str.ofString "__eq__") [b]) (PySem.W.ifBound_K inK I he hf (wpAny_mono hc (fun r s' got => by
          obtain ⟨c, rfl, hq⟩ := got
          repeat (first | exact hq | exact wpAny_pure hq | exact wpAny_truthy_bool hq | (refine wpAny_bind (m := truthy (.bool _)) (wpAny_truthy_bool ?_)) | wp_step)) fun _ _ z => z)))
    | wp_step)
theorem slot {args : List Value} {Q : Option Value → Shared → Prop} (inK : K.In s.heap) (I : PySem.W.InstAt s.heap x ox C od) (hs : PySem.W.findIn K (.ref C) "__ne__" = some (some (.builtin "object.__ne__")))
    (hc : wpAny (model prog w) A (call (.builtin "object.__ne__") (.ref x :: args)) (fun r => Q (some r)) E s) : wpAny (model prog w) A (callSpecialIfBound? (.ref x) "__ne__" args) Q E s := by
  simp only [callSpecialIfBound?, bindSpecialIfBound?]
  have last : wpAny (model prog w) A (call (.builtin "object.__ne__") ([.ref x] ++ args) >>= fun r => pure (some r)) Q E s := wpAny_bind (wpAny_mono hc (fun r s' z => wpAny_pure z) fun _ _ z => z)
  have bd := PySem.F.cmp_object.ne.bind (Value.ref x)
  refine wpAny_holding (wpAny_bind (wpAny_bind (wpAny_bind (I.type.here ((PySem.W.looks_findIn inK hs).here (wpAny_bind (wpAny_askSetting (wpAny_ite ?_))))))))
  split
  · exact wpAny_bind (wpAny_of_eq bd (wpAny_pure (by exact last)))
  · exact wpAny_tryCatch (wpAny_bind (wpAny_of_eq bd (wpAny_pure (by exact last))))
theorem ne_K {Q : Value → Shared → Prop} (hu : A.units + 1 < cLine) (inK : K.In s.heap) (I : PySem.W.InstAt s.heap x ox C od) (hb : PySem.W.Looks (model prog w) s.heap (typeOf b) (.ref C))
    (hs : PySem.W.findIn K (.ref C) "__ne__" = some (some (.builtin "object.__ne__"))) (hm : PySem.W.mroIn K C (.type "object") = some true) (he : PySem.W.findIn K (.ref C) "__eq__" = some (some (.ref f))) (hf : PySem.W.isFn K (.ref f) = true)
    (hc : wpAny (model prog w) A.in1 (call (.ref f) [.ref x, b]) (Neg Q) E s) : wpAny (model prog w) A (richCompare .NotEq (.ref x) b) Q E s := by
  have once : wpAny (model prog w) A (tryCompare (.ref x) "__ne__" b) (fun r s' => ∃ c, r = some (.bool c) ∧ Q (.bool c) s') E s := by
    simp only [tryCompare]
    refine wpAny_bind (slot inK I hs (wpAny_call (codeAny_call_builtin PySem.F.cmp_object.ne.plain PySem.F.cmpEntry_ne (PySem.W.check_slot PySem.F.cmpKind_ne PySem.F.cmpSplit_ne (I.type.andThen (PySem.W.looks_mroIn inK hm)) (PySem.F.cmpArgs_ne _ _)
      (body (A := A.in1) inK I hu he hf (wpAny_mono hc (fun r s' got => ?_) fun _ _ z => z))))))
    obtain ⟨c, rfl, hq⟩ := got
    exact ⟨c, rfl, wpAny_pure ⟨!c, rfl, hq⟩⟩
  unfold richCompare
  simp only [oneThing_ref]
  refine wpAny_holding (wpAny_bind (wpAny_cRoomFor (Nat.lt_of_succ_lt hu) (wpAny_bind (I.type.here (wpAny_bind (hb.here ?_))))))
  split
  · rename_i q
    exact absurd q (by simp)
  · refine wpAny_bind (wpAny_pure ?_)
    rw [if_neg Bool.false_ne_true]
    refine wpAny_bind (wpAny_mono once (fun r s' got => ?_) fun _ _ z => z)
    obtain ⟨c, rfl, hq⟩ := got
    exact wpAny_pure hq
end
end NeOwn
/-- an operator's rule told of trees -/
def RK (K : PySem.W.Frag) (E : XK) (k : KB) : R2 := fun v u H Q => ∃ Z x y S R RE, Ok K Z S H ∧ Rep K Z S H v x ∧ Rep K Z S H u y ∧ k x y S R RE ∧ PO K Z S H R Q ∧ XOk K Z S H RE E
theorem cv_RK {K : PySem.W.Frag} {E : XK} {k : KB} : Conv K E k (RK K E k) := fun Z x y S _ _ _ R RE _ ok rx ry kk po xo => ⟨Z, x, y, S, R, RE, ok, rx, ry, kk, po, xo⟩
/-- what the class at C says of == and != -/
structure EqO (K : PySem.W.Frag) (C f : Addr) : Prop where
  eq : PySem.W.findIn K (.ref C) "__eq__" = some (some (.ref f))
  fn : PySem.W.isFn K (.ref f) = true
  ne : PySem.W.findIn K (.ref C) "__ne__" = some (some (.builtin "object.__ne__"))
  mro : PySem.W.mroIn K C (.type "object") = some true
def kEqOwn (C : Addr) (sp : SpT) (ng : Bool) : KB := fun x y S R RE => (∃ gs, insOf x S = some (C, gs)) ∧ (∃ gs, insOf y S = some (C, gs)) ∧ sp [x, y] S (fun z S' => ∃ c, z = .bl c ∧ R (.bl (ng ^^ c)) S') RE
section
variable {X : Cx} {E : XK} {C f : Addr} {fd : FuncData} {k : Nat} {ps : List Str} {sp : SpT}
theorem op_eqOwnT (O : EqO X.K C f) (F : FnT X.prog X.w X.K X.mg X.base k f fd ps sp) (gds : X.A.guards = some []) (hr : Room k X.A) (hb : Binds X.K fd ps []) (hx : Passes (L2N.CX X.prog X.w) X E) : OpR X (compareOp .Eq) (RK X.K E (kEqOwn C sp false)) := by
  intro pins s sl H v u w z Q inv rv ru want
  obtain ⟨Z, x, y, S, R, RE, ok, rx, ry, ⟨⟨gs, hi⟩, ⟨gs2, hi2⟩, kk⟩, po, xo⟩ := want
  obtain ⟨a, dx, fs, rfl, hH, _⟩ := ins_rep ok rx hi
  obtain ⟨b, dy, fs2, rfl, hH2, _⟩ := ins_rep ok ry hi2
  obtain rfl : w = Value.ref a := rv
  obtain rfl : z = Value.ref b := ru
  obtain ⟨mA, OA, _⟩ := ins_get inv.hok hH
  obtain ⟨od, J, _⟩ := OA.look
  obtain ⟨mB, OB, _⟩ := ins_get inv.hok hH2
  obtain ⟨od2, J2, _⟩ := OB.look
  obtain ⟨m, fr⟩ := inv.fr
  have up : UpF X.K sp [.ref a, .ref b] H (fun v H' => ∃ c, v = .bl c ∧ Q (.bl c) H') E := ⟨Z, [x, y], S, _, RE, .cons rx (.cons ry .nil), ok, kk, fun t S' v H' kt le ok' rep => by
    obtain ⟨c, rfl, kt⟩ := kt
    rw [Bool.false_xor] at kt
    cases rep
    exact ⟨c, rfl, po _ _ _ _ kt le ok' (.bl c)⟩, xo⟩
  have vv : Vals [V.ref a, V.ref b] [Value.ref a, Value.ref b] := .cons rfl (.cons rfl .nil)
  have hl : ([Value.ref a, Value.ref b] ++ []).length = ps.length := vv.length.symm.trans (F.fn.len _ _ _ _ up)
  show wpAny (model X.prog X.w) X.A (richCompare .Eq (.ref a) (.ref b)) (EP X pins sl Q) X.xe s
  refine PySem.W.cmp_K (op := .Eq) (tb := .ref C) (by have := hr.un; omega) fr inv.ok.mod.kin J J2.type (by simp [PySem.W.notFirst]) O.eq O.fn ?_
  refine thn (goT F gds hr hx inv (hb s [.ref a, .ref b] inv.kIn hl) vv up) fun r s' got => ?_
  obtain ⟨v, H', I2, r2, c, rfl, q⟩ := got
  cases r2
  exact ⟨.bl c, H', I2, rfl, q⟩
theorem op_neOwnT (O : EqO X.K C f) (F : FnT X.prog X.w X.K X.mg X.base k f fd ps sp) (gds : X.A.guards = some []) (hr : Room (k + 1) X.A) (hb : Binds X.K fd ps []) (hx : Passes (L2N.CX X.prog X.w) X E) : OpR X (compareOp .NotEq) (RK X.K E (kEqOwn C sp true)) := by
  intro pins s sl H v u w z Q inv rv ru want
  obtain ⟨Z, x, y, S, R, RE, ok, rx, ry, ⟨⟨gs, hi⟩, ⟨gs2, hi2⟩, kk⟩, po, xo⟩ := want
  obtain ⟨a, dx, fs, rfl, hH, _⟩ := ins_rep ok rx hi
  obtain ⟨b, dy, fs2, rfl, hH2, _⟩ := ins_rep ok ry hi2
  obtain rfl : w = Value.ref a := rv
  obtain rfl : z = Value.ref b := ru
  obtain ⟨mA, OA, _⟩ := ins_get inv.hok hH
  obtain ⟨od, J, _⟩ := OA.look
  obtain ⟨mB, OB, _⟩ := ins_get inv.hok hH2
  obtain ⟨od2, J2, _⟩ := OB.look
  have up : UpF X.K sp [.ref a, .ref b] H (fun v H' => ∃ c, v = .bl c ∧ Q (.bl (!c)) H') E := ⟨Z, [x, y], S, _, RE, .cons rx (.cons ry .nil), ok, kk, fun t S' v H' kt le ok' rep => by
    obtain ⟨c, rfl, kt⟩ := kt
    rw [Bool.true_xor] at kt
    cases rep
    exact ⟨c, rfl, po _ _ _ _ kt le ok' (.bl _)⟩, xo⟩
  have vv : Vals [V.ref a, V.ref b] [Value.ref a, Value.ref b] := .cons rfl (.cons rfl .nil)
  have hl : ([Value.ref a, Value.ref b] ++ []).length = ps.length := vv.length.symm.trans (F.fn.len _ _ _ _ up)
  show wpAny (model X.prog X.w) X.A (richCompare .NotEq (.ref a) (.ref b)) (EP X pins sl Q) X.xe s
  refine NeOwn.ne_K (by have := hr.un; omega) inv.kIn J J2.type O.ne O.mro O.eq O.fn ?_
  refine wpAny_call (codeAny_mono (F.fn.go X.A.in1 X.stack s H ⟨[.ref a, .ref b], []⟩ ([Value.ref a, Value.ref b] ++ []) [V.ref a, V.ref b] _ E (by first | exact gds | simpa [Around.in1] using gds) hr.in1 inv.env0.in1 (hb s [.ref a, .ref b] inv.kIn hl) (by rw [List.append_nil]; exact vv) up) fun r s' got => ?_)
  cases r with
  | error er => exact hx pins sl H s er s' inv got
  | ok fl =>
    cases fl with
    | ret t =>
      obtain ⟨v, H', I3, rz, c, rfl, q⟩ := inv.after got
      cases rz
      exact ⟨c, rfl, .bl (!c), H', I3, rfl, q⟩
    | next => exact got.elim
    | brk => exact got.elim
    | cont => exact got.elim
end
section
variable {X : Cx} {E : XK} {C : Addr} {x : Str} {p pos : Pos}
/-- a class that is made without an __init__ -/
structure MkP (K : PySem.W.Frag) (D : Addr) : Prop where
  mks : PySem.W.makesIn K D = true
  kp : PySem.W.keepIn K (.ref D) = true
  hi : PySem.W.findIn K (.ref D) "__init__" = some (some (.builtin "object.__init__"))
  mr : PySem.W.mroIn K D (.type "object") = some true
def rMakeP (C : Addr) : TR := fun _ S R _ => R (.ins C []) S
set_option maxHeartbeats 1000000 in
theorem et_makeP (M : MkP X.K C)
    (hg : Gl X x) (hm : X.mg x = some (.ref C)) (hdb : (x == ("__debug__" : Str)) = false := by decide) : ET X E (.Call (.Name x p) [] [] pos) (rMakeP C) := by
  obtain ⟨hmk, kp, hi, hmr⟩ := M
  refine ⟨⟨fun pins s sl H Q I h => ?_⟩⟩
  obtain ⟨Z, σ, S, R, RE, fr, ok, w, po, xo⟩ := h.ex
  refine wpAny_Call_Name_kw (ld_glob I hg hm ?_ hdb)
  refine PySem.W.callWith_K0 I.kIn kp (wpAny_call ?_)
  have nx : H (s.heap.objs.size + 1) = none := I.hok.fresh (Nat.le_succ _)
  have nd : H s.heap.objs.size = none := I.hok.fresh (Nat.le_refl _)
  have I2 := Inv.made (C := C) I
  have nx1 : upd H s.heap.objs.size (.own (s.heap.objs.size + 1)) (s.heap.objs.size + 1) = none := by rw [upd_ne (Nat.succ_ne_self _)]; exact nx
  have ok1 : Ok X.K Z S (upd H s.heap.objs.size (.own (s.heap.objs.size + 1))) := ok.new nd
  have at_ : upd (upd H s.heap.objs.size (.own (s.heap.objs.size + 1))) (s.heap.objs.size + 1) (.ins C s.heap.objs.size []) (s.heap.objs.size + 1) = some (.ins C s.heap.objs.size []) := upd_same
  obtain ⟨mA, O, _⟩ := ins_get I2.hok at_
  obtain ⟨od, J, _⟩ := O.look
  refine make_map0 I.kIn hmk hi (fun self => PySem.W.Looks.of_pure (PySem.W.oi_bind self)) ?_
  have isO : PySem.W.Looks (model X.prog X.w) _ (isInstance (.ref (s.heap.objs.size + 1)) (.type "object")) true := J.type.andThen (PySem.W.looks_mroIn I2.kIn hmr)
  refine codeAny_call_builtin PySem.W.oi_plain PySem.W.entry_oi (@PySem.W.check_slot (model X.prog X.w) _ _ _ "object.__init__" "object" "__init__" (.ref (s.heap.objs.size + 1)) [] [] _ PySem.W.oi_kind PySem.W.oi_split isO (PySem.W.oi_args (.ref (s.heap.objs.size + 1))) ?_)
  rw [PySem.W.oi_run]
  have le2 : Le S H S (upd (upd H s.heap.objs.size (.own (s.heap.objs.size + 1))) (s.heap.objs.size + 1) (.ins C s.heap.objs.size [])) := (le_new nd).trans (le_new nx1)
  have rp : Rep X.K Z S (upd (upd H s.heap.objs.size (.own (s.heap.objs.size + 1))) (s.heap.objs.size + 1) (.ins C s.heap.objs.size [])) (.ref (s.heap.objs.size + 1)) (.ins C []) := .ins upd_same ⟨ok1.free nx1, ok1.nz nx1⟩ .nil
  have qq := po _ S _ _ w le2 (ok1.new nx1) rp
  exact wpAny_pure ⟨rfl, V.ref (s.heap.objs.size + 1), _, I2, rfl, qq⟩
end
section
variable {K : PySem.W.Frag} {x qual : Str} {st : Stmt} {f : Addr} {fd : FuncData} {ps : List Str} {dvs : List V}
/-- a def with defaults, every parameter written -/
theorem FunP.b (F : FunD K x qual (defArgs st) (defBody st) (defScope st) dvs [] f fd) (hd : dvs ≠ [])
    (h : ∀ (T : Addr) (kV doc pm : Value) (an : Option Addr) (cdv ct : Value) (us its : List Value), us.length = ps.length → its.length = dvs.length →
      ∃ k, bindArgs (PySem.W.fnOf x qual (defArgs st) (defBody st) (defScope st) (.ref T) kV doc pm an cdv ct) ⟨us, []⟩ = seqItems? (.ref T) >>= k ∧ k (some its.toArray) = pure (ps.zip us)) : Binds K fd ps [] := by
  obtain ⟨ds, r, b⟩ := F.binds1 (ps := ps) ps.length dvs.length hd (by omega) fun T kV doc pm an cdv ct us its l1 l2 => by
    obtain ⟨k, e1, e2⟩ := h T kV doc pm an cdv ct us its l1 l2
    exact ⟨k, e1, by rw [e2, ← l2, List.drop_length, List.append_nil]⟩
  rw [List.drop_length] at r
  cases r
  exact b
end

/-! a in (b, c), by the class's own __eq__ -/
namespace InOwn
open PySem PySem.Calls PyProof.Rows
section
variable {prog : Program} {w : World} {A : Around} {E : Value → Shared → Prop} {s : Shared} {l x : Addr} {items : Array Value}
theorem body {Q : Fin → Shared → Prop} (hl : IsTup s.heap l items) (I : List Value → Shared → Prop)
    (turn : ∀ y rest s, I (y :: rest) s → wpAny (model prog w) A (eqBool y (.ref x)) (fun r s' => if r = true then Q (.done (.ret (.bool true))) s' else I rest s') E s)
    (fin : ∀ s, I [] s → Q (.done (.ret (.bool false))) s) (h : I items.toList s) : wpAny (model prog w) A (Builtin.«tuple.__contains__» ⟨[.ref l, .ref x], []⟩) Q E s := by
  show wpAny _ _ (Builtin.Tuple.tupleItemsOf (.ref l) >>= _) _ _ s
  refine wpAny_bind (tupleItemsOf_ hl ?_)
  refine wpAny_bind (forIn_array_ _ (fun rest b s' => b.1 = none ∧ I rest s') _ ?_ ?_ items _ ⟨rfl, h⟩)
  · rintro y rest b s' ⟨hb, hI⟩
    refine wpAny_bind (wpAny_mono (turn y rest s' hI) (fun r s2 got => ?_) fun _ _ z => z)
    cases r with
    | true => exact wpAny_bind (wpAny_pure (wpAny_pure (wpAny_pure (by simpa using got))))
    | false => exact wpAny_pure ⟨rfl, by simpa using got⟩
  · rintro ⟨b1, b2⟩ s' ⟨hb, hI⟩
    simp only at hb
    subst hb
    exact wpAny_pure (fin s' hI)
theorem has {Q : Bool → Shared → Prop} (hl : IsTup s.heap l items) (I : List Value → Shared → Prop)
    (turn : ∀ y rest s, I (y :: rest) s → wpAny (model prog w) A.in1 (eqBool y (.ref x)) (fun r s' => if r = true then Q true s' else I rest s') E s)
    (fin : ∀ s, I [] s → Q false s) (h : I items.toList s) : wpAny (model prog w) A (contains (.ref l) (.ref x)) Q E s := by
  unfold contains
  refine wpAny_holding ?_
  refine wpAny_bind (wpAny_specialOf hl.typeIs slot_tuple_contains.lookup ?_)
  rw [if_neg (by decide)]
  exact wpAny_bind (wpAny_callSpecialUnlessNone?_slot (name := Str.ofString "__contains__") hl.typeIs slot_tuple_contains
    (wpAny_call_entry slot_tuple_contains hl.typeIs entry_tuple_contains (body hl I (fun y rest s' z => wpAny_mono (turn y rest s' z) (fun r s2 q => by
      cases r with
      | true => exact ⟨_, rfl, wpAny_truthy_bool (by simpa using q)⟩
      | false => simpa using q) fun _ _ z => z) (fun s' z => ⟨_, rfl, wpAny_truthy_bool (fin s' z)⟩) h) (args_tuple_contains _ _)))
end
end InOwn
/-! x in o by the class's own __contains__ -/
structure InO (K : PySem.W.Frag) (C f : Addr) : Prop where
  at_ : PySem.W.findIn K (.ref C) "__contains__" = some (some (.ref f))
  fn : PySem.W.isFn K (.ref f) = true
def kInOwn (C : Addr) (sp : SpT) (ng : Bool) : KB := fun x y S R RE => (∃ gs, insOf y S = some (C, gs)) ∧ sp [y, x] S (fun z S' => ∃ c, z = .bl c ∧ R (.bl (ng ^^ c)) S') RE
section
variable {X : Cx} {E : XK} {C f : Addr} {fd : FuncData} {k : Nat} {ps : List Str} {sp : SpT}
theorem op_inOwnT (O : InO X.K C f) (F : FnT X.prog X.w X.K X.mg X.base k f fd ps sp) (gds : X.A.guards = some []) (hr : Room k X.A) (hb : Binds X.K fd ps []) (hx : Passes (L2N.CX X.prog X.w) X E) : OpR X (compareOp .In) (RK X.K E (kInOwn C sp false)) := by
  intro pins s sl H v u w z Q inv rv ru want
  obtain ⟨Z, x, y, S, R, RE, ok, rx, ry, ⟨⟨gs, hi⟩, kk⟩, po, xo⟩ := want
  obtain ⟨b, dy, fs2, rfl, hH2, _⟩ := ins_rep ok ry hi
  obtain rfl : z = Value.ref b := ru
  obtain ⟨mB, OB, _⟩ := ins_get inv.hok hH2
  obtain ⟨od2, J2, _⟩ := OB.look
  obtain ⟨m, fr⟩ := inv.fr
  have up : UpF X.K sp [.ref b, v] H (fun v H' => ∃ c, v = .bl c ∧ Q (.bl c) H') E := ⟨Z, [y, x], S, _, RE, .cons ry (.cons rx .nil), ok, kk, fun t S' v H' kt le ok' rep => by
    obtain ⟨c, rfl, kt⟩ := kt
    rw [Bool.false_xor] at kt
    cases rep
    exact ⟨c, rfl, po _ _ _ _ kt le ok' (.bl c)⟩, xo⟩
  have vv : Vals [V.ref b, v] [Value.ref b, w] := .cons rfl (.cons rv .nil)
  have hl : ([Value.ref b, w] ++ []).length = ps.length := vv.length.symm.trans (F.fn.len _ _ _ _ up)
  refine PySem.W.in_K fr inv.ok.mod.kin J2 O.at_ O.fn (thn (goT F gds hr hx inv (hb s [.ref b, w] inv.kIn hl) vv up) fun r s' got => ?_)
  obtain ⟨v, H', I2, r2, c, rfl, q⟩ := got
  cases r2
  exact wpAny_truthy_bool ⟨.bl c, H', I2, rfl, q⟩
theorem op_ninOwnT (O : InO X.K C f) (F : FnT X.prog X.w X.K X.mg X.base k f fd ps sp) (gds : X.A.guards = some []) (hr : Room k X.A) (hb : Binds X.K fd ps []) (hx : Passes (L2N.CX X.prog X.w) X E) : OpR X (compareOp .NotIn) (RK X.K E (kInOwn C sp true)) := by
  intro pins s sl H v u w z Q inv rv ru want
  obtain ⟨Z, x, y, S, R, RE, ok, rx, ry, ⟨⟨gs, hi⟩, kk⟩, po, xo⟩ := want
  obtain ⟨b, dy, fs2, rfl, hH2, _⟩ := ins_rep ok ry hi
  obtain rfl : z = Value.ref b := ru
  obtain ⟨mB, OB, _⟩ := ins_get inv.hok hH2
  obtain ⟨od2, J2, _⟩ := OB.look
  obtain ⟨m, fr⟩ := inv.fr
  have up : UpF X.K sp [.ref b, v] H (fun v H' => ∃ c, v = .bl c ∧ Q (.bl (!c)) H') E := ⟨Z, [y, x], S, _, RE, .cons ry (.cons rx .nil), ok, kk, fun t S' v H' kt le ok' rep => by
    obtain ⟨c, rfl, kt⟩ := kt
    rw [Bool.true_xor] at kt
    cases rep
    exact ⟨c, rfl, po _ _ _ _ kt le ok' (.bl _)⟩, xo⟩
  have vv : Vals [V.ref b, v] [Value.ref b, w] := .cons rfl (.cons rv .nil)
  have hl : ([Value.ref b, w] ++ []).length = ps.length := vv.length.symm.trans (F.fn.len _ _ _ _ up)
  refine PySem.W.notIn_K fr inv.ok.mod.kin J2 O.at_ O.fn (thn (goT F gds hr hx inv (hb s [.ref b, w] inv.kIn hl) vv up) fun r s' got => ?_)
  obtain ⟨v, H', I2, r2, c, rfl, q⟩ := got
  cases r2
  exact wpAny_truthy_bool ⟨.bl (!c), H', I2, rfl, q⟩
end
/-! x in (a, b, ..) by the elements' own __eq__; one thing is itself, whatever __eq__ says -/
def inOwnL (C : Addr) (sp : SpT) (x : T) (R : Bool → Store → Prop) (RE : XT) : List T → Store → Prop
  | [], S => R false S
  | y :: ys, S => R true S ∧ (∃ gs, insOf y S = some (C, gs)) ∧ sp [y, x] S (fun z S' => ∃ c, z = .bl c ∧ if c = true then R true S' else inOwnL C sp x R RE ys S') RE
def kInTup (C : Addr) (sp : SpT) : KB := fun x y S R RE => ∃ l, y = .tup l ∧ (∃ gs, x = .ins C gs) ∧ inOwnL C sp x (fun b S' => R (.bl b) S') RE l S
section
variable {X : Cx} {E : XK} {C f : Addr} {fd : FuncData} {k : Nat} {ps : List Str} {sp : SpT}
theorem op_inTupT (O : EqO X.K C f) (F : FnT X.prog X.w X.K X.mg X.base k f fd ps sp) (gds : X.A.guards = some []) (hr : Room (k + 1) X.A) (hb : Binds X.K fd ps []) (hx : Passes (L2N.CX X.prog X.w) X E) : OpR X (compareOp .In) (RK X.K E (kInTup C sp)) := by
  intro pins s sl H v u w z Q inv rv ru want
  obtain ⟨Z, x, y, S, R, RE, ok, rx, ry, ⟨l, rfl, ⟨gx, rfl⟩, kk⟩, po, xo⟩ := want
  obtain ⟨xa, dx, fs, rfl, hH, _⟩ := ins_rep ok rx (rfl : insOf (.ins C gx) S = some (C, gx))
  obtain rfl : w = Value.ref xa := rv
  cases ry with
  | @tup p vs ts h1 r1 =>
    obtain rfl : z = Value.ref p := ru
    obtain ⟨its, rv1, pl, _⟩ := inv.tuple h1.sq
    refine wpAny_bind (InOwn.has (items := its.toArray) pl (fun rest s' => ∃ H' S' vs' ts', Inv X pins sl H' s' ∧ Ok X.K Z S' H' ∧ Le S H S' H' ∧ Vals vs' rest ∧ Reps X.K Z S' H' vs' ts' ∧ Rep X.K Z S' H' (.ref xa) (.ins C gx) ∧ inOwnL C sp (.ins C gx) (fun b S' => R (.bl b) S') RE ts' S')
      ?_ ?_ ⟨H, S, vs, l, inv, ok, .refl, by simpa using rv1, r1, rx, kk⟩)
    · rintro yv rest s' ⟨H', S', vs', ts', inv', ok', le', rv', rs', rx', kk'⟩
      cases rv' with
      | @cons v1 u1 vs1 us1 e1 e2 =>
        cases rs' with
        | @cons _ y1 _ ts1 ry1 rs1 =>
          obtain ⟨kT, ⟨gs1, hi1⟩, kS⟩ := kk'
          obtain ⟨b, dy, fy, rfl, hb1, _⟩ := ins_rep ok' ry1 hi1
          obtain rfl : yv = Value.ref b := e1
          obtain ⟨a2, dx2, fx2, ea, hHx, _⟩ := ins_rep ok' rx' (rfl : insOf (.ins C gx) S' = some (C, gx))
          cases ea
          have fin : ∀ H2 S2 s2, Inv X pins sl H2 s2 → Ok X.K Z S2 H2 → Le S H S2 H2 → R (.bl true) S2 → EP X pins sl Q (.bool true) s2 := fun H2 S2 s2 I2 o2 l2 k2 => ⟨.bl true, H2, I2, rfl, po _ _ _ _ k2 l2 o2 (.bl true)⟩
          by_cases same : b = xa
          · subst same
            have e : ((Value.ref b) == (Value.ref b)) = true := by simp
            unfold eqBool
            refine wpAny_holding ?_
            rw [if_pos e]
            refine wpAny_bind (wpAny_rule ?_)
            refine wpAny_pure ?_
            rw [if_pos rfl]
            exact wpAny_pure (fin H' S' _ inv' ok' le' kT)
          · obtain ⟨mA, OA, _⟩ := ins_get inv'.hok hb1
            obtain ⟨od, J, _⟩ := OA.look
            obtain ⟨mB, OB, _⟩ := ins_get inv'.hok hHx
            obtain ⟨od2, J2, _⟩ := OB.look
            obtain ⟨m, fr⟩ := inv'.fr
            have up : UpF X.K sp [.ref b, .ref xa] H' (fun v H2 => ∃ c, v = .bl c ∧ ∃ S2, Le S' H' S2 H2 ∧ Ok X.K Z S2 H2 ∧ if c = true then R (.bl true) S2 else inOwnL C sp (.ins C gx) (fun b S' => R (.bl b) S') RE ts1 S2) E := ⟨Z, [y1, .ins C gx], S', _, RE, .cons ry1 (.cons rx' .nil), ok', kS, fun t S2 v H2 kt le2 ok2 rep => by
              obtain ⟨c, rfl, kt⟩ := kt
              cases rep
              exact ⟨c, rfl, S2, le2, ok2, kt⟩, xo.le le'⟩
            have vv : Vals [V.ref b, V.ref xa] [Value.ref b, Value.ref xa] := .cons rfl (.cons rfl .nil)
            have hl : ([Value.ref b, Value.ref xa] ++ []).length = ps.length := vv.length.symm.trans (F.fn.len _ _ _ _ up)
            refine GQ.eqBool_refG same ?_
            refine PySem.W.cmp_K (op := .Eq) (tb := .ref C) (by have := hr.in1.un; omega) fr inv'.ok.mod.kin J J2.type (by simp [PySem.W.notFirst]) O.eq O.fn ?_
            refine wpAny_call (codeAny_mono (F.fn.go X.A.in1 X.stack s' H' ⟨[.ref b, .ref xa], []⟩ ([Value.ref b, Value.ref xa] ++ []) [V.ref b, V.ref xa] _ E (by first | exact gds | simpa [Around.in1] using gds) hr.in1 inv'.env0.in1 (hb s' [.ref b, .ref xa] inv'.kIn hl) (by rw [List.append_nil]; exact vv) up) fun r s2 got => ?_)
            cases r with
            | error er => exact hx pins sl H' s' er s2 inv' got
            | ok fl =>
              cases fl with
              | ret t =>
                obtain ⟨v, H2, I3, rz, c, rfl, S2, l2, o2, q⟩ := inv'.after got
                cases rz
                refine ⟨c, rfl, ?_⟩
                cases c with
                | true => exact wpAny_pure (fin H2 S2 _ I3 o2 (le'.trans l2) q)
                | false => exact ⟨H2, S2, vs1, ts1, I3, o2, le'.trans l2, e2, rs1.le l2, rx'.le l2, q⟩
              | next => exact got.elim
              | brk => exact got.elim
              | cont => exact got.elim
    · rintro s' ⟨H', S', vs', ts', inv', ok', le', rv', rs', rx', kk'⟩
      cases rv'
      cases rs'
      exact wpAny_pure ⟨.bl false, H', inv', rfl, po _ _ _ _ kk' le' ok' (.bl false)⟩
end

section
variable {X : Cx} {E : XK} {a b c : Expr} {pos : Pos} {t : TRA}
/-! a, b, c = .. -/
def sPar3 (i j l : Nat) (t : TRA) : TRS := fun D σ S => t σ S (fun ts S1 => ∃ x y z, ts = [x, y, z] ∧ D.nx (((σ.set i (some x)).set j (some y)).set l (some z)) S1) D.ex
theorem ss_par3 {i j l : Nat} {x y z : Str} {px py pz pt : Pos} {kt k2 pt2} (hc : X.calm = true) (hN : X.N.Nodup) (hi : X.N[i]? = some x) (hj : X.N[j]? = some y) (hl : X.N[l]? = some z) (hij : i ≠ j) (hil : i ≠ l) (hjl : j ≠ l)
    (hx : X.env.scope.names.lookup x = some .local) (hy : X.env.scope.names.lookup y = some .local) (hz : X.env.scope.names.lookup z = some .local) (ha : AT X E [a, b, c] t)
    (hw : swappedStores [.Tuple [.Name x px, .Name y py, .Name z pz] kt pt] (.Tuple [a, b, c] k2 pt2) X.env = pure (some [x, y, z]))
    (hs : swapsWithSole [.Tuple [.Name x px, .Name y py, .Name z pz] kt pt] (.Tuple [a, b, c] k2 pt2) pos.line X.env = pure false := by rfl) :
    SS X E (.Assign [.Tuple [.Name x px, .Name y py, .Name z pz] kt pt] (.Tuple [a, b, c] k2 pt2) pos) (sPar3 i j l t) :=
  ⟨ps_weak (ps_par3 hc hN hi hj hl hij hil hjl hx hy hz ha.pa hw hs) fun D sl H ⟨⟨Z, σ, S, DT, fr, ok, w, eo, xo⟩⟩ =>
    ⟨_, σ, S, _, DT.ex, fr, ok, w, fun xs S1 vs H1 k le ok1 rep => by
      obtain ⟨x, y, z, rfl, k⟩ := k
      cases rep with
      | cons r1 rr =>
        cases rr with
        | cons r2 rr =>
          cases rr with
          | cons r3 rr =>
            cases rr
            exact ⟨_, _, _, rfl, eo.nx _ S1 _ H1 k le ok1 ((((fr.le le).set i r1).set j r2).set l r3)⟩, xo⟩⟩
end

/-! ### f-strings of texts and ints -/
def kFmt : T → Store → (T → Store → Prop) → Prop := fun x S R => match x with
  | .str y => y.length ≤ sizeLine ∧ R (.str y) S
  | .int i => i.natAbs.log2 < 1920 ∧ R (.str (toString i)) S
  | _ => False
def rFmt (ra : TR) : TR := fun σ S R RE => ra σ S (fun x S1 => kFmt x S1 R) RE
section
variable {X : Cx} {E : XK} {e v1 v2 : Expr} {rest : List Expr} {pos : Pos} {ra : TR}
theorem et_fmt (ha : ET X E e ra) : ET X E (.FormattedValue e (-1) none pos) (rFmt ra) :=
  ⟨pe_weak (pe_fmt ha.pe) fun sl H Q ⟨⟨Z, σ, S, R, RE, fr, ok, w, po, xo⟩⟩ => ⟨Z, σ, S, _, RE, fr, ok, w, fun x S1 v H1 k le ok1 rep => by
    replace k : kFmt x S1 R := k
    unfold kFmt at k
    split at k
    · cases rep
      exact .inl ⟨_, rfl, k.1, po _ _ _ _ k.2 le ok1 (.str _)⟩
    · cases rep
      exact .inr ⟨_, rfl, k.1, po _ _ _ _ k.2 le ok1 (.str _)⟩
    · exact k.elim, xo⟩⟩
inductive EJ (X : Cx) (E : XK) : List Expr → List TR → Prop where
  | nil : EJ X E [] []
  | cons {e : Expr} {t : TR} {es : List Expr} {ts : List TR} (h : ET X E e t) (r : EJ X E es ts) : EJ X E (e :: es) (t :: ts)
def rJs : List TR → Str → TR
  | [], acc => fun _ S R _ => R (.str acc) S
  | r :: rs, acc => fun σ S R RE => r σ S (fun x S1 => ∃ y : Str, x = .str y ∧ (acc ++ y).length ≤ sizeLine ∧ rJs rs (acc ++ y) σ S1 R RE) RE
theorem EJ.pj {es : List Expr} {ts : List TR} (h : EJ X E es ts) : PJ X es (ts.map fun r => UpE X.K E r) := by
  induction h with
  | nil => exact .nil
  | cons h _ ih => exact .cons h.pe ih
theorem js_up {K : PySem.W.Frag} : ∀ {ts : List TR} {acc : Str} {Z : Addr → Prop} {σ : Fm} {S : Store} {R : T → Store → Prop} {RE : XT} {sl : L2.St} {H : Hp} {Q : VK}, FrR K Z S H sl σ → Ok K Z S H → rJs ts acc σ S R RE → PO K Z S H R Q → XOk K Z S H RE E →
    tJs (ts.map fun r => UpE K E r) acc sl H (fun out H1 => Q (.str out) H1)
  | [], acc, Z, σ, S, R, RE, sl, H, Q, fr, ok, w, po, xo => po _ _ _ _ w .refl ok (.str _)
  | r :: rs, acc, Z, σ, S, R, RE, sl, H, Q, fr, ok, w, po, xo => ⟨Z, σ, S, _, RE, fr, ok, w, fun x S1 v H1 k le ok1 rep => by
    obtain ⟨y, rfl, hy, k⟩ := k
    cases rep
    exact ⟨y, rfl, hy, js_up (fr.le le) ok1 k (po.le le) (xo.le le)⟩, xo⟩
theorem et_joined {ts : List TR} (h : EJ X E (v1 :: v2 :: rest) ts) : ET X E (.JoinedStr (v1 :: v2 :: rest) pos) (rJs ts Str.empty) :=
  ⟨pe_weak (pe_joined h.pj) fun sl H Q ⟨⟨Z, σ, S, R, RE, fr, ok, w, po, xo⟩⟩ => js_up fr ok w po xo⟩
theorem et_joined1 (ha : ET X E e ra) : ET X E (.JoinedStr [e] pos) ra := ⟨pe_joined1 ha.pe⟩
end
/-! ### str(x), repr(x) of an instance whose class has the def -/
structure OwnDef (K : PySem.W.Frag) (C : Addr) (m : Str) (f : Addr) : Prop where
  at_ : PySem.W.findIn K (.ref C) m = some (some (.ref f))
  fn : PySem.W.isFn K (.ref f) = true
structure StrD (X : Cx) (m : Str) (D : Addr → SpT → Prop) : Prop where
  at_ : ∀ C sp, D C sp → ∃ k f fd ps, OwnDef X.K C m f ∧ FnT X.prog X.w X.K X.mg X.base k f fd ps sp ∧ Room (k + 2) X.A ∧ Binds X.K fd ps []
theorem StrD.one {X : Cx} {m : Str} {C f : Addr} {k : Nat} {fd : FuncData} {ps : List Str} {sp : SpT} (o : OwnDef X.K C m f) (F : FnT X.prog X.w X.K X.mg X.base k f fd ps sp) (hr : Room (k + 2) X.A) (hb : Binds X.K fd ps []) : StrD X m (one C sp) := ⟨fun C' sp' ⟨e1, e2⟩ => by
  subst e1 e2
  exact ⟨k, f, fd, ps, o, F, hr, hb⟩⟩
theorem StrD.or {X : Cx} {m : Str} {D1 D2 : Addr → SpT → Prop} (h1 : StrD X m D1) (h2 : StrD X m D2) : StrD X m (fun C sp => D1 C sp ∨ D2 C sp) := ⟨fun C sp d => d.elim (h1.at_ C sp) (h2.at_ C sp)⟩
def RStrD (K : PySem.W.Frag) (D : Addr → SpT → Prop) : List V → Hp → VK → Prop := fun vs H Q => ∃ C sp a dx fs, vs = [.ref a] ∧ H a = some (.ins C dx fs) ∧ D C sp ∧ UpF K sp [.ref a] H (fun v H' => (∃ y, v = .str y) ∧ Q v H') EF
def kStrOwn (D : Addr → SpT → Prop) : KA := fun xs S R _ => ∃ x C gs sp, xs = [x] ∧ insOf x S = some (C, gs) ∧ D C sp ∧ sp [x] S (fun z S' => (∃ y, z = .str y) ∧ R z S') XF
theorem cv_strOwn {K : PySem.W.Frag} {E : XK} {D : Addr → SpT → Prop} : ConvA K E (kStrOwn D) (RStrD K D) := by
  intro Z xs S vs H R RE Q ok rs ⟨x, C, gs, sp, e, hi, d, k⟩ po xo
  subst e
  cases rs with
  | cons r rr =>
    cases rr
    obtain ⟨a, dx, fs, rfl, hH, _⟩ := ins_rep ok r hi
    refine ⟨C, sp, a, dx, fs, rfl, hH, d, Z, [x], S, _, XF, .cons r .nil, ok, k, fun z S' v H' kz le ok' rep => ?_, .f⟩
    obtain ⟨⟨y, rfl⟩, kz⟩ := kz
    cases rep
    exact ⟨⟨y, rfl⟩, po _ _ _ _ kz le ok' (.str _)⟩
section
variable {X : Cx} {D : Addr → SpT → Prop}
theorem runOwnT {pins : List (Addr × Obj)} {sl : L2.St} {H : Hp} {s : Shared} {A : Around} {Q : VK} {R : Value → Shared → Prop} {x f : Addr} {k : Nat} {fd : FuncData} {ps : List Str} {sp : SpT} (F : FnT X.prog X.w X.K X.mg X.base k f fd ps sp) (hb : Binds X.K fd ps []) (inv : Inv X pins sl H s) (gds : A.guards = some []) (hr : Room k A) (env : Env0 X.prog X.w X.K X.mg X.base A X.stack s H)
    (h : UpF X.K sp [.ref x] H (fun v H' => (∃ y, v = .str y) ∧ Q v H') EF) (fin : ∀ y t s' , EP X pins sl Q (.str y t) s' → R (.str y t) s') {E : Value → Shared → Prop} : wpAny (model X.prog X.w) A (call (.ref f) [.ref x]) R E s := by
  have hl : ([Value.ref x] ++ []).length = ps.length := by
    rw [← F.fn.len _ _ _ _ h]
    rfl
  refine wpAny_call (codeAny_mono (F.fn.go A X.stack s H ⟨[.ref x], []⟩ ([Value.ref x] ++ []) [.ref x] _ _ gds hr env (hb s [.ref x] inv.kIn hl) (.cons rfl .nil) h) fun r s' hq => ?_)
  cases r with
  | error e => exact (passN (X := X.nox) pins sl H s e s' (inv.wish _) hq).elim
  | ok fl =>
    cases fl with
    | ret u =>
      obtain ⟨v, H', I3, rv, ⟨y, ey⟩, q3⟩ := inv.after hq
      subst ey
      obtain ⟨t, rfl⟩ := (show ∃ t, u = Value.str y t from rv)
      exact fin y t s' ⟨.str y, H', I3, ⟨t, rfl⟩, q3⟩
    | next => exact False.elim hq
    | brk => exact False.elim hq
    | cont => exact False.elim hq
theorem strOwnT (S : StrD X "__str__" D) (gds : X.A.guards = some []) : CallR X (.type "str") (RStrD X.K D) := by
  intro pins s sl H xs us Q inv vals want
  obtain ⟨C, sp, x, dx, fs, rfl, hx, d, h⟩ := want
  obtain ⟨k, f, fd, ps, O, F, hr, hb⟩ := S.at_ C sp d
  obtain ⟨u, rfl, ru⟩ := vals1 vals
  obtain rfl : u = Value.ref x := ru
  obtain ⟨mA, OA, _⟩ := ins_get inv.hok hx
  obtain ⟨od, J, _⟩ := OA.look
  exact PySem.W.kso_call hr.in1.in1.units0 inv.kIn J O.at_ O.fn (runOwnT (R := PySem.W.StrBack (EP X pins sl Q)) F hb inv (by first | exact gds | simpa [Around.in1] using gds) hr.in1.in1 inv.env0.in1.in1 h fun y t s' q => q)
theorem reprOwnT (S : StrD X "__repr__" D) (gds : X.A.guards = some []) : CallR X (.builtin "repr") (RStrD X.K D) := by
  intro pins s sl H xs us Q inv vals want
  obtain ⟨C, sp, x, dx, fs, rfl, hx, d, h⟩ := want
  obtain ⟨k, f, fd, ps, O, F, hr, hb⟩ := S.at_ C sp d
  obtain ⟨u, rfl, ru⟩ := vals1 vals
  obtain rfl : u = Value.ref x := ru
  obtain ⟨mA, OA, _⟩ := ins_get inv.hok hx
  obtain ⟨od, J, _⟩ := OA.look
  obtain ⟨m, fr⟩ := inv.fr
  have hr1 : Room (k + 1) X.A := hr.mono (by omega)
  exact PySem.W.repr_K hr1.in1.units0 fr inv.ok.mod.kin J O.at_ O.fn (runOwnT (R := PySem.W.StrBack (EP X pins sl Q)) F hb inv (by first | exact gds | simpa [Around.in1] using gds) hr1.in1 inv.env0.in1 h fun y t s' q => q)
end
/-! ### [..].index(x), flat things -/
def idxT (y : T) : List T → Option Nat
  | [] => none
  | z :: l => if eqT z y = true then some 0 else (idxT y l).map (· + 1)
theorem idx_rep {K : PySem.W.Frag} {Z : Addr → Prop} {S : Store} {H : Hp} {v : V} {y : T} (ry : Rep K Z S H v y) (fy : flatT y = true) : ∀ {vs : List V} {l : List T} {j : Nat}, Reps K Z S H vs l → l.all flatT = true → idxT y l = some j →
    vs.all flatV = true ∧ ∃ z, vs[j]? = some z ∧ eqV z v = true ∧ ∀ (m : Nat) (z' : V), m < j → vs[m]? = some z' → eqV z' v = false
  | _, _, j, .nil, _, e => by cases e
  | _, _, j, .cons (v := u) (t := z) (vs := vs) (ts := l) r rr, f, e => by
    rw [List.all_cons, Bool.and_eq_true] at f
    have q := eq_rep r ry f.1 fy
    have fl : ∀ {vs : List V} {l : List T}, Reps K Z S H vs l → l.all flatT = true → vs.all flatV = true := fun {vs l} => by
      intro r
      induction l generalizing vs with
      | nil => cases r; intro _; rfl
      | cons a l ih =>
        cases r with
        | cons r1 r2 =>
          intro h
          rw [List.all_cons, Bool.and_eq_true] at h
          rw [List.all_cons, flat_rep r1 h.1, ih r2 h.2]; rfl
    refine ⟨by rw [List.all_cons, flat_rep r f.1, fl rr f.2]; rfl, ?_⟩
    unfold idxT at e
    by_cases c : eqT z y = true
    · rw [if_pos c] at e
      cases e
      exact ⟨u, rfl, by rw [q]; exact c, fun m z' h => absurd h (Nat.not_lt_zero m)⟩
    · rw [if_neg c] at e
      obtain ⟨i, ei, rfl⟩ := Option.map_eq_some_iff.mp e
      obtain ⟨_, w, hw, ew, no⟩ := idx_rep ry fy rr f.2 ei
      refine ⟨w, hw, ew, fun m z' hm hz => ?_⟩
      cases m with
      | zero =>
        cases hz
        rw [q]
        exact Bool.eq_false_iff.mpr c
      | succ m => exact no m z' (by omega) hz
def rLidx (ra : TR) (t : TRA) : TR := fun σ S R RE => ra σ S (fun x S1 => ∃ l, x = .lst l ∧ t σ S1 (fun xs S2 => ∃ y j, xs = [y] ∧ flatT y = true ∧ l.all flatT = true ∧ idxT y l = some j ∧ R (.int (j : Nat)) S2) RE) RE
section
variable {X : Cx} {E : XK}
theorem et_lidx {apos cpos : Pos} {o e : Expr} {es : List Expr} {ra : TR} {t : TRA} (ho : ET X E o ra) (ha : AT X E (e :: es) t)
    (hbase : attributeBase o "index" X.env (eval o X.env) = eval o X.env := by rfl)
    (hfew : ((backTo cpos (starEach (e :: es) X.env)).all (fun x => !x.1) && (backToKw cpos (keywordEach [] X.env)).all (fun x => x.1.isSome)
      && decide ((e :: es).length + ([] : List Keyword).length + (if ([] : List Keyword).isEmpty then 0 else 1) < 30)) = true := by rfl)
    (hline : (apos.endLine == cpos.line) = true := by rfl) (hs : starEach (e :: es) X.env = (false, eval e X.env) :: starEach es X.env := by rfl) (hplain : (backTo cpos (starEach es X.env)).any (·.1) = false := by rfl) :
    ET X E (.Call (.Attribute o "index" apos) (e :: es) [] cpos) (rLidx ra t) :=
  ⟨pe_weak (pe_bm PySem.F.plainAttrs_list PySem.F.slot_list_index PySem.F.type_list_index mt_index ho.pe ha.pa hbase hfew hline hs hplain) fun sl H Q ⟨⟨Z, σ, S, R, RE, fr, ok, w, po, xo⟩⟩ => by
    refine ⟨Z, σ, S, _, RE, fr, ok, w, fun x S1 v H1 k1 le1 ok1 rep => ?_, xo⟩
    obtain ⟨l, rfl, k1⟩ := k1
    cases rep with
    | lst h1 r1 =>
      refine ⟨.inl ⟨rfl, _, h1.sq⟩, Z, σ, S1, _, RE, fr.le le1, ok1, k1, fun xs S2 ws H2 k2 le2 ok2 rs => ?_, xo.le le1⟩
      obtain ⟨y, j, rfl, fy, fl, ij, k2⟩ := k2
      cases rs with
      | @cons vy _ _ _ ry rr =>
        cases rr
        obtain ⟨fv, z, hz, ez, no⟩ := idx_rep ry fy (r1.le le2) fl ij
        exact ⟨_, _, vy, j, z, rfl, rfl, (h1.le le2).sq, flat_rep ry fy, fv, hz, ez, no, (po.le le1).le le2 _ _ _ _ k2 .refl ok2 (.int _)⟩⟩
end
/-! a + b, a new list that is to change -/
def kAddC : KB := fun x y S R _ => match x, y with
  | .lst a, .lst b => a.length + b.length ≤ sizeLine ∧ ∀ p, S p = none → R (.cell p) (S.put p (.lst (a ++ b)))
  | _, _ => False
theorem cv_addC {X : Cx} {E : XK} : Conv X.K E kAddC rCat := by
  intro Z x y S v u H R RE Q ok rx ry kk po xo
  unfold kAddC at kk
  split at kk
  · cases rx with
    | lst h1 r1 =>
      cases ry with
      | lst h2 r2 =>
        refine ⟨_, _, _, _, rfl, rfl, h1.1, h2.1, by rw [r1.length, r2.length]; exact kk.1, fun p hp => ?_⟩
        have l3 : ∀ (o : HO) (c : Cell), Le S H (S.put p c) (upd H p o) := fun o c => le_newc hp
        exact po _ _ _ _ (kk.2 p (ok.free hp)) (l3 _ _) (ok.put (l3 _ _) (ok.nz hp) ⟨_, upd_same, (r1.append r2).le (l3 _ _)⟩) (.cell p)
  · exact kk.elim

/-! the text -/
/-! numbers -/
def gcdI (a b : Int) : Int := (Int.gcd a b : Int)
theorem gcdI_step {a b : Int} (hb : 0 < b) : gcdI b (a % b) = gcdI a b := by
  unfold gcdI
  rw [Int.gcd_comm a b, Int.emod_def, Int.mul_comm b, Int.gcd_sub_mul_right_right]
theorem gcdI_zero {a : Int} (ha : 0 < a) : gcdI a 0 = a := by
  unfold gcdI
  rw [Int.gcd_zero_right]
  omega
theorem gcdI_pos {a b : Int} (ha : 0 < a) : 0 < gcdI a b := by
  unfold gcdI
  have := Int.gcd_pos_of_ne_zero_left b (show a ≠ 0 by omega)
  omega
theorem gcdI_le {a b : Int} (ha : 0 < a) : gcdI a b ≤ a := by
  unfold gcdI
  exact Int.le_of_dvd ha (Int.gcd_dvd_left ..)
theorem gcdI_comm (a b : Int) : gcdI a b = gcdI b a := by unfold gcdI; rw [Int.gcd_comm]
theorem gcdI_one {a : Int} : gcdI a 1 = 1 := by
  unfold gcdI
  rw [Int.gcd_one_right]
  rfl
theorem emod_lt {a b : Int} (hb : 0 < b) : 0 ≤ a % b ∧ a % b < b := ⟨Int.emod_nonneg _ (by omega), Int.emod_lt_of_pos _ hb⟩
/-- within n bits, above 0 -/
structure Pn (n : Nat) (a : Int) : Prop where
  pos : 0 < a
  lt : a.natAbs < 2 ^ n
theorem Pn.up {n m : Nat} {a : Int} (h : Pn n a) (le : n ≤ m) : Pn m a := ⟨h.pos, Nat.lt_of_lt_of_le h.lt (Nat.pow_le_pow_right (by decide) le)⟩
theorem Pn.of {n : Nat} {a : Int} (h : 0 < a) (l : a < 2 ^ n) : Pn n a := ⟨h, by
  have e : ((2 ^ n : Nat) : Int) = (2 : Int) ^ n := by norm_cast
  omega⟩
theorem Pn.le {n : Nat} {a b : Int} (h : Pn n b) (p : 0 < a) (l : a ≤ b) : Pn n a := ⟨p, wide_le (by omega) l h.lt⟩
theorem Pn.mul {n m : Nat} {a b : Int} (h : Pn n a) (k : Pn m b) : Pn (n + m) (a * b) := ⟨Int.mul_pos h.pos k.pos, wide_lt h.lt k.lt⟩
theorem Pn.mulW {n m : Nat} {a b : Int} (h : Pn n a) (k : Pn m b) (l : n + m ≤ 1000000 := by decide) (hn : 0 < n := by decide) (hm : 0 < m := by decide) : IntMulOk a b := (wide_mul h.lt k.lt hn hm l).ok
theorem mulW_of {a b : Int} {n m : Nat} (h : a.natAbs < 2 ^ n) (k : b.natAbs < 2 ^ m) (l : n + m ≤ 1000000 := by decide) (hn : 0 < n := by decide) (hm : 0 < m := by decide) : IntMulOk a b := (wide_mul h k hn hm l).ok
/-- the left one within 64 bits -/
theorem mulL {a b : Int} (h : -(2 ^ 64) < a ∧ a < 2 ^ 64) : IntMulOk a b := CMul.ok (.inl h)
theorem mulR {a b : Int} (h : -(2 ^ 64) < b ∧ b < 2 ^ 64) : IntMulOk a b := CMul.ok (.inr h)
theorem Pn.divW {n : Nat} {b : Int} (h : Pn n b) (x : Int) (l : n ≤ 9000 := by decide) (hn : 0 < n := by decide) : CDivP x b := ⟨h.pos, PyProof.noPylong_of_log2 (wide_div (i := x) h.pos h.lt hn l).2⟩
theorem div_small {b : Int} (h : 0 < b) (l : b < 2 ^ 64) (x : Int) : CDivP x b := (Pn.of (n := 64) h l).divW x
theorem Pn.gcd {n : Nat} {a b : Int} (h : Pn n a) : Pn n (gcdI a b) := h.le (gcdI_pos h.pos) (gcdI_le h.pos)
/-! lowest terms -/
def lwA (a b : Int) : Int := a / gcdI a b
def lwB (a b : Int) : Int := b / gcdI a b
theorem Pn.lwA {n : Nat} {a b : Int} (h : Pn n a) : Pn n (lwA a b) :=
  h.le (Int.ediv_pos_of_pos_of_dvd h.pos (by have := gcdI_pos (b := b) h.pos; omega) (Int.gcd_dvd_left ..)) (Int.ediv_le_self _ (by have := h.pos; omega))
theorem Pn.lwB {n : Nat} {a b : Int} (ha : 0 < a) (h : Pn n b) : Pn n (lwB a b) :=
  h.le (Int.ediv_pos_of_pos_of_dvd h.pos (by have := gcdI_pos (b := b) ha; omega) (Int.gcd_dvd_right ..)) (Int.ediv_le_self _ (by have := h.pos; omega))
theorem gcd_low {a b : Int} (ha : 0 < a) : gcdI (lwA a b) (lwB a b) = 1 := by
  have h := gcdI_pos (b := b) ha
  unfold lwA lwB
  unfold gcdI at h ⊢
  rw [Int.gcd_ediv_gcd_ediv_gcd (by omega)]
  rfl
theorem lwA_one {a : Int} : lwA a 1 = a := by unfold lwA; rw [gcdI_one, Int.ediv_one]
theorem lwB_one {a : Int} : lwB a 1 = 1 := by unfold lwB; rw [gcdI_one]; rfl
/-- a fraction in lowest terms, both parts within n bits -/
structure Fr (n : Nat) (x y : Int) : Prop where
  a : Pn n x
  b : Pn n y
  g : gcdI x y = 1
theorem Fr.up {n m : Nat} {a b : Int} (h : Fr n a b) (le : n ≤ m) : Fr m a b := ⟨h.a.up le, h.b.up le, h.g⟩
theorem Fr.low {n : Nat} {a b : Int} (ha : Pn n a) (hb : Pn n b) : Fr n (lwA a b) (lwB a b) := ⟨ha.lwA, hb.lwB ha.pos, gcd_low ha.pos⟩
theorem Fr.lwA {n : Nat} {a b : Int} (h : Fr n a b) : lwA a b = a := by unfold Gd.lwA; rw [h.g, Int.ediv_one]
theorem Fr.lwB {n : Nat} {a b : Int} (h : Fr n a b) : lwB a b = b := by unfold Gd.lwB; rw [h.g, Int.ediv_one]
/-- a tree of it -/
def frT (a b : Int) : T := .tup [.int a, .int b]
/-! while, by an invariant and a measure -/
theorem while_inv {tc : TRB} {rb : TRS} {D : EnT} {σ : Fm} {S : Store} (I : Fm → Store → Prop) (μ : Fm → Store → Nat) (h0 : I σ S)
    (turn : ∀ σ S, I σ S → ∀ N : Fm → Store → Prop, (∀ σ' S', I σ' S' → μ σ' S' < μ σ S → N σ' S') → tc σ S (fun c S1 => if c = true then rb { D with nx := N, ct := N, bk := D.nx } σ S1 else D.nx σ S1) D.ex) : sWhile tc rb D σ S :=
  ⟨fun m σ S => I σ S ∧ μ σ S = m, ⟨_, h0, rfl⟩, fun m σ S ⟨i, e⟩ => turn σ S i _ fun σ' S' i' l => ⟨μ σ' S', by omega, i', rfl⟩⟩
theorem ite_d {c : Prop} [Decidable c] {A B : Prop} (h : c → A) (h' : ¬ c → B) : if (decide c) = true then A else B := by
  by_cases e : c
  · rw [if_pos (decide_eq_true e)]; exact h e
  · rw [if_neg (by simp [e])]; exact h' e
/-- one statement, then the rest -/
theorem sSeq_i {ra rb : TRS} {D : EnT} {σ : Fm} {S : Store} (h : ∀ N : Fm → Store → Prop, (∀ σ' S', rb D σ' S' → N σ' S') → ra { D with nx := N } σ S) : sSeq ra rb D σ S := h _ fun _ _ q => q
/-! of what kind a value is -/
def kindsT : List String := ["int", "bool", "str", "tuple", "list"]
def isK : T → String → Bool
  | .int _, n => n == "int"
  | .bl _, n => n == "bool" || n == "int"
  | .str _, n => n == "str"
  | .tup _, n => n == "tuple"
  | .lst _, n => n == "list"
  | .scr _, n => n == "list"
  | .cell _, n => n == "list"
  | _, _ => false
/-- a value of which the kind is known -/
def ValT (K : PySem.W.Frag) (S : Store) (x : T) : Prop := ∃ t, TyT K S x t ∧ ∀ n ∈ kindsT, PySem.W.kitOne K t (.type n) = some (isK x n)
theorem kind_of {K : PySem.W.Frag} {S : Store} {x : T} {ty : String} (h : TyT K S x (.type ty)) (e : kindsT.all (fun n => kitB ty n == some (isK x n)) = true) : ValT K S x :=
  ⟨_, h, fun n m => kit_ty (by have := List.all_eq_true.mp e n m; simpa using this)⟩
section
variable {K : PySem.W.Frag} {S : Store}
theorem ValT.non : ValT K S .non := kind_of .non (by decide +kernel)
theorem ValT.bl {b : Bool} : ValT K S (.bl b) := kind_of (.bl b) (by show (kindsT.all fun n => kitB "bool" n == some (isK (.bl true) n)) = true; decide +kernel)
theorem ValT.int {i : Int} : ValT K S (.int i) := kind_of (.int i) (by show (kindsT.all fun n => kitB "int" n == some (isK (.int 0) n)) = true; decide +kernel)
theorem ValT.str {z : Str} : ValT K S (.str z) := kind_of (.str z) (by show (kindsT.all fun n => kitB "str" n == some (isK (.str Str.empty) n)) = true; decide +kernel)
theorem ValT.tup {l : List T} : ValT K S (.tup l) := kind_of (.tup l) (by show (kindsT.all fun n => kitB "tuple" n == some (isK (.tup []) n)) = true; decide +kernel)
theorem ValT.lst {l : List T} : ValT K S (.lst l) := kind_of (.lst l) (by show (kindsT.all fun n => kitB "list" n == some (isK (.lst []) n)) = true; decide +kernel)
theorem ValT.is {x : T} {n : String} (h : ValT K S x) (m : n ∈ kindsT) {R : T → Store → Prop} {RE : XT} (q : R (.bl (isK x n)) S) : kIsi K [x, .ty n] S R RE := by
  obtain ⟨t, ty, k⟩ := h
  exact ⟨x, .ty n, t, .type n, _, rfl, .ty n, ty, k n m, q⟩
end
def isInt : T → Bool
  | .int _ => true
  | _ => false
def isPos : T → Bool
  | .int i => decide (0 < i)
  | _ => false
theorem sc_is_integer : FnScope ["value"] ["value"] (defScope s_is_integer) := ⟨rfl, rfl, rfl, by decide +kernel, rfl, by decide +kernel, by decide +kernel⟩
def sp_is_integer (K : PySem.W.Frag) : SpT := fun ts S R _ => match ts with
  | [x] => ValT K S x ∧ R (.bl (isInt x)) S
  | _ => False
theorem ok_is_integer {P : Program} {w : World} {K : PySem.W.Frag} {mg : Str → Option Value} {base : Heap} {f : Addr} {fd : FuncData}   (F : Fun K "is_integer" "is_integer" s_is_integer f fd)
    (n_isinstance : mg "isinstance" = none)
    (n_bool : mg "bool" = none)
    (n_int : mg "int" = none)
    : FnT P w K mg base 1 f fd ["value"] (sp_is_integer K) := by
  refine okT F sc_is_integer (by intro ts S R RE h; unfold sp_is_integer at h; split at h <;> first | rfl | exact h.elim) (fun cdv A out s H E hg hr => (bs_one (ss_ret (et_and (et_blt call_isi (cv_isi (K := K)) (by rfl) n_isinstance PyProof.Rows.boot_isinstance (at_cons (et_var (pv 0)) (at_cons (et_blty (by rfl) n_int PyProof.Rows.boot_int) at_nil))) (et_one (et_not (et_blt call_isi (cv_isi (K := K)) (by rfl) n_isinstance PyProof.Rows.boot_isinstance (at_cons (et_var (pv 0)) (at_cons (et_blty (by rfl) n_bool PyProof.Rows.boot_bool) at_nil))))))))) ?_
  intro ts S R RE h
  unfold sp_is_integer at h
  split at h
  · rename_i x
    obtain ⟨hv, q⟩ := h
    simp only [sSeq, sAsg, sDrop, sRet, sRetN, sIf, sNext, sPar, sPar3, sFor, sRaise, sFldT, sNo, rNo, rVar, rFrz, rC, rBin, rTest, bAnd, bOr, bNot, bIf, vAnd, vOr, vNot, rIf, rNeg, aNil, aCons, rTup, rLst, rLstC, rArgs, gNameT, gNilT, gConsT, gTupT, gSubT, iSeq, iRng1T, iRng2T, rLc, rCall, rCallN, rCallS, rFld, rCon, rMake, rMakeN, rMakeP, rMeth, rMethK, rProp, rClsFn, rOpOwn, rSl, oNone, oSome, rFmt, kFmt, rJs, rLidx, kStrOwn, kAddC, rMut, kAdd, kI2, kI2n, kMul, kIx, kIn, kLen, kU, kA2, kDm, kStrI, kAll, kSl, kAppend, kExtend, kTuple, kList, lenT, seqOf, bYes, startT, one, pickG, selG, insOf, putT, flatT, Bool.false_xor, Bool.true_xor, List.all_cons, List.all_nil, Bool.and_self, T.int.injEq, T.bl.injEq, T.str.injEq, T.lst.injEq, T.tup.injEq, T.cell.injEq, T.ins.injEq, Cell.lst.injEq, Cell.ins.injEq, Prod.mk.injEq, List.cons.injEq, Option.some.injEq, List.map_cons, List.map_nil, List.length_cons, List.length_nil, List.cons_append, List.nil_append, List.append_nil, List.getElem?_cons_zero, List.getElem?_cons_succ, List.set_cons_zero, List.set_cons_succ, List.replicate_succ, List.replicate_zero, exists_eq_left, exists_eq_left', exists_and_left, and_true, true_and, and_self, and_assoc, Nat.sub_self, Nat.reduceAdd, Nat.reduceSub, Nat.zero_add, put_put, put_same, reduceIte, Bool.false_eq_true, Bool.true_eq_false, Bool.not_true, Bool.not_false, at_0, at_1, at_2, at_3, at_4, at_5, at_6, at_7, ix_1_0, ix_2_0, ix_2_1, ix_3_0, ix_3_1, ix_3_2, ix_4_0, ix_4_1, ix_4_2, ix_4_3]
    refine hv.is (n := "int") (by decide) ?_
    refine ⟨_, rfl, ?_⟩
    cases e : isK x "int" with
    | true =>
      rw [if_pos rfl]
      refine hv.is (n := "bool") (by decide) ?_
      refine ⟨_, rfl, ?_⟩
      have : (!isK x "bool") = isInt x := by cases x <;> first | rfl | (cases e; done)
      rw [this]
      exact q
    | false =>
      have : isInt x = false := by cases x <;> first | rfl | (cases e; done)
      rw [this] at q
      exact q
  · exact h.elim
theorem sc_is_positive : FnScope ["value"] ["value"] (defScope s_is_positive) := ⟨rfl, rfl, rfl, by decide +kernel, rfl, by decide +kernel, by decide +kernel⟩
def sp_is_positive (K : PySem.W.Frag) : SpT := fun ts S R _ => match ts with
  | [x] => ValT K S x ∧ R (.bl (isPos x)) S
  | _ => False
theorem ok_is_positive {P : Program} {w : World} {K : PySem.W.Frag} {mg : Str → Option Value} {base : Heap} {f : Addr} {fd : FuncData} {g_is_integer : Addr} {gd_is_integer : FuncData} (F : Fun K "is_positive" "is_positive" s_is_positive f fd)
    (G_is_integer : FnT P w K mg base 1 g_is_integer gd_is_integer ["value"] (sp_is_integer K))
    (m_is_integer : mg "is_integer" = some (.ref g_is_integer))
    (k_is_integer : PySem.W.keepIn K (.ref g_is_integer) = true)
    (b_is_integer : Binds K gd_is_integer ["value"] [])
    : FnT P w K mg base 2 f fd ["value"] (sp_is_positive K) := by
  refine okT F sc_is_positive (by intro ts S R RE h; unfold sp_is_positive at h; split at h <;> first | rfl | exact h.elim) (fun cdv A out s H E hg hr => (bs_one (ss_ret (et_and (et_callD G_is_integer hg (hr.mono (by decide)) (by rfl) m_is_integer k_is_integer (CallD.all b_is_integer) (passL2N (L2N.takes_of rfl rfl rfl rfl)) (at_cons (et_var (pv 0)) at_nil)) (et_one (et_cmp op_gt cv_B2n (et_var (pv 0)) et_int (nomark _))))))) ?_
  intro ts S R RE h
  unfold sp_is_positive at h
  split at h
  · rename_i x
    obtain ⟨hv, q⟩ := h
    simp only [sp_is_integer, sSeq, sAsg, sDrop, sRet, sRetN, sIf, sNext, sPar, sPar3, sFor, sRaise, sFldT, sNo, rNo, rVar, rFrz, rC, rBin, rTest, bAnd, bOr, bNot, bIf, vAnd, vOr, vNot, rIf, rNeg, aNil, aCons, rTup, rLst, rLstC, rArgs, gNameT, gNilT, gConsT, gTupT, gSubT, iSeq, iRng1T, iRng2T, rLc, rCall, rCallN, rCallS, rFld, rCon, rMake, rMakeN, rMakeP, rMeth, rMethK, rProp, rClsFn, rOpOwn, rSl, oNone, oSome, rFmt, kFmt, rJs, rLidx, kStrOwn, kAddC, rMut, kAdd, kI2, kI2n, kMul, kIx, kIn, kLen, kU, kA2, kDm, kStrI, kAll, kSl, kAppend, kExtend, kTuple, kList, lenT, seqOf, bYes, startT, one, pickG, selG, insOf, putT, flatT, Bool.false_xor, Bool.true_xor, List.all_cons, List.all_nil, Bool.and_self, T.int.injEq, T.bl.injEq, T.str.injEq, T.lst.injEq, T.tup.injEq, T.cell.injEq, T.ins.injEq, Cell.lst.injEq, Cell.ins.injEq, Prod.mk.injEq, List.cons.injEq, Option.some.injEq, List.map_cons, List.map_nil, List.length_cons, List.length_nil, List.cons_append, List.nil_append, List.append_nil, List.getElem?_cons_zero, List.getElem?_cons_succ, List.set_cons_zero, List.set_cons_succ, List.replicate_succ, List.replicate_zero, exists_eq_left, exists_eq_left', exists_and_left, and_true, true_and, and_self, and_assoc, Nat.sub_self, Nat.reduceAdd, Nat.reduceSub, Nat.zero_add, put_put, put_same, reduceIte, Bool.false_eq_true, Bool.true_eq_false, Bool.not_true, Bool.not_false, at_0, at_1, at_2, at_3, at_4, at_5, at_6, at_7, ix_1_0, ix_2_0, ix_2_1, ix_3_0, ix_3_1, ix_3_2, ix_4_0, ix_4_1, ix_4_2, ix_4_3]
    refine ⟨hv, ?_⟩
    cases x <;> first | exact q | (simp only [isInt, isPos, sSeq, sAsg, sDrop, sRet, sRetN, sIf, sNext, sPar, sPar3, sFor, sRaise, sFldT, sNo, rNo, rVar, rFrz, rC, rBin, rTest, bAnd, bOr, bNot, bIf, vAnd, vOr, vNot, rIf, rNeg, aNil, aCons, rTup, rLst, rLstC, rArgs, gNameT, gNilT, gConsT, gTupT, gSubT, iSeq, iRng1T, iRng2T, rLc, rCall, rCallN, rCallS, rFld, rCon, rMake, rMakeN, rMakeP, rMeth, rMethK, rProp, rClsFn, rOpOwn, rSl, oNone, oSome, rFmt, kFmt, rJs, rLidx, kStrOwn, kAddC, rMut, kAdd, kI2, kI2n, kMul, kIx, kIn, kLen, kU, kA2, kDm, kStrI, kAll, kSl, kAppend, kExtend, kTuple, kList, lenT, seqOf, bYes, startT, one, pickG, selG, insOf, putT, flatT, Bool.false_xor, Bool.true_xor, List.all_cons, List.all_nil, Bool.and_self, T.int.injEq, T.bl.injEq, T.str.injEq, T.lst.injEq, T.tup.injEq, T.cell.injEq, T.ins.injEq, Cell.lst.injEq, Cell.ins.injEq, Prod.mk.injEq, List.cons.injEq, Option.some.injEq, List.map_cons, List.map_nil, List.length_cons, List.length_nil, List.cons_append, List.nil_append, List.append_nil, List.getElem?_cons_zero, List.getElem?_cons_succ, List.set_cons_zero, List.set_cons_succ, List.replicate_succ, List.replicate_zero, exists_eq_left, exists_eq_left', exists_and_left, and_true, true_and, and_self, and_assoc, Nat.sub_self, Nat.reduceAdd, Nat.reduceSub, Nat.zero_add, put_put, put_same, reduceIte, Bool.false_eq_true, Bool.true_eq_false, Bool.not_true, Bool.not_false, at_0, at_1, at_2, at_3, at_4, at_5, at_6, at_7, ix_1_0, ix_2_0, ix_2_1, ix_3_0, ix_3_1, ix_3_2, ix_4_0, ix_4_1, ix_4_2, ix_4_3] at q ⊢; exact q)
  · exact h.elim
/-! the pool -/
def PoolT (S : Store) (p : Addr) : Prop := ∃ x d c : Int, S p = some (.lst [.int x, .int d, .int c]) ∧ 0 ≤ x ∧ x < 2147483137 ∧ 0 ≤ d
theorem cutT_ints (ns : List Int) (lo hi : Option Int) : ∃ ms : List Int, cutT (ns.map T.int) lo hi = ms.map T.int := by
  refine ⟨(ns.drop (HT.sIx (ns.map T.int).length 0 lo)).take (HT.sIx (ns.map T.int).length (ns.map T.int).length hi - HT.sIx (ns.map T.int).length 0 lo), ?_⟩
  unfold cutT
  rw [List.map_take, List.map_drop]
theorem at_ints {ns : List Int} {k : Int} (h0 : 0 ≤ k) (c : k < (ns.length : Int)) : ∃ z, atI (ns.map T.int) k = some (.int z) := by
  have hn : k.toNat < ns.length := by omega
  have := atI_nat (xs := ns.map T.int) (j := k.toNat) (v := .int ns[k.toNat]) (by rw [List.getElem?_map, List.getElem?_eq_getElem hn]; rfl)
  rw [show ((k.toNat : Nat) : Int) = k by omega] at this
  exact ⟨_, this⟩
/-- the pool at p goes on -/
def PS (S : Store) (p : Addr) (S' : Store) : Prop := ∃ x d c : Int, 0 ≤ x ∧ x < 2147483137 ∧ 0 ≤ d ∧ S' = S.put p (.lst [.int x, .int d, .int c])
theorem PS.pool {S S' : Store} {p : Addr} (h : PS S p S') : PoolT S' p := by
  obtain ⟨x, d, c, h1, h2, h3, rfl⟩ := h
  exact ⟨x, d, c, put_same, h1, h2, h3⟩
theorem PS.trans {S S' S2 : Store} {p : Addr} (h : PS S p S') (k : PS S' p S2) : PS S p S2 := by
  obtain ⟨x, d, c, h1, h2, h3, rfl⟩ := h
  obtain ⟨x', d', c', h1, h2, h3, rfl⟩ := k
  exact ⟨x', d', c', h1, h2, h3, put_put⟩
theorem sc_l_cell : FnScope ["_law_script", "_law_k", "_law_state", "_law_figure"] ["_law_script", "_law_k"] (defScope s_l_cell) := ⟨rfl, rfl, rfl, by decide +kernel, rfl, by decide +kernel, by decide +kernel⟩
def sp_l_cell : SpT := fun ts S R _ => match ts with
  | [.scr ts, .int k] => (∃ ns : List Int, ts = ns.map T.int ∧ ns.length ≤ 63) ∧ 0 ≤ k ∧ k < 2 ^ 60 ∧ ∀ z : Int, R (.int z) S
  | _ => False
theorem ok_l_cell {P : Program} {w : World} {K : PySem.W.Frag} {mg : Str → Option Value} {base : Heap} {f : Addr} {fd : FuncData}   (F : Fun K "_law_cell" "_law_cell" s_l_cell f fd)
    (n_len : mg "len" = none)
    : FnT P w K mg base 1 f fd ["_law_script", "_law_k"] sp_l_cell := by
  refine okT F sc_l_cell (by intro ts S R RE h; unfold sp_l_cell at h; split at h <;> first | rfl | exact h.elim) (fun cdv A out s H E hg hr => (bs_cons (ss_if (tt_cmp op_lt cv_B2n (et_var (pv 1)) (et_blt call_len cv_len (by rfl) n_len PySem.boot_len (at_cons (et_var (pv 0)) at_nil)) (nomark _)) (bs_one (ss_ret (et_ix ix_seq cv_ix (et_var (pv 0)) (et_var (pv 1)) (fun _ _ => rfl)))) bs_nil)
    (bs_cons (ss_set (i := 2) sc_l_cell.nd rfl (by first | exact Or.inl rfl | exact Or.inr rfl) (et_op op_mod cv_I2 (et_op op_mulG cv_mul et_int (et_op op_addG cv_add (et_op op_addG cv_add (et_op op_mulG cv_mul (et_var (pv 1)) (et_var (pv 1))) (et_op op_mulG cv_mul et_int (et_var (pv 1)))) et_int)) et_int))
    (bs_cons (ss_for (passes_of rfl) rfl (it_seq (et_slice (et_var (pv 0)) ot_none (ot_some et_int))) (gt_name (pg_name (i := 3) sc_l_cell.nd rfl (by first | exact Or.inl rfl | exact Or.inr rfl))) (bs_one (ss_set (i := 2) sc_l_cell.nd rfl (by first | exact Or.inl rfl | exact Or.inr rfl) (et_op op_mod cv_I2 (et_op op_addG cv_add (et_op op_mulG cv_mul (et_var (pv 2)) et_int) (et_var (pv 3))) et_int))))
    (bs_one (ss_ret (et_var (pv 2)))))))) ?_
  intro ts S R RE h
  unfold sp_l_cell at h
  split at h
  · rename_i ts k
    obtain ⟨⟨ns, rfl, h63⟩, h0, hk, q⟩ := h
    simp only [sSeq, sAsg, sDrop, sRet, sRetN, sIf, sNext, sPar, sPar3, sFor, sRaise, sFldT, sNo, rNo, rVar, rFrz, rC, rBin, rTest, bAnd, bOr, bNot, bIf, vAnd, vOr, vNot, rIf, rNeg, aNil, aCons, rTup, rLst, rLstC, rArgs, gNameT, gNilT, gConsT, gTupT, gSubT, iSeq, iRng1T, iRng2T, rLc, rCall, rCallN, rCallS, rFld, rCon, rMake, rMakeN, rMakeP, rMeth, rMethK, rProp, rClsFn, rOpOwn, rSl, oNone, oSome, rFmt, kFmt, rJs, rLidx, kStrOwn, kAddC, rMut, kAdd, kI2, kI2n, kMul, kIx, kIn, kLen, kU, kA2, kDm, kStrI, kAll, kSl, kAppend, kExtend, kTuple, kList, lenT, seqOf, bYes, startT, one, pickG, selG, insOf, putT, flatT, Bool.false_xor, Bool.true_xor, List.all_cons, List.all_nil, Bool.and_self, T.int.injEq, T.bl.injEq, T.str.injEq, T.lst.injEq, T.tup.injEq, T.cell.injEq, T.ins.injEq, Cell.lst.injEq, Cell.ins.injEq, Prod.mk.injEq, List.cons.injEq, Option.some.injEq, List.map_cons, List.map_nil, List.length_cons, List.length_nil, List.cons_append, List.nil_append, List.append_nil, List.getElem?_cons_zero, List.getElem?_cons_succ, List.set_cons_zero, List.set_cons_succ, List.replicate_succ, List.replicate_zero, exists_eq_left, exists_eq_left', exists_and_left, and_true, true_and, and_self, and_assoc, Nat.sub_self, Nat.reduceAdd, Nat.reduceSub, Nat.zero_add, put_put, put_same, reduceIte, Bool.false_eq_true, Bool.true_eq_false, Bool.not_true, Bool.not_false, at_0, at_1, at_2, at_3, at_4, at_5, at_6, at_7, ix_1_0, ix_2_0, ix_2_1, ix_3_0, ix_3_1, ix_3_2, ix_4_0, ix_4_1, ix_4_2, ix_4_3]
    refine ite_d (fun c => ?_) (fun c => ?_)
    · rw [List.length_map] at c
      obtain ⟨z, hz⟩ := at_ints h0 c
      exact ⟨_, hz, q z⟩
    · refine ⟨mulL (by omega), mulL (by decide), mulL (by decide), by decide, ?_⟩
      obtain ⟨ms, em⟩ := cutT_ints ns none (some 3)
      rw [em]
      refine rLoop_inv (fun _ σ S' => S' = S ∧ ∃ (z : Int) (v : Option T), σ = [some (.scr (ns.map T.int)), some (.int k), some (.int z), v] ∧ 0 ≤ z ∧ z < 2147483137) ⟨rfl, _, none, rfl, (emod_lt (by decide)).1, (emod_lt (by decide)).2⟩ ?_ ?_
      · rintro i t σ S' hi ⟨rfl, z, v, rfl, z0, z1⟩ N hN
        rw [List.getElem?_map] at hi
        obtain ⟨y, _, rfl⟩ := Option.map_eq_some_iff.mp hi
        simp only [sSeq, sAsg, sDrop, sRet, sRetN, sIf, sNext, sPar, sPar3, sFor, sRaise, sFldT, sNo, rNo, rVar, rFrz, rC, rBin, rTest, bAnd, bOr, bNot, bIf, vAnd, vOr, vNot, rIf, rNeg, aNil, aCons, rTup, rLst, rLstC, rArgs, gNameT, gNilT, gConsT, gTupT, gSubT, iSeq, iRng1T, iRng2T, rLc, rCall, rCallN, rCallS, rFld, rCon, rMake, rMakeN, rMakeP, rMeth, rMethK, rProp, rClsFn, rOpOwn, rSl, oNone, oSome, rFmt, kFmt, rJs, rLidx, kStrOwn, kAddC, rMut, kAdd, kI2, kI2n, kMul, kIx, kIn, kLen, kU, kA2, kDm, kStrI, kAll, kSl, kAppend, kExtend, kTuple, kList, lenT, seqOf, bYes, startT, one, pickG, selG, insOf, putT, flatT, Bool.false_xor, Bool.true_xor, List.all_cons, List.all_nil, Bool.and_self, T.int.injEq, T.bl.injEq, T.str.injEq, T.lst.injEq, T.tup.injEq, T.cell.injEq, T.ins.injEq, Cell.lst.injEq, Cell.ins.injEq, Prod.mk.injEq, List.cons.injEq, Option.some.injEq, List.map_cons, List.map_nil, List.length_cons, List.length_nil, List.cons_append, List.nil_append, List.append_nil, List.getElem?_cons_zero, List.getElem?_cons_succ, List.set_cons_zero, List.set_cons_succ, List.replicate_succ, List.replicate_zero, exists_eq_left, exists_eq_left', exists_and_left, and_true, true_and, and_self, and_assoc, Nat.sub_self, Nat.reduceAdd, Nat.reduceSub, Nat.zero_add, put_put, put_same, reduceIte, Bool.false_eq_true, Bool.true_eq_false, Bool.not_true, Bool.not_false, at_0, at_1, at_2, at_3, at_4, at_5, at_6, at_7, ix_1_0, ix_2_0, ix_2_1, ix_3_0, ix_3_1, ix_3_2, ix_4_0, ix_4_1, ix_4_2, ix_4_3]
        exact ⟨mulL (by omega), by decide, hN _ _ ⟨rfl, _, _, rfl, (emod_lt (by decide)).1, (emod_lt (by decide)).2⟩⟩
      · rintro σ S' ⟨rfl, z, v, rfl, _⟩
        simp only [sSeq, sAsg, sDrop, sRet, sRetN, sIf, sNext, sPar, sPar3, sFor, sRaise, sFldT, sNo, rNo, rVar, rFrz, rC, rBin, rTest, bAnd, bOr, bNot, bIf, vAnd, vOr, vNot, rIf, rNeg, aNil, aCons, rTup, rLst, rLstC, rArgs, gNameT, gNilT, gConsT, gTupT, gSubT, iSeq, iRng1T, iRng2T, rLc, rCall, rCallN, rCallS, rFld, rCon, rMake, rMakeN, rMakeP, rMeth, rMethK, rProp, rClsFn, rOpOwn, rSl, oNone, oSome, rFmt, kFmt, rJs, rLidx, kStrOwn, kAddC, rMut, kAdd, kI2, kI2n, kMul, kIx, kIn, kLen, kU, kA2, kDm, kStrI, kAll, kSl, kAppend, kExtend, kTuple, kList, lenT, seqOf, bYes, startT, one, pickG, selG, insOf, putT, flatT, Bool.false_xor, Bool.true_xor, List.all_cons, List.all_nil, Bool.and_self, T.int.injEq, T.bl.injEq, T.str.injEq, T.lst.injEq, T.tup.injEq, T.cell.injEq, T.ins.injEq, Cell.lst.injEq, Cell.ins.injEq, Prod.mk.injEq, List.cons.injEq, Option.some.injEq, List.map_cons, List.map_nil, List.length_cons, List.length_nil, List.cons_append, List.nil_append, List.append_nil, List.getElem?_cons_zero, List.getElem?_cons_succ, List.set_cons_zero, List.set_cons_succ, List.replicate_succ, List.replicate_zero, exists_eq_left, exists_eq_left', exists_and_left, and_true, true_and, and_self, and_assoc, Nat.sub_self, Nat.reduceAdd, Nat.reduceSub, Nat.zero_add, put_put, put_same, reduceIte, Bool.false_eq_true, Bool.true_eq_false, Bool.not_true, Bool.not_false, at_0, at_1, at_2, at_3, at_4, at_5, at_6, at_7, ix_1_0, ix_2_0, ix_2_1, ix_3_0, ix_3_1, ix_3_2, ix_4_0, ix_4_1, ix_4_2, ix_4_3]
        exact q z
  · exact h.elim
theorem sc_l_pool : FnScope ["_law_figure", "_law_digits"] ["_law_figure"] (defScope s_l_pool) := ⟨rfl, rfl, rfl, by decide +kernel, rfl, by decide +kernel, by decide +kernel⟩
def sp_l_pool : SpT := fun ts S R _ => match ts with
  | [.int z] => ∀ p S', S p = none → PS S p S' → R (.cell p) S'
  | _ => False
theorem ok_l_pool {P : Program} {w : World} {K : PySem.W.Frag} {mg : Str → Option Value} {base : Heap} {f : Addr} {fd : FuncData}   (F : Fun K "_law_pool" "_law_pool" s_l_pool f fd)
    (n_abs : mg "abs" = none)
    : FnT P w K mg base 1 f fd ["_law_figure"] sp_l_pool := by
  refine okT F sc_l_pool (by intro ts S R RE h; unfold sp_l_pool at h; split at h <;> first | rfl | exact h.elim) (fun cdv A out s H E hg hr => (bs_cons (ss_set (i := 1) sc_l_pool.nd rfl (by first | exact Or.inl rfl | exact Or.inr rfl) (et_if (tt_w (tw_or (tt_cmp op_lt cv_B2n (et_var (pv 0)) et_int (nomark _)) (tw_or1 (tt_cmp op_ge cv_B2n (et_var (pv 0)) (et_op op_pow cv_I2 et_int et_int) (nomark _))))) (et_blt call_abs cv_U (by rfl) n_abs PyProof.Rows.boot_abs (at_cons (et_var (pv 0)) at_nil)) et_int))
    (bs_one (ss_ret (et_lstC (at_cons (et_op op_mod cv_I2 (et_var (pv 0)) et_int) (at_cons (et_var (pv 1)) (at_cons et_int at_nil)))))))) ?_
  intro ts S R RE h
  unfold sp_l_pool at h
  split at h
  · rename_i z
    have m := emod_lt (a := z) (b := 2147483137) (by decide)
    simp only [sSeq, sAsg, sDrop, sRet, sRetN, sIf, sNext, sPar, sPar3, sFor, sRaise, sFldT, sNo, rNo, rVar, rFrz, rC, rBin, rTest, bAnd, bOr, bNot, bIf, vAnd, vOr, vNot, rIf, rNeg, aNil, aCons, rTup, rLst, rLstC, rArgs, gNameT, gNilT, gConsT, gTupT, gSubT, iSeq, iRng1T, iRng2T, rLc, rCall, rCallN, rCallS, rFld, rCon, rMake, rMakeN, rMakeP, rMeth, rMethK, rProp, rClsFn, rOpOwn, rSl, oNone, oSome, rFmt, kFmt, rJs, rLidx, kStrOwn, kAddC, rMut, kAdd, kI2, kI2n, kMul, kIx, kIn, kLen, kU, kA2, kDm, kStrI, kAll, kSl, kAppend, kExtend, kTuple, kList, lenT, seqOf, bYes, startT, one, pickG, selG, insOf, putT, flatT, Bool.false_xor, Bool.true_xor, List.all_cons, List.all_nil, Bool.and_self, T.int.injEq, T.bl.injEq, T.str.injEq, T.lst.injEq, T.tup.injEq, T.cell.injEq, T.ins.injEq, Cell.lst.injEq, Cell.ins.injEq, Prod.mk.injEq, List.cons.injEq, Option.some.injEq, List.map_cons, List.map_nil, List.length_cons, List.length_nil, List.cons_append, List.nil_append, List.append_nil, List.getElem?_cons_zero, List.getElem?_cons_succ, List.set_cons_zero, List.set_cons_succ, List.replicate_succ, List.replicate_zero, exists_eq_left, exists_eq_left', exists_and_left, and_true, true_and, and_self, and_assoc, Nat.sub_self, Nat.reduceAdd, Nat.reduceSub, Nat.zero_add, put_put, put_same, reduceIte, Bool.false_eq_true, Bool.true_eq_false, Bool.not_true, Bool.not_false, at_0, at_1, at_2, at_3, at_4, at_5, at_6, at_7, ix_1_0, ix_2_0, ix_2_1, ix_3_0, ix_3_1, ix_3_2, ix_4_0, ix_4_1, ix_4_2, ix_4_3]
    refine ite_d (fun c => ⟨by decide, by decide, fun p hp => h p _ hp ⟨_, _, _, m.1, m.2, by split <;> omega, rfl⟩⟩) (fun c => ⟨⟨by decide, by decide, by decide⟩, ite_d (fun c => ⟨by decide, by decide, fun p hp => h p _ hp ⟨_, _, _, m.1, m.2, by split <;> omega, rfl⟩⟩) (fun c => ⟨by decide, by decide, fun p hp => h p _ hp ⟨_, _, _, m.1, m.2, by omega, rfl⟩⟩)⟩)
  · exact h.elim
theorem sc_l_draw : FnScope ["_law_pool_here", "_law_most", "_law_state", "_law_digit"] ["_law_pool_here", "_law_most"] (defScope s_l_draw) := ⟨rfl, rfl, rfl, by decide +kernel, rfl, by decide +kernel, by decide +kernel⟩
def sp_l_draw : SpT := fun ts S R _ => match ts with
  | [.cell p, .int m] => PoolT S p ∧ Pn 8000 m ∧ ∀ r S', 0 ≤ r → r < m → PS S p S' → R (.int r) S'
  | _ => False
theorem ok_l_draw {P : Program} {w : World} {K : PySem.W.Frag} {mg : Str → Option Value} {base : Heap} {f : Addr} {fd : FuncData}   (F : Fun K "_law_draw" "_law_draw" s_l_draw f fd)
    (n_divmod : mg "divmod" = none)
    : FnT P w K mg base 1 f fd ["_law_pool_here", "_law_most"] sp_l_draw := by
  refine okT F sc_l_draw (by intro ts S R RE h; unfold sp_l_draw at h; split at h <;> first | rfl | exact h.elim) (fun cdv A out s H E hg hr => (bs_cons (ss_asg (et_op op_addG cv_add (et_ix ix_seq cv_ix (et_var (pv 0)) et_int (fun _ _ => rfl)) et_int) (gt_sub (et_var (pv 0)) et_int))
    (bs_cons (ss_set (i := 2) sc_l_draw.nd rfl (by first | exact Or.inl rfl | exact Or.inr rfl) (et_ix ix_seq cv_ix (et_var (pv 0)) et_int (fun _ _ => rfl)))
    (bs_cons (ss_asg (et_op op_mod cv_I2 (et_op op_addG cv_add (et_op op_mulG cv_mul (et_var (pv 2)) (et_op op_addG cv_add (et_op op_mod cv_I2 (et_var (pv 2)) et_int) et_int)) (et_op op_mulG cv_mul et_int (et_ix ix_seq cv_ix (et_var (pv 0)) et_int (fun _ _ => rfl)))) et_int) (gt_sub (et_var (pv 0)) et_int))
    (bs_cons (ss_if (tt_cmp op_gt cv_B2n (et_ix ix_seq cv_ix (et_var (pv 0)) et_int (fun _ _ => rfl)) et_int (nomark _)) (bs_cons (ss_asg (et_blt call_divmodW cv_dm (by rfl) n_divmod PyProof.Rows.boot_divmod (at_cons (et_ix ix_seq cv_ix (et_var (pv 0)) et_int (fun _ _ => rfl)) (at_cons (et_var (pv 1)) at_nil))) (gt_tup (n := 2) (by rfl) (gts_cons (gt_sub (et_var (pv 0)) et_int) (gts_cons (gt_name (pg_name (i := 3) sc_l_draw.nd rfl (by first | exact Or.inl rfl | exact Or.inr rfl))) gts_nil))))
    (bs_one (ss_ret (et_var (pv 3))))) bs_nil)
    (bs_one (ss_ret (et_op op_mod cv_I2 (et_op op_fdivP cv_I2 (et_ix ix_seq cv_ix (et_var (pv 0)) et_int (fun _ _ => rfl)) et_int) (et_var (pv 1)))))))))) ?_
  intro ts S R RE h
  unfold sp_l_draw at h
  split at h
  · rename_i p m
    obtain ⟨⟨x, d, c, hp, x0, x1, d0⟩, hm, q⟩ := h
    refine sSeq_i fun N hN => ?_
    simp only [hp, sSeq, sAsg, sDrop, sRet, sRetN, sIf, sNext, sPar, sPar3, sFor, sRaise, sFldT, sNo, rNo, rVar, rFrz, rC, rBin, rTest, bAnd, bOr, bNot, bIf, vAnd, vOr, vNot, rIf, rNeg, aNil, aCons, rTup, rLst, rLstC, rArgs, gNameT, gNilT, gConsT, gTupT, gSubT, iSeq, iRng1T, iRng2T, rLc, rCall, rCallN, rCallS, rFld, rCon, rMake, rMakeN, rMakeP, rMeth, rMethK, rProp, rClsFn, rOpOwn, rSl, oNone, oSome, rFmt, kFmt, rJs, rLidx, kStrOwn, kAddC, rMut, kAdd, kI2, kI2n, kMul, kIx, kIn, kLen, kU, kA2, kDm, kStrI, kAll, kSl, kAppend, kExtend, kTuple, kList, lenT, seqOf, bYes, startT, one, pickG, selG, insOf, putT, flatT, Bool.false_xor, Bool.true_xor, List.all_cons, List.all_nil, Bool.and_self, T.int.injEq, T.bl.injEq, T.str.injEq, T.lst.injEq, T.tup.injEq, T.cell.injEq, T.ins.injEq, Cell.lst.injEq, Cell.ins.injEq, Prod.mk.injEq, List.cons.injEq, Option.some.injEq, List.map_cons, List.map_nil, List.length_cons, List.length_nil, List.cons_append, List.nil_append, List.append_nil, List.getElem?_cons_zero, List.getElem?_cons_succ, List.set_cons_zero, List.set_cons_succ, List.replicate_succ, List.replicate_zero, exists_eq_left, exists_eq_left', exists_and_left, and_true, true_and, and_self, and_assoc, Nat.sub_self, Nat.reduceAdd, Nat.reduceSub, Nat.zero_add, put_put, put_same, reduceIte, Bool.false_eq_true, Bool.true_eq_false, Bool.not_true, Bool.not_false, at_0, at_1, at_2, at_3, at_4, at_5, at_6, at_7, ix_1_0, ix_2_0, ix_2_1, ix_3_0, ix_3_1, ix_3_2, ix_4_0, ix_4_1, ix_4_2, ix_4_3]
    refine hN _ _ ?_
    refine sSeq_i fun N hN => ?_
    simp only [hp, sSeq, sAsg, sDrop, sRet, sRetN, sIf, sNext, sPar, sPar3, sFor, sRaise, sFldT, sNo, rNo, rVar, rFrz, rC, rBin, rTest, bAnd, bOr, bNot, bIf, vAnd, vOr, vNot, rIf, rNeg, aNil, aCons, rTup, rLst, rLstC, rArgs, gNameT, gNilT, gConsT, gTupT, gSubT, iSeq, iRng1T, iRng2T, rLc, rCall, rCallN, rCallS, rFld, rCon, rMake, rMakeN, rMakeP, rMeth, rMethK, rProp, rClsFn, rOpOwn, rSl, oNone, oSome, rFmt, kFmt, rJs, rLidx, kStrOwn, kAddC, rMut, kAdd, kI2, kI2n, kMul, kIx, kIn, kLen, kU, kA2, kDm, kStrI, kAll, kSl, kAppend, kExtend, kTuple, kList, lenT, seqOf, bYes, startT, one, pickG, selG, insOf, putT, flatT, Bool.false_xor, Bool.true_xor, List.all_cons, List.all_nil, Bool.and_self, T.int.injEq, T.bl.injEq, T.str.injEq, T.lst.injEq, T.tup.injEq, T.cell.injEq, T.ins.injEq, Cell.lst.injEq, Cell.ins.injEq, Prod.mk.injEq, List.cons.injEq, Option.some.injEq, List.map_cons, List.map_nil, List.length_cons, List.length_nil, List.cons_append, List.nil_append, List.append_nil, List.getElem?_cons_zero, List.getElem?_cons_succ, List.set_cons_zero, List.set_cons_succ, List.replicate_succ, List.replicate_zero, exists_eq_left, exists_eq_left', exists_and_left, and_true, true_and, and_self, and_assoc, Nat.sub_self, Nat.reduceAdd, Nat.reduceSub, Nat.zero_add, put_put, put_same, reduceIte, Bool.false_eq_true, Bool.true_eq_false, Bool.not_true, Bool.not_false, at_0, at_1, at_2, at_3, at_4, at_5, at_6, at_7, ix_1_0, ix_2_0, ix_2_1, ix_3_0, ix_3_1, ix_3_2, ix_4_0, ix_4_1, ix_4_2, ix_4_3]
    refine hN _ _ ?_
    refine sSeq_i fun N hN => ?_
    simp only [hp, sSeq, sAsg, sDrop, sRet, sRetN, sIf, sNext, sPar, sPar3, sFor, sRaise, sFldT, sNo, rNo, rVar, rFrz, rC, rBin, rTest, bAnd, bOr, bNot, bIf, vAnd, vOr, vNot, rIf, rNeg, aNil, aCons, rTup, rLst, rLstC, rArgs, gNameT, gNilT, gConsT, gTupT, gSubT, iSeq, iRng1T, iRng2T, rLc, rCall, rCallN, rCallS, rFld, rCon, rMake, rMakeN, rMakeP, rMeth, rMethK, rProp, rClsFn, rOpOwn, rSl, oNone, oSome, rFmt, kFmt, rJs, rLidx, kStrOwn, kAddC, rMut, kAdd, kI2, kI2n, kMul, kIx, kIn, kLen, kU, kA2, kDm, kStrI, kAll, kSl, kAppend, kExtend, kTuple, kList, lenT, seqOf, bYes, startT, one, pickG, selG, insOf, putT, flatT, Bool.false_xor, Bool.true_xor, List.all_cons, List.all_nil, Bool.and_self, T.int.injEq, T.bl.injEq, T.str.injEq, T.lst.injEq, T.tup.injEq, T.cell.injEq, T.ins.injEq, Cell.lst.injEq, Cell.ins.injEq, Prod.mk.injEq, List.cons.injEq, Option.some.injEq, List.map_cons, List.map_nil, List.length_cons, List.length_nil, List.cons_append, List.nil_append, List.append_nil, List.getElem?_cons_zero, List.getElem?_cons_succ, List.set_cons_zero, List.set_cons_succ, List.replicate_succ, List.replicate_zero, exists_eq_left, exists_eq_left', exists_and_left, and_true, true_and, and_self, and_assoc, Nat.sub_self, Nat.reduceAdd, Nat.reduceSub, Nat.zero_add, put_put, put_same, reduceIte, Bool.false_eq_true, Bool.true_eq_false, Bool.not_true, Bool.not_false, at_0, at_1, at_2, at_3, at_4, at_5, at_6, at_7, ix_1_0, ix_2_0, ix_2_1, ix_3_0, ix_3_1, ix_3_2, ix_4_0, ix_4_1, ix_4_2, ix_4_3]
    have hx2 := emod_lt (a := x) (b := 50023) (by decide)
    have hy := emod_lt (a := x * (x % 50023 + 30013) + 80029 * (c + 1)) (b := 2147483137) (by decide)
    refine ⟨by decide, mulL (by omega), mulL (by decide), by decide, hN _ _ ?_⟩
    generalize (x * (x % 50023 + 30013) + 80029 * (c + 1)) % 2147483137 = y at hy ⊢
    refine sSeq_i fun N hN => ?_
    simp only [sSeq, sAsg, sDrop, sRet, sRetN, sIf, sNext, sPar, sPar3, sFor, sRaise, sFldT, sNo, rNo, rVar, rFrz, rC, rBin, rTest, bAnd, bOr, bNot, bIf, vAnd, vOr, vNot, rIf, rNeg, aNil, aCons, rTup, rLst, rLstC, rArgs, gNameT, gNilT, gConsT, gTupT, gSubT, iSeq, iRng1T, iRng2T, rLc, rCall, rCallN, rCallS, rFld, rCon, rMake, rMakeN, rMakeP, rMeth, rMethK, rProp, rClsFn, rOpOwn, rSl, oNone, oSome, rFmt, kFmt, rJs, rLidx, kStrOwn, kAddC, rMut, kAdd, kI2, kI2n, kMul, kIx, kIn, kLen, kU, kA2, kDm, kStrI, kAll, kSl, kAppend, kExtend, kTuple, kList, lenT, seqOf, bYes, startT, one, pickG, selG, insOf, putT, flatT, Bool.false_xor, Bool.true_xor, List.all_cons, List.all_nil, Bool.and_self, T.int.injEq, T.bl.injEq, T.str.injEq, T.lst.injEq, T.tup.injEq, T.cell.injEq, T.ins.injEq, Cell.lst.injEq, Cell.ins.injEq, Prod.mk.injEq, List.cons.injEq, Option.some.injEq, List.map_cons, List.map_nil, List.length_cons, List.length_nil, List.cons_append, List.nil_append, List.append_nil, List.getElem?_cons_zero, List.getElem?_cons_succ, List.set_cons_zero, List.set_cons_succ, List.replicate_succ, List.replicate_zero, exists_eq_left, exists_eq_left', exists_and_left, and_true, true_and, and_self, and_assoc, Nat.sub_self, Nat.reduceAdd, Nat.reduceSub, Nat.zero_add, put_put, put_same, reduceIte, Bool.false_eq_true, Bool.true_eq_false, Bool.not_true, Bool.not_false, at_0, at_1, at_2, at_3, at_4, at_5, at_6, at_7, ix_1_0, ix_2_0, ix_2_1, ix_3_0, ix_3_1, ix_3_2, ix_4_0, ix_4_1, ix_4_2, ix_4_3]
    refine ite_d (fun cc => ⟨hm.divW _, ?_⟩) (fun cc => hN _ _ ?_)
    · exact q _ _ (emod_lt hm.pos).1 (emod_lt hm.pos).2 ⟨_, _, _, hy.1, hy.2, Int.ediv_nonneg d0 (by have := hm.pos; omega), rfl⟩
    · simp only [sSeq, sAsg, sDrop, sRet, sRetN, sIf, sNext, sPar, sPar3, sFor, sRaise, sFldT, sNo, rNo, rVar, rFrz, rC, rBin, rTest, bAnd, bOr, bNot, bIf, vAnd, vOr, vNot, rIf, rNeg, aNil, aCons, rTup, rLst, rLstC, rArgs, gNameT, gNilT, gConsT, gTupT, gSubT, iSeq, iRng1T, iRng2T, rLc, rCall, rCallN, rCallS, rFld, rCon, rMake, rMakeN, rMakeP, rMeth, rMethK, rProp, rClsFn, rOpOwn, rSl, oNone, oSome, rFmt, kFmt, rJs, rLidx, kStrOwn, kAddC, rMut, kAdd, kI2, kI2n, kMul, kIx, kIn, kLen, kU, kA2, kDm, kStrI, kAll, kSl, kAppend, kExtend, kTuple, kList, lenT, seqOf, bYes, startT, one, pickG, selG, insOf, putT, flatT, Bool.false_xor, Bool.true_xor, List.all_cons, List.all_nil, Bool.and_self, T.int.injEq, T.bl.injEq, T.str.injEq, T.lst.injEq, T.tup.injEq, T.cell.injEq, T.ins.injEq, Cell.lst.injEq, Cell.ins.injEq, Prod.mk.injEq, List.cons.injEq, Option.some.injEq, List.map_cons, List.map_nil, List.length_cons, List.length_nil, List.cons_append, List.nil_append, List.append_nil, List.getElem?_cons_zero, List.getElem?_cons_succ, List.set_cons_zero, List.set_cons_succ, List.replicate_succ, List.replicate_zero, exists_eq_left, exists_eq_left', exists_and_left, and_true, true_and, and_self, and_assoc, Nat.sub_self, Nat.reduceAdd, Nat.reduceSub, Nat.zero_add, put_put, put_same, reduceIte, Bool.false_eq_true, Bool.true_eq_false, Bool.not_true, Bool.not_false, at_0, at_1, at_2, at_3, at_4, at_5, at_6, at_7, ix_1_0, ix_2_0, ix_2_1, ix_3_0, ix_3_1, ix_3_2, ix_4_0, ix_4_1, ix_4_2, ix_4_3]
      exact ⟨div_small (by decide) (by decide) _, hm.pos, q _ _ (emod_lt hm.pos).1 (emod_lt hm.pos).2 ⟨_, _, _, hy.1, hy.2, d0, rfl⟩⟩
  · exact h.elim
/-! fractions, good arguments only -/
def sgn (l r : Int) : Int := if l < r then -1 else if r < l then 1 else 0
theorem sgn_lt {l r : Int} : decide (sgn l r < 0) = decide (l < r) := by
  unfold sgn
  by_cases h1 : l < r
  · simp [h1]
  · by_cases h2 : r < l
    · simp [h1, h2]
    · simp [h1, h2]
theorem sgn_gt {l r : Int} : decide (0 < sgn l r) = decide (r < l) := by
  unfold sgn
  by_cases h1 : l < r
  · have : ¬ r < l := by omega
    simp [h1, this]
  · by_cases h2 : r < l
    · simp [h1, h2]
    · simp [h1, h2]
theorem Pn.isPos {n : Nat} {a : Int} (h : Pn n a) : isPos (.int a) = true := decide_eq_true h.pos
theorem eqI {a b : Int} {S : Store} {R : T → Store → Prop} {RE : XT} {ng : Bool} (q : R (.bl (ng ^^ decide (a = b))) S) : kEqG ng (.int a) (.int b) S R RE := .inl ⟨rfl, q⟩
theorem eqI0 {a b : Int} {S : Store} {R : T → Store → Prop} {RE : XT} (q : R (.bl (decide (a = b))) S) : kEqG false (.int a) (.int b) S R RE := eqI (by simpa using q)
theorem eqI1 {a b : Int} {S : Store} {R : T → Store → Prop} {RE : XT} (q : R (.bl (!decide (a = b))) S) : kEqG true (.int a) (.int b) S R RE := eqI (by simpa using q)
/-- all are fractions -/
def FrL (n : Nat) (l : List T) : Prop := ∀ x ∈ l, ∃ a b, x = frT a b ∧ Fr n a b
theorem FrL.one {n : Nat} {a b : Int} (h : Fr n a b) : FrL n [frT a b] := fun x m => by
  rw [List.mem_singleton.mp m]; exact ⟨a, b, rfl, h⟩
theorem FrL.two {n : Nat} {a b c d : Int} (h : Fr n a b) (k : Fr n c d) : FrL n [frT a b, frT c d] := fun x m => by
  rcases List.mem_cons.mp m with rfl | m
  · exact ⟨a, b, rfl, h⟩
  · rw [List.mem_singleton.mp m]; exact ⟨c, d, rfl, k⟩
/-- a law's last row: all([_law_right(_law_pool(_law_cell(script, k))) for k in range(m)]) -/
theorem law_cells {fr : T → Fm} {spR : SpT} {i j : Nat} {ns : List Int} {m : Int} {S : Store} {R : T → Store → Prop} (h63 : ns.length ≤ 63) (hm : 0 ≤ m ∧ m ≤ 100) (hi : ∀ t, (fr t)[i]? = some (some (.scr (ns.map T.int)))) (hj : ∀ t, (fr t)[j]? = some (some t))
    (hR : ∀ p S, PoolT S p → ∀ N : T → Store → Prop, (∀ S', N (.bl true) S') → spR [.cell p] S N XF) (q : ∀ S, R (.bl true) S) :
    rComp fr bYes (rCall spR [] (aCons (rCall sp_l_pool [] (aCons (rCall sp_l_cell [] (aCons (rVar i) (aCons (rVar j) aNil))) aNil)) aNil)) (rangeT 0 m) [] S (fun ys S2 => ∃ bs, ys = List.map T.bl bs ∧ R (.bl (bs.all id)) S2) := by
  have ln : (rangeT 0 m).length = m.toNat := by simp [rangeT]
  refine rComp_all (fun _ _ => True) (fun _ _ y => y = .bl true) trivial (by rw [ln, sizeLine_eq]; omega) ?_ ?_
  · intro k t S' hk _ N hN
    unfold rangeT at hk
    rw [List.getElem?_map] at hk
    obtain ⟨z, hz, rfl⟩ := Option.map_eq_some_iff.mp hk
    obtain ⟨lz, ez⟩ := List.getElem?_eq_some_iff.mp hz
    rw [List.getElem_range] at ez
    rw [List.length_range] at lz
    subst ez
    refine ⟨_, hi _, _, hj _, ?_⟩
    simp only [aNil, List.nil_append, List.append_nil, List.cons_append]
    refine ⟨⟨ns, rfl, h63⟩, by omega, by omega, fun v => ?_⟩
    intro p S2 hp ps
    exact hR p S2 ps.pool _ fun S3 => hN _ _ rfl trivial
  · intro ys S2 hl hF _
    refine ⟨List.replicate ys.length true, ?_, ?_⟩
    · refine List.ext_getElem? fun k => ?_
      rw [List.getElem?_map, List.getElem?_replicate]
      by_cases hk : k < ys.length
      · have := hF k ((rangeT 0 m)[k]'(by omega)) ys[k] (List.getElem?_eq_getElem (by omega)) (List.getElem?_eq_getElem hk)
        rw [List.getElem?_eq_getElem hk, this, if_pos hk]
        rfl
      · rw [List.getElem?_eq_none (by omega), if_neg hk]
        rfl
    · rw [show (List.replicate ys.length true).all id = true by rw [List.all_replicate]; split <;> rfl]
      exact q _
/-- max(2, min(k, len(script))), as the two ways of writing it give it -/
theorem range_le {n k : Int} (h : 0 ≤ n ∧ n ≤ 63) (hk : 0 ≤ k ∧ k ≤ 63) : 0 ≤ (if (if n < k then n else k) > 2 then (if n < k then n else k) else 2) ∧ (if (if n < k then n else k) > 2 then (if n < k then n else k) else 2) ≤ 100 := by
  split <;> split <;> omega
/-! steps, no sizes -/
theorem wh_ne : ¬ (("width" : Str) = "height") := by decide +kernel
theorem hw_ne : ¬ (("height" : Str) = "width") := by decide +kernel
/-- a side of a box -/
structure Bx (w : Int) : Prop where
  pos : 0 < w
  le : w ≤ 1000000
theorem Bx.pn {w : Int} (h : Bx w) : Pn 20 w := Pn.of h.pos (by have := h.le; omega)
theorem Bx.fr {w : Int} (h : Bx w) : Fr 20 w 1 := ⟨h.pn, ⟨by decide, by decide⟩, gcdI_one⟩
theorem Bx.isPos {w : Int} (h : Bx w) : isPos (.int w) = true := h.pn.isPos
theorem Bx.gt {w : Int} (h : Bx w) : decide (1000000 < w) = false := decide_eq_false (by have := h.le; omega)
def stF (w h : Int) (c : Bool) : List (Str × T) := [("width", .int w), ("height", .int h), ("cover", .bl c)]
theorem cw_ne : ¬ (("width" : Str) = "cover") := by decide +kernel
theorem ch_ne : ¬ (("height" : Str) = "cover") := by decide +kernel
theorem stF_w {w h : Int} {c : Bool} : (stF w h c).lookup ("width" : Str) = some (.int w) := by simp [stF, List.lookup]
theorem stF_h {w h : Int} {c : Bool} : (stF w h c).lookup ("height" : Str) = some (.int h) := by
  have e : (("height" : Str) == "width") = false := by decide +kernel
  simp [stF, List.lookup, e]
theorem stF_c {w h : Int} {c : Bool} : (stF w h c).lookup ("cover" : Str) = some (.bl c) := by
  have e : (("cover" : Str) == "width") = false := by decide +kernel
  have e2 : (("cover" : Str) == "height") = false := by decide +kernel
  simp [stF, List.lookup, e, e2]
theorem stF_factor {w h : Int} {c : Bool} : (stF w h c).lookup ("factor" : Str) = none := by
  have e : (("factor" : Str) == "width") = false := by decide +kernel
  have e2 : (("factor" : Str) == "height") = false := by decide +kernel
  have e3 : (("factor" : Str) == "cover") = false := by decide +kernel
  simp [stF, List.lookup, e, e2, e3]
theorem stF_apply {w h : Int} {c : Bool} : (stF w h c).lookup ("apply" : Str) = none := by
  have e : (("apply" : Str) == "width") = false := by decide +kernel
  have e2 : (("apply" : Str) == "height") = false := by decide +kernel
  have e3 : (("apply" : Str) == "cover") = false := by decide +kernel
  simp [stF, List.lookup, e, e2, e3]
/-- the fields of a scaling's class -/
structure SF (K : PySem.W.Frag) (C : Addr) : Prop where
  w : InF K C "width"
  h : InF K C "height"
  c : InF K C "cover"
theorem sc_check_box : FnScope ["width", "height", "side"] ["width", "height"] (defScope s_check_box) := ⟨rfl, rfl, rfl, by decide +kernel, rfl, by decide +kernel, by decide +kernel⟩
def sp_check_box (K : PySem.W.Frag) : SpT := fun ts S R _ => match ts with
  | [.int w, .int h] => Bx w ∧ Bx h ∧ R .non S
  | _ => False
theorem ok_check_box {P : Program} {w : World} {K : PySem.W.Frag} {mg : Str → Option Value} {base : Heap} {f : Addr} {fd : FuncData} {g_is_positive : Addr} {tk_MOST_SIDE : Tok} {gd_is_positive : FuncData} (F : Fun K "check_box" "check_box" s_check_box f fd)
    (c_MOST_SIDE : mg "MOST_SIDE" = some (.int 1000000 tk_MOST_SIDE))
    (G_is_positive : FnT P w K mg base 2 g_is_positive gd_is_positive ["value"] (sp_is_positive K))
    (m_is_positive : mg "is_positive" = some (.ref g_is_positive))
    (k_is_positive : PySem.W.keepIn K (.ref g_is_positive) = true)
    (b_is_positive : Binds K gd_is_positive ["value"] [])
    : FnT P w K mg base 3 f fd ["width", "height"] (sp_check_box K) := by
  refine okT F sc_check_box (by intro ts S R RE h; unfold sp_check_box at h; split at h <;> first | rfl | exact h.elim) (fun cdv A out s H E hg hr => (bs_one (ss_for (passes_of rfl) rfl (it_seq (et_tup (at_cons (et_var (pv 0)) (at_cons (et_var (pv 1)) at_nil)))) (gt_name (pg_name (i := 2) sc_check_box.nd rfl (by first | exact Or.inl rfl | exact Or.inr rfl))) (bs_one (ss_if (tt_w (tw_or (tt_not (tt_val (et_callD G_is_positive hg (hr.mono (by decide)) (by rfl) m_is_positive k_is_positive (CallD.all b_is_positive) (passL2N (L2N.takes_of rfl rfl rfl rfl)) (at_cons (et_var (pv 2)) at_nil)))) (tw_or1 (tt_cmp op_gt cv_B2n (et_var (pv 2)) (et_globI (by rfl) c_MOST_SIDE) (nomark _))))) (bs_one ss_never) bs_nil))))) ?_
  intro ts S R RE h
  unfold sp_check_box at h
  split at h
  · rename_i w h
    obtain ⟨hw, hh, q⟩ := h
    simp only [rLoop, sp_is_positive, hw.isPos, hh.isPos, hw.gt, hh.gt, sSeq, sAsg, sDrop, sRet, sRetN, sIf, sNext, sPar, sPar3, sFor, sRaise, sFldT, sNo, rNo, rVar, rFrz, rC, rBin, rTest, bAnd, bOr, bNot, bIf, vAnd, vOr, vNot, rIf, rNeg, aNil, aCons, rTup, rLst, rLstC, rArgs, gNameT, gNilT, gConsT, gTupT, gSubT, iSeq, iRng1T, iRng2T, rLc, rCall, rCallN, rCallS, rFld, rCon, rMake, rMakeN, rMakeP, rMeth, rMethK, rProp, rClsFn, rOpOwn, rSl, oNone, oSome, rFmt, kFmt, rJs, rLidx, kStrOwn, kAddC, rMut, kAdd, kI2, kI2n, kMul, kIx, kIn, kLen, kU, kA2, kDm, kStrI, kAll, kSl, kAppend, kExtend, kTuple, kList, lenT, seqOf, bYes, startT, one, pickG, selG, insOf, putT, flatT, Bool.false_xor, Bool.true_xor, List.all_cons, List.all_nil, Bool.and_self, T.int.injEq, T.bl.injEq, T.str.injEq, T.lst.injEq, T.tup.injEq, T.cell.injEq, T.ins.injEq, Cell.lst.injEq, Cell.ins.injEq, Prod.mk.injEq, List.cons.injEq, Option.some.injEq, List.map_cons, List.map_nil, List.length_cons, List.length_nil, List.cons_append, List.nil_append, List.append_nil, List.getElem?_cons_zero, List.getElem?_cons_succ, List.set_cons_zero, List.set_cons_succ, List.replicate_succ, List.replicate_zero, exists_eq_left, exists_eq_left', exists_and_left, and_true, true_and, and_self, and_assoc, Nat.sub_self, Nat.reduceAdd, Nat.reduceSub, Nat.zero_add, put_put, put_same, reduceIte, Bool.false_eq_true, Bool.true_eq_false, Bool.not_true, Bool.not_false, at_0, at_1, at_2, at_3, at_4, at_5, at_6, at_7, ix_1_0, ix_2_0, ix_2_1, ix_3_0, ix_3_1, ix_3_2, ix_4_0, ix_4_1, ix_4_2, ix_4_3]
    exact ⟨by decide, .int, .int, q⟩
  · exact h.elim
theorem sc_Scaling_init : FnScope ["self", "width", "height", "cover"] ["self", "width", "height", "cover"] (defScope s_Scaling_init) := ⟨rfl, rfl, rfl, by decide +kernel, rfl, by decide +kernel, by decide +kernel⟩
def sp_Scaling_init (K : PySem.W.Frag) : SpT := fun ts S R _ => match ts with
  | [.cell u, .int w, .int h, .bl c] => ∃ C, S u = some (.ins C []) ∧ SF K C ∧ Bx w ∧ Bx h ∧ R .non (S.put u (.ins C (stF w h c)))
  | _ => False
theorem ok_Scaling_init {P : Program} {w : World} {K : PySem.W.Frag} {mg : Str → Option Value} {base : Heap} {f : Addr} {fd : FuncData} {g_check_box : Addr} {gd_check_box : FuncData} (F : Fun K "__init__" "Scaling.__init__" s_Scaling_init f fd)
    (G_check_box : FnT P w K mg base 3 g_check_box gd_check_box ["width", "height"] (sp_check_box K))
    (m_check_box : mg "check_box" = some (.ref g_check_box))
    (k_check_box : PySem.W.keepIn K (.ref g_check_box) = true)
    (b_check_box : Binds K gd_check_box ["width", "height"] [])
    : FnT P w K mg base 4 f fd ["self", "width", "height", "cover"] (sp_Scaling_init K) := by
  refine okT F sc_Scaling_init (by intro ts S R RE h; unfold sp_Scaling_init at h; split at h <;> first | rfl | exact h.elim) (fun cdv A out s H E hg hr => (bs_cons (ss_expr (et_callD G_check_box hg (hr.mono (by decide)) (by rfl) m_check_box k_check_box (CallD.all b_check_box) (passL2N (L2N.takes_of rfl rfl rfl rfl)) (at_cons (et_var (pv 1)) (at_cons (et_var (pv 2)) at_nil))))
    (bs_cons (ss_fldK K rfl (et_var (pv 0)) (et_var (pv 1)))
    (bs_cons (ss_fldK K rfl (et_var (pv 0)) (et_var (pv 2)))
    (bs_one (ss_fldK K rfl (et_var (pv 0)) (et_var (pv 3)))))))) ?_
  intro ts S R RE h
  unfold sp_Scaling_init at h
  split at h
  · rename_i u w h c
    obtain ⟨C, hu, sf, hw, hh, q⟩ := h
    refine sSeq_i fun N hN => ?_
    simp only [sp_check_box, sSeq, sAsg, sDrop, sRet, sRetN, sIf, sNext, sPar, sPar3, sFor, sRaise, sFldT, sNo, rNo, rVar, rFrz, rC, rBin, rTest, bAnd, bOr, bNot, bIf, vAnd, vOr, vNot, rIf, rNeg, aNil, aCons, rTup, rLst, rLstC, rArgs, gNameT, gNilT, gConsT, gTupT, gSubT, iSeq, iRng1T, iRng2T, rLc, rCall, rCallN, rCallS, rFld, rCon, rMake, rMakeN, rMakeP, rMeth, rMethK, rProp, rClsFn, rOpOwn, rSl, oNone, oSome, rFmt, kFmt, rJs, rLidx, kStrOwn, kAddC, rMut, kAdd, kI2, kI2n, kMul, kIx, kIn, kLen, kU, kA2, kDm, kStrI, kAll, kSl, kAppend, kExtend, kTuple, kList, lenT, seqOf, bYes, startT, one, pickG, selG, insOf, putT, flatT, Bool.false_xor, Bool.true_xor, List.all_cons, List.all_nil, Bool.and_self, T.int.injEq, T.bl.injEq, T.str.injEq, T.lst.injEq, T.tup.injEq, T.cell.injEq, T.ins.injEq, Cell.lst.injEq, Cell.ins.injEq, Prod.mk.injEq, List.cons.injEq, Option.some.injEq, List.map_cons, List.map_nil, List.length_cons, List.length_nil, List.cons_append, List.nil_append, List.append_nil, List.getElem?_cons_zero, List.getElem?_cons_succ, List.set_cons_zero, List.set_cons_succ, List.replicate_succ, List.replicate_zero, exists_eq_left, exists_eq_left', exists_and_left, and_true, true_and, and_self, and_assoc, Nat.sub_self, Nat.reduceAdd, Nat.reduceSub, Nat.zero_add, put_put, put_same, reduceIte, Bool.false_eq_true, Bool.true_eq_false, Bool.not_true, Bool.not_false, at_0, at_1, at_2, at_3, at_4, at_5, at_6, at_7, ix_1_0, ix_2_0, ix_2_1, ix_3_0, ix_3_1, ix_3_2, ix_4_0, ix_4_1, ix_4_2, ix_4_3]
    refine ⟨hw, hh, hN _ _ ?_⟩
    refine sSeq_i fun N hN => ?_
    simp only [hu, sf.w, sSeq, sAsg, sDrop, sRet, sRetN, sIf, sNext, sPar, sPar3, sFor, sRaise, sFldT, sNo, rNo, rVar, rFrz, rC, rBin, rTest, bAnd, bOr, bNot, bIf, vAnd, vOr, vNot, rIf, rNeg, aNil, aCons, rTup, rLst, rLstC, rArgs, gNameT, gNilT, gConsT, gTupT, gSubT, iSeq, iRng1T, iRng2T, rLc, rCall, rCallN, rCallS, rFld, rCon, rMake, rMakeN, rMakeP, rMeth, rMethK, rProp, rClsFn, rOpOwn, rSl, oNone, oSome, rFmt, kFmt, rJs, rLidx, kStrOwn, kAddC, rMut, kAdd, kI2, kI2n, kMul, kIx, kIn, kLen, kU, kA2, kDm, kStrI, kAll, kSl, kAppend, kExtend, kTuple, kList, lenT, seqOf, bYes, startT, one, pickG, selG, insOf, putT, flatT, Bool.false_xor, Bool.true_xor, List.all_cons, List.all_nil, Bool.and_self, T.int.injEq, T.bl.injEq, T.str.injEq, T.lst.injEq, T.tup.injEq, T.cell.injEq, T.ins.injEq, Cell.lst.injEq, Cell.ins.injEq, Prod.mk.injEq, List.cons.injEq, Option.some.injEq, List.map_cons, List.map_nil, List.length_cons, List.length_nil, List.cons_append, List.nil_append, List.append_nil, List.getElem?_cons_zero, List.getElem?_cons_succ, List.set_cons_zero, List.set_cons_succ, List.replicate_succ, List.replicate_zero, exists_eq_left, exists_eq_left', exists_and_left, and_true, true_and, and_self, and_assoc, Nat.sub_self, Nat.reduceAdd, Nat.reduceSub, Nat.zero_add, put_put, put_same, reduceIte, Bool.false_eq_true, Bool.true_eq_false, Bool.not_true, Bool.not_false, at_0, at_1, at_2, at_3, at_4, at_5, at_6, at_7, ix_1_0, ix_2_0, ix_2_1, ix_3_0, ix_3_1, ix_3_2, ix_4_0, ix_4_1, ix_4_2, ix_4_3]
    refine ⟨by decide, hN _ _ ?_⟩
    refine sSeq_i fun N hN => ?_
    simp only [sf.h, wh_ne, sSeq, sAsg, sDrop, sRet, sRetN, sIf, sNext, sPar, sPar3, sFor, sRaise, sFldT, sNo, rNo, rVar, rFrz, rC, rBin, rTest, bAnd, bOr, bNot, bIf, vAnd, vOr, vNot, rIf, rNeg, aNil, aCons, rTup, rLst, rLstC, rArgs, gNameT, gNilT, gConsT, gTupT, gSubT, iSeq, iRng1T, iRng2T, rLc, rCall, rCallN, rCallS, rFld, rCon, rMake, rMakeN, rMakeP, rMeth, rMethK, rProp, rClsFn, rOpOwn, rSl, oNone, oSome, rFmt, kFmt, rJs, rLidx, kStrOwn, kAddC, rMut, kAdd, kI2, kI2n, kMul, kIx, kIn, kLen, kU, kA2, kDm, kStrI, kAll, kSl, kAppend, kExtend, kTuple, kList, lenT, seqOf, bYes, startT, one, pickG, selG, insOf, putT, flatT, Bool.false_xor, Bool.true_xor, List.all_cons, List.all_nil, Bool.and_self, T.int.injEq, T.bl.injEq, T.str.injEq, T.lst.injEq, T.tup.injEq, T.cell.injEq, T.ins.injEq, Cell.lst.injEq, Cell.ins.injEq, Prod.mk.injEq, List.cons.injEq, Option.some.injEq, List.map_cons, List.map_nil, List.length_cons, List.length_nil, List.cons_append, List.nil_append, List.append_nil, List.getElem?_cons_zero, List.getElem?_cons_succ, List.set_cons_zero, List.set_cons_succ, List.replicate_succ, List.replicate_zero, exists_eq_left, exists_eq_left', exists_and_left, and_true, true_and, and_self, and_assoc, Nat.sub_self, Nat.reduceAdd, Nat.reduceSub, Nat.zero_add, put_put, put_same, reduceIte, Bool.false_eq_true, Bool.true_eq_false, Bool.not_true, Bool.not_false, at_0, at_1, at_2, at_3, at_4, at_5, at_6, at_7, ix_1_0, ix_2_0, ix_2_1, ix_3_0, ix_3_1, ix_3_2, ix_4_0, ix_4_1, ix_4_2, ix_4_3]
    refine ⟨by decide, hN _ _ ?_⟩
    simp only [sf.c, cw_ne, ch_ne, sSeq, sAsg, sDrop, sRet, sRetN, sIf, sNext, sPar, sPar3, sFor, sRaise, sFldT, sNo, rNo, rVar, rFrz, rC, rBin, rTest, bAnd, bOr, bNot, bIf, vAnd, vOr, vNot, rIf, rNeg, aNil, aCons, rTup, rLst, rLstC, rArgs, gNameT, gNilT, gConsT, gTupT, gSubT, iSeq, iRng1T, iRng2T, rLc, rCall, rCallN, rCallS, rFld, rCon, rMake, rMakeN, rMakeP, rMeth, rMethK, rProp, rClsFn, rOpOwn, rSl, oNone, oSome, rFmt, kFmt, rJs, rLidx, kStrOwn, kAddC, rMut, kAdd, kI2, kI2n, kMul, kIx, kIn, kLen, kU, kA2, kDm, kStrI, kAll, kSl, kAppend, kExtend, kTuple, kList, lenT, seqOf, bYes, startT, one, pickG, selG, insOf, putT, flatT, Bool.false_xor, Bool.true_xor, List.all_cons, List.all_nil, Bool.and_self, T.int.injEq, T.bl.injEq, T.str.injEq, T.lst.injEq, T.tup.injEq, T.cell.injEq, T.ins.injEq, Cell.lst.injEq, Cell.ins.injEq, Prod.mk.injEq, List.cons.injEq, Option.some.injEq, List.map_cons, List.map_nil, List.length_cons, List.length_nil, List.cons_append, List.nil_append, List.append_nil, List.getElem?_cons_zero, List.getElem?_cons_succ, List.set_cons_zero, List.set_cons_succ, List.replicate_succ, List.replicate_zero, exists_eq_left, exists_eq_left', exists_and_left, and_true, true_and, and_self, and_assoc, Nat.sub_self, Nat.reduceAdd, Nat.reduceSub, Nat.zero_add, put_put, put_same, reduceIte, Bool.false_eq_true, Bool.true_eq_false, Bool.not_true, Bool.not_false, at_0, at_1, at_2, at_3, at_4, at_5, at_6, at_7, ix_1_0, ix_2_0, ix_2_1, ix_3_0, ix_3_1, ix_3_2, ix_4_0, ix_4_1, ix_4_2, ix_4_3]
    exact ⟨by decide, q⟩
  · exact h.elim
theorem sc_Shrink_init : FnScope ["self", "width", "height", "cover"] ["self", "width", "height", "cover"] (defScope s_Shrink_init) := ⟨rfl, rfl, rfl, by decide +kernel, rfl, by decide +kernel, by decide +kernel⟩
def sp_Shrink_init (C : Addr) : SpT := fun ts S R _ => match ts with
  | [.cell u, .int w, .int h, .bl c] => S u = some (.ins C []) ∧ Bx w ∧ Bx h ∧ R .non (S.put u (.ins C (stF w h c)))
  | _ => False
theorem ok_Shrink_init {P : Program} {w : World} {K : PySem.W.Frag} {mg : Str → Option Value} {base : Heap} {f : Addr} {fd : FuncData} {g_Scaling_init C_Scaling C_Shrink : Addr} {gd_Scaling_init : FuncData} (F : FunD K "__init__" "Shrink.__init__" (defArgs s_Shrink_init) (defBody s_Shrink_init) (defScope s_Shrink_init) [] [("cover", .bl false)] f fd)
    (G_Scaling_init : FnT P w K mg base 4 g_Scaling_init gd_Scaling_init ["self", "width", "height", "cover"] (sp_Scaling_init K))
    (b_Scaling_init : Binds K gd_Scaling_init ["self", "width", "height", "cover"] [])
    (m_Scaling : mg "Scaling" = some (.ref C_Scaling))
    (cr_Scaling : ClX.CRead K C_Scaling (.type "type"))
    (cf_Scaling_init : PySem.W.findCls K (.ref C_Scaling) (.type "type") "__init__" = some (.val (.ref g_Scaling_init)))
    (k_Scaling_init : PySem.W.keepIn K (.ref g_Scaling_init) = true)
    (nf_Shrink_width : InF K C_Shrink "width")
    (nf_Shrink_height : InF K C_Shrink "height")
    (nf_Shrink_cover : InF K C_Shrink "cover")
    : FnT P w K mg base 5 f fd ["self", "width", "height", "cover"] (sp_Shrink_init C_Shrink) := by
  refine okTK F sc_Shrink_init (by intro ts S R RE h; unfold sp_Shrink_init at h; split at h <;> first | rfl | exact h.elim) (fun cdv A out s H E hg hr => (bs_one (ss_expr (et_clsfn cr_Scaling cf_Scaling_init k_Scaling_init G_Scaling_init (CallD.all b_Scaling_init) (hr.mono (by decide)) hg (passL2N (L2N.takes_of rfl rfl rfl rfl)) (by rfl) m_Scaling (at_cons (et_var (pv 0)) (at_cons (et_var (pv 1)) (at_cons (et_var (pv 2)) (at_cons (et_var (pv 3)) at_nil)))))))) ?_
  intro ts S R RE h
  unfold sp_Shrink_init at h
  split at h
  · rename_i u w h c
    obtain ⟨hu, hw, hh, q⟩ := h
    simp only [sp_Scaling_init, sSeq, sAsg, sDrop, sRet, sRetN, sIf, sNext, sPar, sPar3, sFor, sRaise, sFldT, sNo, rNo, rVar, rFrz, rC, rBin, rTest, bAnd, bOr, bNot, bIf, vAnd, vOr, vNot, rIf, rNeg, aNil, aCons, rTup, rLst, rLstC, rArgs, gNameT, gNilT, gConsT, gTupT, gSubT, iSeq, iRng1T, iRng2T, rLc, rCall, rCallN, rCallS, rFld, rCon, rMake, rMakeN, rMakeP, rMeth, rMethK, rProp, rClsFn, rOpOwn, rSl, oNone, oSome, rFmt, kFmt, rJs, rLidx, kStrOwn, kAddC, rMut, kAdd, kI2, kI2n, kMul, kIx, kIn, kLen, kU, kA2, kDm, kStrI, kAll, kSl, kAppend, kExtend, kTuple, kList, lenT, seqOf, bYes, startT, one, pickG, selG, insOf, putT, flatT, Bool.false_xor, Bool.true_xor, List.all_cons, List.all_nil, Bool.and_self, T.int.injEq, T.bl.injEq, T.str.injEq, T.lst.injEq, T.tup.injEq, T.cell.injEq, T.ins.injEq, Cell.lst.injEq, Cell.ins.injEq, Prod.mk.injEq, List.cons.injEq, Option.some.injEq, List.map_cons, List.map_nil, List.length_cons, List.length_nil, List.cons_append, List.nil_append, List.append_nil, List.getElem?_cons_zero, List.getElem?_cons_succ, List.set_cons_zero, List.set_cons_succ, List.replicate_succ, List.replicate_zero, exists_eq_left, exists_eq_left', exists_and_left, and_true, true_and, and_self, and_assoc, Nat.sub_self, Nat.reduceAdd, Nat.reduceSub, Nat.zero_add, put_put, put_same, reduceIte, Bool.false_eq_true, Bool.true_eq_false, Bool.not_true, Bool.not_false, at_0, at_1, at_2, at_3, at_4, at_5, at_6, at_7, ix_1_0, ix_2_0, ix_2_1, ix_3_0, ix_3_1, ix_3_2, ix_4_0, ix_4_1, ix_4_2, ix_4_3]
    exact ⟨C_Shrink, hu, ⟨nf_Shrink_width, nf_Shrink_height, nf_Shrink_cover⟩, hw, hh, q⟩
  · exact h.elim
theorem sc_Grow_init : FnScope ["self", "width", "height", "cover"] ["self", "width", "height", "cover"] (defScope s_Grow_init) := ⟨rfl, rfl, rfl, by decide +kernel, rfl, by decide +kernel, by decide +kernel⟩
def sp_Grow_init (C : Addr) : SpT := fun ts S R _ => match ts with
  | [.cell u, .int w, .int h, .bl c] => S u = some (.ins C []) ∧ Bx w ∧ Bx h ∧ R .non (S.put u (.ins C (stF w h c)))
  | _ => False
theorem ok_Grow_init {P : Program} {w : World} {K : PySem.W.Frag} {mg : Str → Option Value} {base : Heap} {f : Addr} {fd : FuncData} {g_Scaling_init C_Scaling C_Grow : Addr} {gd_Scaling_init : FuncData} (F : FunD K "__init__" "Grow.__init__" (defArgs s_Grow_init) (defBody s_Grow_init) (defScope s_Grow_init) [] [("cover", .bl false)] f fd)
    (G_Scaling_init : FnT P w K mg base 4 g_Scaling_init gd_Scaling_init ["self", "width", "height", "cover"] (sp_Scaling_init K))
    (b_Scaling_init : Binds K gd_Scaling_init ["self", "width", "height", "cover"] [])
    (m_Scaling : mg "Scaling" = some (.ref C_Scaling))
    (cr_Scaling : ClX.CRead K C_Scaling (.type "type"))
    (cf_Scaling_init : PySem.W.findCls K (.ref C_Scaling) (.type "type") "__init__" = some (.val (.ref g_Scaling_init)))
    (k_Scaling_init : PySem.W.keepIn K (.ref g_Scaling_init) = true)
    (nf_Grow_width : InF K C_Grow "width")
    (nf_Grow_height : InF K C_Grow "height")
    (nf_Grow_cover : InF K C_Grow "cover")
    : FnT P w K mg base 5 f fd ["self", "width", "height", "cover"] (sp_Grow_init C_Grow) := by
  refine okTK F sc_Grow_init (by intro ts S R RE h; unfold sp_Grow_init at h; split at h <;> first | rfl | exact h.elim) (fun cdv A out s H E hg hr => (bs_one (ss_expr (et_clsfn cr_Scaling cf_Scaling_init k_Scaling_init G_Scaling_init (CallD.all b_Scaling_init) (hr.mono (by decide)) hg (passL2N (L2N.takes_of rfl rfl rfl rfl)) (by rfl) m_Scaling (at_cons (et_var (pv 0)) (at_cons (et_var (pv 1)) (at_cons (et_var (pv 2)) (at_cons (et_var (pv 3)) at_nil)))))))) ?_
  intro ts S R RE h
  unfold sp_Grow_init at h
  split at h
  · rename_i u w h c
    obtain ⟨hu, hw, hh, q⟩ := h
    simp only [sp_Scaling_init, sSeq, sAsg, sDrop, sRet, sRetN, sIf, sNext, sPar, sPar3, sFor, sRaise, sFldT, sNo, rNo, rVar, rFrz, rC, rBin, rTest, bAnd, bOr, bNot, bIf, vAnd, vOr, vNot, rIf, rNeg, aNil, aCons, rTup, rLst, rLstC, rArgs, gNameT, gNilT, gConsT, gTupT, gSubT, iSeq, iRng1T, iRng2T, rLc, rCall, rCallN, rCallS, rFld, rCon, rMake, rMakeN, rMakeP, rMeth, rMethK, rProp, rClsFn, rOpOwn, rSl, oNone, oSome, rFmt, kFmt, rJs, rLidx, kStrOwn, kAddC, rMut, kAdd, kI2, kI2n, kMul, kIx, kIn, kLen, kU, kA2, kDm, kStrI, kAll, kSl, kAppend, kExtend, kTuple, kList, lenT, seqOf, bYes, startT, one, pickG, selG, insOf, putT, flatT, Bool.false_xor, Bool.true_xor, List.all_cons, List.all_nil, Bool.and_self, T.int.injEq, T.bl.injEq, T.str.injEq, T.lst.injEq, T.tup.injEq, T.cell.injEq, T.ins.injEq, Cell.lst.injEq, Cell.ins.injEq, Prod.mk.injEq, List.cons.injEq, Option.some.injEq, List.map_cons, List.map_nil, List.length_cons, List.length_nil, List.cons_append, List.nil_append, List.append_nil, List.getElem?_cons_zero, List.getElem?_cons_succ, List.set_cons_zero, List.set_cons_succ, List.replicate_succ, List.replicate_zero, exists_eq_left, exists_eq_left', exists_and_left, and_true, true_and, and_self, and_assoc, Nat.sub_self, Nat.reduceAdd, Nat.reduceSub, Nat.zero_add, put_put, put_same, reduceIte, Bool.false_eq_true, Bool.true_eq_false, Bool.not_true, Bool.not_false, at_0, at_1, at_2, at_3, at_4, at_5, at_6, at_7, ix_1_0, ix_2_0, ix_2_1, ix_3_0, ix_3_1, ix_3_2, ix_4_0, ix_4_1, ix_4_2, ix_4_3]
    exact ⟨C_Grow, hu, ⟨nf_Grow_width, nf_Grow_height, nf_Grow_cover⟩, hw, hh, q⟩
  · exact h.elim
theorem mk_step {C : Addr} {w h : Int} {c : Bool} {S : Store} {R : T → Store → Prop} (q : R (.ins C (stF w h c)) S) : ∀ u, S u = none → ∀ S3, S3 = (S.put u (.ins C [])).put u (.ins C (stF w h c)) → (∃ gs, S3 u = some (.ins C gs) ∧ R (.ins C gs) (S3.drop u)) := fun u hu S3 e => by
  subst e
  exact ⟨_, put_same, by rw [put_put, put_drop hu]; exact q⟩
theorem mk_shrink {C : Addr} {w h : Int} {c : Bool} {S : Store} {R : T → Store → Prop} {RE : XT} (hw : Bx w) (hh : Bx h) (q : R (.ins C (stF w h c)) S) :
    ∀ u, S u = none → sp_Shrink_init C [.cell u, .int w, .int h, .bl c] (S.put u (.ins C [])) (fun z S2 => z = .non ∧ ∃ gs, S2 u = some (.ins C gs) ∧ R (.ins C gs) (S2.drop u)) RE := fun u hu =>
  ⟨put_same, hw, hh, rfl, mk_step q u hu _ rfl⟩
theorem mk_grow {C : Addr} {w h : Int} {c : Bool} {S : Store} {R : T → Store → Prop} {RE : XT} (hw : Bx w) (hh : Bx h) (q : R (.ins C (stF w h c)) S) :
    ∀ u, S u = none → sp_Grow_init C [.cell u, .int w, .int h, .bl c] (S.put u (.ins C [])) (fun z S2 => z = .non ∧ ∃ gs, S2 u = some (.ins C gs) ∧ R (.ins C gs) (S2.drop u)) RE := fun u hu =>
  ⟨put_same, hw, hh, rfl, mk_step q u hu _ rfl⟩
/-! crops -/
def crF (w h : Int) (k : Str) : List (Str × T) := [("width", .int w), ("height", .int h), ("keep", .str k)]
theorem kw_ne : ¬ (("width" : Str) = "keep") := by decide +kernel
theorem kh_ne : ¬ (("height" : Str) = "keep") := by decide +kernel
theorem crF_w {w h : Int} {c : Str} : (crF w h c).lookup ("width" : Str) = some (.int w) := by simp [crF, List.lookup]
theorem crF_h {w h : Int} {c : Str} : (crF w h c).lookup ("height" : Str) = some (.int h) := by
  have e : (("height" : Str) == "width") = false := by decide +kernel
  simp [crF, List.lookup, e]
theorem crF_apply {w h : Int} {c : Str} : (crF w h c).lookup ("apply" : Str) = none := by
  have e : (("apply" : Str) == "width") = false := by decide +kernel
  have e2 : (("apply" : Str) == "height") = false := by decide +kernel
  have e3 : (("apply" : Str) == "keep") = false := by decide +kernel
  simp [crF, List.lookup, e, e2, e3]
structure CF (K : PySem.W.Frag) (C : Addr) : Prop where
  w : InF K C "width"
  h : InF K C "height"
  k : InF K C "keep"
def keepsW : List T := [.str "left", .str "center", .str "right"]
def keepsH : List T := [.str "top", .str "center", .str "bottom"]
theorem isStr {K : PySem.W.Frag} {z : Str} {S : Store} {R : T → Store → Prop} {RE : XT} (q : R (.bl true) S) : kIsi K [.str z, .ty "str"] S R RE := by
  have := ValT.str (K := K) (S := S) (z := z) |>.is (n := "str") (by decide) (R := R) (RE := RE) (by show R (.bl true) S; exact q)
  exact this
theorem notIn {a : Str} {l : List T} {S : Store} {R : T → Store → Prop} {RE : XT} (hl : l.all flatT = true) (e : inT (.str a) l = true) (q : R (.bl false) S) : kIn true (.str a) (.tup l) S R RE := ⟨l, rfl, rfl, hl, by rw [e, Bool.true_xor]; exact q⟩
theorem sc_Crop_init : FnScope ["self", "width", "height", "keep", "words"] ["self", "width", "height", "keep", "words"] (defScope s_Crop_init) := ⟨rfl, rfl, rfl, by decide +kernel, rfl, by decide +kernel, by decide +kernel⟩
def sp_Crop_init (K : PySem.W.Frag) : SpT := fun ts S R _ => match ts with
  | [.cell u, .int w, .int h, .str k, .tup ws] => ∃ C, S u = some (.ins C []) ∧ CF K C ∧ Bx w ∧ Bx h ∧ ws.all flatT = true ∧ inT (.str k) ws = true ∧ R .non (S.put u (.ins C (crF w h k)))
  | _ => False
theorem ok_Crop_init {P : Program} {w : World} {K : PySem.W.Frag} {mg : Str → Option Value} {base : Heap} {f : Addr} {fd : FuncData} {g_check_box : Addr} {gd_check_box : FuncData} (F : Fun K "__init__" "Crop.__init__" s_Crop_init f fd)
    (n_isinstance : mg "isinstance" = none)
    (n_str : mg "str" = none)
    (G_check_box : FnT P w K mg base 3 g_check_box gd_check_box ["width", "height"] (sp_check_box K))
    (m_check_box : mg "check_box" = some (.ref g_check_box))
    (k_check_box : PySem.W.keepIn K (.ref g_check_box) = true)
    (b_check_box : Binds K gd_check_box ["width", "height"] [])
    : FnT P w K mg base 4 f fd ["self", "width", "height", "keep", "words"] (sp_Crop_init K) := by
  refine okT F sc_Crop_init (by intro ts S R RE h; unfold sp_Crop_init at h; split at h <;> first | rfl | exact h.elim) (fun cdv A out s H E hg hr => (bs_cons (ss_expr (et_callD G_check_box hg (hr.mono (by decide)) (by rfl) m_check_box k_check_box (CallD.all b_check_box) (passL2N (L2N.takes_of rfl rfl rfl rfl)) (at_cons (et_var (pv 1)) (at_cons (et_var (pv 2)) at_nil))))
    (bs_cons (ss_if (tt_w (tw_or (tt_not (tt_val (et_blt call_isi (cv_isi (K := K)) (by rfl) n_isinstance PyProof.Rows.boot_isinstance (at_cons (et_var (pv 3)) (at_cons (et_blty (by rfl) n_str PyProof.Rows.boot_str) at_nil))))) (tw_or1 (tt_cmp op_notinG cv_notin (et_var (pv 3)) (et_var (pv 4)) (by rfl))))) (bs_one ss_never) bs_nil)
    (bs_cons (ss_fldK K rfl (et_var (pv 0)) (et_var (pv 1)))
    (bs_cons (ss_fldK K rfl (et_var (pv 0)) (et_var (pv 2)))
    (bs_one (ss_fldK K rfl (et_var (pv 0)) (et_var (pv 3))))))))) ?_
  intro ts S R RE h
  unfold sp_Crop_init at h
  split at h
  · rename_i u w h k ws
    obtain ⟨C, hu, cf, hw, hh, hf, hi, q⟩ := h
    refine sSeq_i fun N hN => ?_
    simp only [sp_check_box, sSeq, sAsg, sDrop, sRet, sRetN, sIf, sNext, sPar, sPar3, sFor, sRaise, sFldT, sNo, rNo, rVar, rFrz, rC, rBin, rTest, bAnd, bOr, bNot, bIf, vAnd, vOr, vNot, rIf, rNeg, aNil, aCons, rTup, rLst, rLstC, rArgs, gNameT, gNilT, gConsT, gTupT, gSubT, iSeq, iRng1T, iRng2T, rLc, rCall, rCallN, rCallS, rFld, rCon, rMake, rMakeN, rMakeP, rMeth, rMethK, rProp, rClsFn, rOpOwn, rSl, oNone, oSome, rFmt, kFmt, rJs, rLidx, kStrOwn, kAddC, rMut, kAdd, kI2, kI2n, kMul, kIx, kIn, kLen, kU, kA2, kDm, kStrI, kAll, kSl, kAppend, kExtend, kTuple, kList, lenT, seqOf, bYes, startT, one, pickG, selG, insOf, putT, flatT, Bool.false_xor, Bool.true_xor, List.all_cons, List.all_nil, Bool.and_self, T.int.injEq, T.bl.injEq, T.str.injEq, T.lst.injEq, T.tup.injEq, T.cell.injEq, T.ins.injEq, Cell.lst.injEq, Cell.ins.injEq, Prod.mk.injEq, List.cons.injEq, Option.some.injEq, List.map_cons, List.map_nil, List.length_cons, List.length_nil, List.cons_append, List.nil_append, List.append_nil, List.getElem?_cons_zero, List.getElem?_cons_succ, List.set_cons_zero, List.set_cons_succ, List.replicate_succ, List.replicate_zero, exists_eq_left, exists_eq_left', exists_and_left, and_true, true_and, and_self, and_assoc, Nat.sub_self, Nat.reduceAdd, Nat.reduceSub, Nat.zero_add, put_put, put_same, reduceIte, Bool.false_eq_true, Bool.true_eq_false, Bool.not_true, Bool.not_false, at_0, at_1, at_2, at_3, at_4, at_5, at_6, at_7, ix_1_0, ix_2_0, ix_2_1, ix_3_0, ix_3_1, ix_3_2, ix_4_0, ix_4_1, ix_4_2, ix_4_3]
    refine ⟨hw, hh, hN _ _ ?_⟩
    refine sSeq_i fun N hN => ?_
    simp only [sSeq, sAsg, sDrop, sRet, sRetN, sIf, sNext, sPar, sPar3, sFor, sRaise, sFldT, sNo, rNo, rVar, rFrz, rC, rBin, rTest, bAnd, bOr, bNot, bIf, vAnd, vOr, vNot, rIf, rNeg, aNil, aCons, rTup, rLst, rLstC, rArgs, gNameT, gNilT, gConsT, gTupT, gSubT, iSeq, iRng1T, iRng2T, rLc, rCall, rCallN, rCallS, rFld, rCon, rMake, rMakeN, rMakeP, rMeth, rMethK, rProp, rClsFn, rOpOwn, rSl, oNone, oSome, rFmt, kFmt, rJs, rLidx, kStrOwn, kAddC, rMut, kAdd, kI2, kI2n, kMul, kIx, kLen, kU, kA2, kDm, kStrI, kAll, kSl, kAppend, kExtend, kTuple, kList, lenT, seqOf, bYes, startT, one, pickG, selG, insOf, putT, flatT, Bool.false_xor, Bool.true_xor, List.all_cons, List.all_nil, Bool.and_self, T.int.injEq, T.bl.injEq, T.str.injEq, T.lst.injEq, T.tup.injEq, T.cell.injEq, T.ins.injEq, Cell.lst.injEq, Cell.ins.injEq, Prod.mk.injEq, List.cons.injEq, Option.some.injEq, List.map_cons, List.map_nil, List.length_cons, List.length_nil, List.cons_append, List.nil_append, List.append_nil, List.getElem?_cons_zero, List.getElem?_cons_succ, List.set_cons_zero, List.set_cons_succ, List.replicate_succ, List.replicate_zero, exists_eq_left, exists_eq_left', exists_and_left, and_true, true_and, and_self, and_assoc, Nat.sub_self, Nat.reduceAdd, Nat.reduceSub, Nat.zero_add, put_put, put_same, reduceIte, Bool.false_eq_true, Bool.true_eq_false, Bool.not_true, Bool.not_false, at_0, at_1, at_2, at_3, at_4, at_5, at_6, at_7, ix_1_0, ix_2_0, ix_2_1, ix_3_0, ix_3_1, ix_3_2, ix_4_0, ix_4_1, ix_4_2, ix_4_3]
    refine isStr ⟨true, rfl, ?_⟩
    simp only [sSeq, sAsg, sDrop, sRet, sRetN, sIf, sNext, sPar, sPar3, sFor, sRaise, sFldT, sNo, rNo, rVar, rFrz, rC, rBin, rTest, bAnd, bOr, bNot, bIf, vAnd, vOr, vNot, rIf, rNeg, aNil, aCons, rTup, rLst, rLstC, rArgs, gNameT, gNilT, gConsT, gTupT, gSubT, iSeq, iRng1T, iRng2T, rLc, rCall, rCallN, rCallS, rFld, rCon, rMake, rMakeN, rMakeP, rMeth, rMethK, rProp, rClsFn, rOpOwn, rSl, oNone, oSome, rFmt, kFmt, rJs, rLidx, kStrOwn, kAddC, rMut, kAdd, kI2, kI2n, kMul, kIx, kLen, kU, kA2, kDm, kStrI, kAll, kSl, kAppend, kExtend, kTuple, kList, lenT, seqOf, bYes, startT, one, pickG, selG, insOf, putT, flatT, Bool.false_xor, Bool.true_xor, List.all_cons, List.all_nil, Bool.and_self, T.int.injEq, T.bl.injEq, T.str.injEq, T.lst.injEq, T.tup.injEq, T.cell.injEq, T.ins.injEq, Cell.lst.injEq, Cell.ins.injEq, Prod.mk.injEq, List.cons.injEq, Option.some.injEq, List.map_cons, List.map_nil, List.length_cons, List.length_nil, List.cons_append, List.nil_append, List.append_nil, List.getElem?_cons_zero, List.getElem?_cons_succ, List.set_cons_zero, List.set_cons_succ, List.replicate_succ, List.replicate_zero, exists_eq_left, exists_eq_left', exists_and_left, and_true, true_and, and_self, and_assoc, Nat.sub_self, Nat.reduceAdd, Nat.reduceSub, Nat.zero_add, put_put, put_same, reduceIte, Bool.false_eq_true, Bool.true_eq_false, Bool.not_true, Bool.not_false, at_0, at_1, at_2, at_3, at_4, at_5, at_6, at_7, ix_1_0, ix_2_0, ix_2_1, ix_3_0, ix_3_1, ix_3_2, ix_4_0, ix_4_1, ix_4_2, ix_4_3]
    refine notIn hf hi ⟨false, rfl, ?_⟩
    simp only [sSeq, sAsg, sDrop, sRet, sRetN, sIf, sNext, sPar, sPar3, sFor, sRaise, sFldT, sNo, rNo, rVar, rFrz, rC, rBin, rTest, bAnd, bOr, bNot, bIf, vAnd, vOr, vNot, rIf, rNeg, aNil, aCons, rTup, rLst, rLstC, rArgs, gNameT, gNilT, gConsT, gTupT, gSubT, iSeq, iRng1T, iRng2T, rLc, rCall, rCallN, rCallS, rFld, rCon, rMake, rMakeN, rMakeP, rMeth, rMethK, rProp, rClsFn, rOpOwn, rSl, oNone, oSome, rFmt, kFmt, rJs, rLidx, kStrOwn, kAddC, rMut, kAdd, kI2, kI2n, kMul, kIx, kLen, kU, kA2, kDm, kStrI, kAll, kSl, kAppend, kExtend, kTuple, kList, lenT, seqOf, bYes, startT, one, pickG, selG, insOf, putT, flatT, Bool.false_xor, Bool.true_xor, List.all_cons, List.all_nil, Bool.and_self, T.int.injEq, T.bl.injEq, T.str.injEq, T.lst.injEq, T.tup.injEq, T.cell.injEq, T.ins.injEq, Cell.lst.injEq, Cell.ins.injEq, Prod.mk.injEq, List.cons.injEq, Option.some.injEq, List.map_cons, List.map_nil, List.length_cons, List.length_nil, List.cons_append, List.nil_append, List.append_nil, List.getElem?_cons_zero, List.getElem?_cons_succ, List.set_cons_zero, List.set_cons_succ, List.replicate_succ, List.replicate_zero, exists_eq_left, exists_eq_left', exists_and_left, and_true, true_and, and_self, and_assoc, Nat.sub_self, Nat.reduceAdd, Nat.reduceSub, Nat.zero_add, put_put, put_same, reduceIte, Bool.false_eq_true, Bool.true_eq_false, Bool.not_true, Bool.not_false, at_0, at_1, at_2, at_3, at_4, at_5, at_6, at_7, ix_1_0, ix_2_0, ix_2_1, ix_3_0, ix_3_1, ix_3_2, ix_4_0, ix_4_1, ix_4_2, ix_4_3]
    refine hN _ _ ?_
    refine sSeq_i fun N hN => ?_
    simp only [hu, cf.w, sSeq, sAsg, sDrop, sRet, sRetN, sIf, sNext, sPar, sPar3, sFor, sRaise, sFldT, sNo, rNo, rVar, rFrz, rC, rBin, rTest, bAnd, bOr, bNot, bIf, vAnd, vOr, vNot, rIf, rNeg, aNil, aCons, rTup, rLst, rLstC, rArgs, gNameT, gNilT, gConsT, gTupT, gSubT, iSeq, iRng1T, iRng2T, rLc, rCall, rCallN, rCallS, rFld, rCon, rMake, rMakeN, rMakeP, rMeth, rMethK, rProp, rClsFn, rOpOwn, rSl, oNone, oSome, rFmt, kFmt, rJs, rLidx, kStrOwn, kAddC, rMut, kAdd, kI2, kI2n, kMul, kIx, kIn, kLen, kU, kA2, kDm, kStrI, kAll, kSl, kAppend, kExtend, kTuple, kList, lenT, seqOf, bYes, startT, one, pickG, selG, insOf, putT, flatT, Bool.false_xor, Bool.true_xor, List.all_cons, List.all_nil, Bool.and_self, T.int.injEq, T.bl.injEq, T.str.injEq, T.lst.injEq, T.tup.injEq, T.cell.injEq, T.ins.injEq, Cell.lst.injEq, Cell.ins.injEq, Prod.mk.injEq, List.cons.injEq, Option.some.injEq, List.map_cons, List.map_nil, List.length_cons, List.length_nil, List.cons_append, List.nil_append, List.append_nil, List.getElem?_cons_zero, List.getElem?_cons_succ, List.set_cons_zero, List.set_cons_succ, List.replicate_succ, List.replicate_zero, exists_eq_left, exists_eq_left', exists_and_left, and_true, true_and, and_self, and_assoc, Nat.sub_self, Nat.reduceAdd, Nat.reduceSub, Nat.zero_add, put_put, put_same, reduceIte, Bool.false_eq_true, Bool.true_eq_false, Bool.not_true, Bool.not_false, at_0, at_1, at_2, at_3, at_4, at_5, at_6, at_7, ix_1_0, ix_2_0, ix_2_1, ix_3_0, ix_3_1, ix_3_2, ix_4_0, ix_4_1, ix_4_2, ix_4_3]
    refine ⟨by decide, hN _ _ ?_⟩
    refine sSeq_i fun N hN => ?_
    simp only [cf.h, wh_ne, sSeq, sAsg, sDrop, sRet, sRetN, sIf, sNext, sPar, sPar3, sFor, sRaise, sFldT, sNo, rNo, rVar, rFrz, rC, rBin, rTest, bAnd, bOr, bNot, bIf, vAnd, vOr, vNot, rIf, rNeg, aNil, aCons, rTup, rLst, rLstC, rArgs, gNameT, gNilT, gConsT, gTupT, gSubT, iSeq, iRng1T, iRng2T, rLc, rCall, rCallN, rCallS, rFld, rCon, rMake, rMakeN, rMakeP, rMeth, rMethK, rProp, rClsFn, rOpOwn, rSl, oNone, oSome, rFmt, kFmt, rJs, rLidx, kStrOwn, kAddC, rMut, kAdd, kI2, kI2n, kMul, kIx, kIn, kLen, kU, kA2, kDm, kStrI, kAll, kSl, kAppend, kExtend, kTuple, kList, lenT, seqOf, bYes, startT, one, pickG, selG, insOf, putT, flatT, Bool.false_xor, Bool.true_xor, List.all_cons, List.all_nil, Bool.and_self, T.int.injEq, T.bl.injEq, T.str.injEq, T.lst.injEq, T.tup.injEq, T.cell.injEq, T.ins.injEq, Cell.lst.injEq, Cell.ins.injEq, Prod.mk.injEq, List.cons.injEq, Option.some.injEq, List.map_cons, List.map_nil, List.length_cons, List.length_nil, List.cons_append, List.nil_append, List.append_nil, List.getElem?_cons_zero, List.getElem?_cons_succ, List.set_cons_zero, List.set_cons_succ, List.replicate_succ, List.replicate_zero, exists_eq_left, exists_eq_left', exists_and_left, and_true, true_and, and_self, and_assoc, Nat.sub_self, Nat.reduceAdd, Nat.reduceSub, Nat.zero_add, put_put, put_same, reduceIte, Bool.false_eq_true, Bool.true_eq_false, Bool.not_true, Bool.not_false, at_0, at_1, at_2, at_3, at_4, at_5, at_6, at_7, ix_1_0, ix_2_0, ix_2_1, ix_3_0, ix_3_1, ix_3_2, ix_4_0, ix_4_1, ix_4_2, ix_4_3]
    refine ⟨by decide, hN _ _ ?_⟩
    simp only [cf.k, kw_ne, kh_ne, sSeq, sAsg, sDrop, sRet, sRetN, sIf, sNext, sPar, sPar3, sFor, sRaise, sFldT, sNo, rNo, rVar, rFrz, rC, rBin, rTest, bAnd, bOr, bNot, bIf, vAnd, vOr, vNot, rIf, rNeg, aNil, aCons, rTup, rLst, rLstC, rArgs, gNameT, gNilT, gConsT, gTupT, gSubT, iSeq, iRng1T, iRng2T, rLc, rCall, rCallN, rCallS, rFld, rCon, rMake, rMakeN, rMakeP, rMeth, rMethK, rProp, rClsFn, rOpOwn, rSl, oNone, oSome, rFmt, kFmt, rJs, rLidx, kStrOwn, kAddC, rMut, kAdd, kI2, kI2n, kMul, kIx, kIn, kLen, kU, kA2, kDm, kStrI, kAll, kSl, kAppend, kExtend, kTuple, kList, lenT, seqOf, bYes, startT, one, pickG, selG, insOf, putT, flatT, Bool.false_xor, Bool.true_xor, List.all_cons, List.all_nil, Bool.and_self, T.int.injEq, T.bl.injEq, T.str.injEq, T.lst.injEq, T.tup.injEq, T.cell.injEq, T.ins.injEq, Cell.lst.injEq, Cell.ins.injEq, Prod.mk.injEq, List.cons.injEq, Option.some.injEq, List.map_cons, List.map_nil, List.length_cons, List.length_nil, List.cons_append, List.nil_append, List.append_nil, List.getElem?_cons_zero, List.getElem?_cons_succ, List.set_cons_zero, List.set_cons_succ, List.replicate_succ, List.replicate_zero, exists_eq_left, exists_eq_left', exists_and_left, and_true, true_and, and_self, and_assoc, Nat.sub_self, Nat.reduceAdd, Nat.reduceSub, Nat.zero_add, put_put, put_same, reduceIte, Bool.false_eq_true, Bool.true_eq_false, Bool.not_true, Bool.not_false, at_0, at_1, at_2, at_3, at_4, at_5, at_6, at_7, ix_1_0, ix_2_0, ix_2_1, ix_3_0, ix_3_1, ix_3_2, ix_4_0, ix_4_1, ix_4_2, ix_4_3]
    exact ⟨by decide, q⟩
  · exact h.elim
theorem sc_CropWidth_init : FnScope ["self", "width", "height", "keep"] ["self", "width", "height", "keep"] (defScope s_CropWidth_init) := ⟨rfl, rfl, rfl, by decide +kernel, rfl, by decide +kernel, by decide +kernel⟩
def sp_CropWidth_init (C : Addr) : SpT := fun ts S R _ => match ts with
  | [.cell u, .int w, .int h, .str k] => S u = some (.ins C []) ∧ Bx w ∧ Bx h ∧ inT (.str k) keepsW = true ∧ R .non (S.put u (.ins C (crF w h k)))
  | _ => False
theorem ok_CropWidth_init {P : Program} {w : World} {K : PySem.W.Frag} {mg : Str → Option Value} {base : Heap} {f : Addr} {fd : FuncData} {g_Crop_init C_Crop C_CropWidth : Addr} {gd_Crop_init : FuncData} (F : FunD K "__init__" "CropWidth.__init__" (defArgs s_CropWidth_init) (defBody s_CropWidth_init) (defScope s_CropWidth_init) [] [("keep", .str "center")] f fd)
    (G_Crop_init : FnT P w K mg base 4 g_Crop_init gd_Crop_init ["self", "width", "height", "keep", "words"] (sp_Crop_init K))
    (b_Crop_init : Binds K gd_Crop_init ["self", "width", "height", "keep", "words"] [])
    (m_Crop : mg "Crop" = some (.ref C_Crop))
    (cr_Crop : ClX.CRead K C_Crop (.type "type"))
    (cf_Crop_init : PySem.W.findCls K (.ref C_Crop) (.type "type") "__init__" = some (.val (.ref g_Crop_init)))
    (k_Crop_init : PySem.W.keepIn K (.ref g_Crop_init) = true)
    (m_CropWidth : mg "CropWidth" = some (.ref C_CropWidth))
    (cr_CropWidth : ClX.CRead K C_CropWidth (.type "type"))
    (cv_CropWidth_KEEPS : CValT K C_CropWidth "KEEPS" (.tup [(.str "left"), (.str "center"), (.str "right")]))
    (nf_CropWidth_width : InF K C_CropWidth "width")
    (nf_CropWidth_height : InF K C_CropWidth "height")
    (nf_CropWidth_keep : InF K C_CropWidth "keep")
    : FnT P w K mg base 5 f fd ["self", "width", "height", "keep"] (sp_CropWidth_init C_CropWidth) := by
  refine okTK F sc_CropWidth_init (by intro ts S R RE h; unfold sp_CropWidth_init at h; split at h <;> first | rfl | exact h.elim) (fun cdv A out s H E hg hr => (bs_one (ss_expr (et_clsfn cr_Crop cf_Crop_init k_Crop_init G_Crop_init (CallD.all b_Crop_init) (hr.mono (by decide)) hg (passL2N (L2N.takes_of rfl rfl rfl rfl)) (by rfl) m_Crop (at_cons (et_var (pv 0)) (at_cons (et_var (pv 1)) (at_cons (et_var (pv 2)) (at_cons (et_var (pv 3)) (at_cons (et_cvalT cr_CropWidth cv_CropWidth_KEEPS (by rfl) m_CropWidth) at_nil))))))))) ?_
  intro ts S R RE h
  unfold sp_CropWidth_init at h
  split at h
  · rename_i u w h c
    obtain ⟨hu, hw, hh, hk, q⟩ := h
    simp only [sSeq, sAsg, sDrop, sRet, sRetN, sIf, sNext, sPar, sPar3, sFor, sRaise, sFldT, sNo, rNo, rVar, rFrz, rC, rBin, rTest, bAnd, bOr, bNot, bIf, vAnd, vOr, vNot, rIf, rNeg, aNil, aCons, rTup, rLst, rLstC, rArgs, gNameT, gNilT, gConsT, gTupT, gSubT, iSeq, iRng1T, iRng2T, rLc, rCall, rCallN, rCallS, rFld, rCon, rMake, rMakeN, rMakeP, rMeth, rMethK, rProp, rClsFn, rOpOwn, rSl, oNone, oSome, rFmt, kFmt, rJs, rLidx, kStrOwn, kAddC, rMut, kAdd, kI2, kI2n, kMul, kIx, kLen, kU, kA2, kDm, kStrI, kAll, kSl, kAppend, kExtend, kTuple, kList, lenT, seqOf, bYes, startT, one, pickG, selG, insOf, putT, flatT, Bool.false_xor, Bool.true_xor, List.all_cons, List.all_nil, Bool.and_self, T.int.injEq, T.bl.injEq, T.str.injEq, T.lst.injEq, T.tup.injEq, T.cell.injEq, T.ins.injEq, Cell.lst.injEq, Cell.ins.injEq, Prod.mk.injEq, List.cons.injEq, Option.some.injEq, List.map_cons, List.map_nil, List.length_cons, List.length_nil, List.cons_append, List.nil_append, List.append_nil, List.getElem?_cons_zero, List.getElem?_cons_succ, List.set_cons_zero, List.set_cons_succ, List.replicate_succ, List.replicate_zero, exists_eq_left, exists_eq_left', exists_and_left, and_true, true_and, and_self, and_assoc, Nat.sub_self, Nat.reduceAdd, Nat.reduceSub, Nat.zero_add, put_put, put_same, reduceIte, Bool.false_eq_true, Bool.true_eq_false, Bool.not_true, Bool.not_false, at_0, at_1, at_2, at_3, at_4, at_5, at_6, at_7, ix_1_0, ix_2_0, ix_2_1, ix_3_0, ix_3_1, ix_3_2, ix_4_0, ix_4_1, ix_4_2, ix_4_3]
    refine ⟨C_CropWidth, hu, ⟨nf_CropWidth_width, nf_CropWidth_height, nf_CropWidth_keep⟩, hw, hh, by decide, hk, q⟩
  · exact h.elim
theorem sc_CropHeight_init : FnScope ["self", "width", "height", "keep"] ["self", "width", "height", "keep"] (defScope s_CropHeight_init) := ⟨rfl, rfl, rfl, by decide +kernel, rfl, by decide +kernel, by decide +kernel⟩
def sp_CropHeight_init (C : Addr) : SpT := fun ts S R _ => match ts with
  | [.cell u, .int w, .int h, .str k] => S u = some (.ins C []) ∧ Bx w ∧ Bx h ∧ inT (.str k) keepsH = true ∧ R .non (S.put u (.ins C (crF w h k)))
  | _ => False
theorem ok_CropHeight_init {P : Program} {w : World} {K : PySem.W.Frag} {mg : Str → Option Value} {base : Heap} {f : Addr} {fd : FuncData} {g_Crop_init C_Crop C_CropHeight : Addr} {gd_Crop_init : FuncData} (F : FunD K "__init__" "CropHeight.__init__" (defArgs s_CropHeight_init) (defBody s_CropHeight_init) (defScope s_CropHeight_init) [] [("keep", .str "center")] f fd)
    (G_Crop_init : FnT P w K mg base 4 g_Crop_init gd_Crop_init ["self", "width", "height", "keep", "words"] (sp_Crop_init K))
    (b_Crop_init : Binds K gd_Crop_init ["self", "width", "height", "keep", "words"] [])
    (m_Crop : mg "Crop" = some (.ref C_Crop))
    (cr_Crop : ClX.CRead K C_Crop (.type "type"))
    (cf_Crop_init : PySem.W.findCls K (.ref C_Crop) (.type "type") "__init__" = some (.val (.ref g_Crop_init)))
    (k_Crop_init : PySem.W.keepIn K (.ref g_Crop_init) = true)
    (m_CropHeight : mg "CropHeight" = some (.ref C_CropHeight))
    (cr_CropHeight : ClX.CRead K C_CropHeight (.type "type"))
    (cv_CropHeight_KEEPS : CValT K C_CropHeight "KEEPS" (.tup [(.str "top"), (.str "center"), (.str "bottom")]))
    (nf_CropHeight_width : InF K C_CropHeight "width")
    (nf_CropHeight_height : InF K C_CropHeight "height")
    (nf_CropHeight_keep : InF K C_CropHeight "keep")
    : FnT P w K mg base 5 f fd ["self", "width", "height", "keep"] (sp_CropHeight_init C_CropHeight) := by
  refine okTK F sc_CropHeight_init (by intro ts S R RE h; unfold sp_CropHeight_init at h; split at h <;> first | rfl | exact h.elim) (fun cdv A out s H E hg hr => (bs_one (ss_expr (et_clsfn cr_Crop cf_Crop_init k_Crop_init G_Crop_init (CallD.all b_Crop_init) (hr.mono (by decide)) hg (passL2N (L2N.takes_of rfl rfl rfl rfl)) (by rfl) m_Crop (at_cons (et_var (pv 0)) (at_cons (et_var (pv 1)) (at_cons (et_var (pv 2)) (at_cons (et_var (pv 3)) (at_cons (et_cvalT cr_CropHeight cv_CropHeight_KEEPS (by rfl) m_CropHeight) at_nil))))))))) ?_
  intro ts S R RE h
  unfold sp_CropHeight_init at h
  split at h
  · rename_i u w h c
    obtain ⟨hu, hw, hh, hk, q⟩ := h
    simp only [sSeq, sAsg, sDrop, sRet, sRetN, sIf, sNext, sPar, sPar3, sFor, sRaise, sFldT, sNo, rNo, rVar, rFrz, rC, rBin, rTest, bAnd, bOr, bNot, bIf, vAnd, vOr, vNot, rIf, rNeg, aNil, aCons, rTup, rLst, rLstC, rArgs, gNameT, gNilT, gConsT, gTupT, gSubT, iSeq, iRng1T, iRng2T, rLc, rCall, rCallN, rCallS, rFld, rCon, rMake, rMakeN, rMakeP, rMeth, rMethK, rProp, rClsFn, rOpOwn, rSl, oNone, oSome, rFmt, kFmt, rJs, rLidx, kStrOwn, kAddC, rMut, kAdd, kI2, kI2n, kMul, kIx, kLen, kU, kA2, kDm, kStrI, kAll, kSl, kAppend, kExtend, kTuple, kList, lenT, seqOf, bYes, startT, one, pickG, selG, insOf, putT, flatT, Bool.false_xor, Bool.true_xor, List.all_cons, List.all_nil, Bool.and_self, T.int.injEq, T.bl.injEq, T.str.injEq, T.lst.injEq, T.tup.injEq, T.cell.injEq, T.ins.injEq, Cell.lst.injEq, Cell.ins.injEq, Prod.mk.injEq, List.cons.injEq, Option.some.injEq, List.map_cons, List.map_nil, List.length_cons, List.length_nil, List.cons_append, List.nil_append, List.append_nil, List.getElem?_cons_zero, List.getElem?_cons_succ, List.set_cons_zero, List.set_cons_succ, List.replicate_succ, List.replicate_zero, exists_eq_left, exists_eq_left', exists_and_left, and_true, true_and, and_self, and_assoc, Nat.sub_self, Nat.reduceAdd, Nat.reduceSub, Nat.zero_add, put_put, put_same, reduceIte, Bool.false_eq_true, Bool.true_eq_false, Bool.not_true, Bool.not_false, at_0, at_1, at_2, at_3, at_4, at_5, at_6, at_7, ix_1_0, ix_2_0, ix_2_1, ix_3_0, ix_3_1, ix_3_2, ix_4_0, ix_4_1, ix_4_2, ix_4_3]
    refine ⟨C_CropHeight, hu, ⟨nf_CropHeight_width, nf_CropHeight_height, nf_CropHeight_keep⟩, hw, hh, by decide, hk, q⟩
  · exact h.elim
def tuF (n : Int) : List (Str × T) := [("times", .int n)]
theorem tuF_t {n : Int} : (tuF n).lookup ("times" : Str) = some (.int n) := by simp [tuF, List.lookup]
theorem sc_Turn_init : FnScope ["self", "times"] ["self", "times"] (defScope s_Turn_init) := ⟨rfl, rfl, rfl, by decide +kernel, rfl, by decide +kernel, by decide +kernel⟩
def sp_Turn_init (K : PySem.W.Frag) (C : Addr) : SpT := fun ts S R _ => match ts with
  | [.cell u, .int n] => S u = some (.ins C []) ∧ 0 < n ∧ n ≤ 3 ∧ R .non (S.put u (.ins C (tuF n)))
  | _ => False
theorem ok_Turn_init {P : Program} {w : World} {K : PySem.W.Frag} {mg : Str → Option Value} {base : Heap} {f : Addr} {fd : FuncData} {g_is_positive C_Turn : Addr} {gd_is_positive : FuncData} (F : FunD K "__init__" "Turn.__init__" (defArgs s_Turn_init) (defBody s_Turn_init) (defScope s_Turn_init) [.int 1] [] f fd)
    (G_is_positive : FnT P w K mg base 2 g_is_positive gd_is_positive ["value"] (sp_is_positive K))
    (m_is_positive : mg "is_positive" = some (.ref g_is_positive))
    (k_is_positive : PySem.W.keepIn K (.ref g_is_positive) = true)
    (b_is_positive : Binds K gd_is_positive ["value"] [])
    (nf_Turn_times : InF K C_Turn "times")
    : FnT P w K mg base 3 f fd ["self", "times"] (sp_Turn_init K C_Turn) := by
  refine okTK F sc_Turn_init (by intro ts S R RE h; unfold sp_Turn_init at h; split at h <;> first | rfl | exact h.elim) (fun cdv A out s H E hg hr => (bs_cons (ss_if (tt_w (tw_or (tt_not (tt_val (et_callD G_is_positive hg (hr.mono (by decide)) (by rfl) m_is_positive k_is_positive (CallD.all b_is_positive) (passL2N (L2N.takes_of rfl rfl rfl rfl)) (at_cons (et_var (pv 1)) at_nil)))) (tw_or1 (tt_cmp op_gt cv_B2n (et_var (pv 1)) et_int (nomark _))))) (bs_one ss_never) bs_nil)
    (bs_one (ss_fldK K rfl (et_var (pv 0)) (et_var (pv 1)))))) ?_
  intro ts S R RE h
  unfold sp_Turn_init at h
  split at h
  · rename_i u n
    obtain ⟨hu, n0, n3, q⟩ := h
    have e : isPos (.int n) = true := decide_eq_true n0
    have e3 : decide (3 < n) = false := decide_eq_false (by omega)
    refine sSeq_i fun N hN => ?_
    simp only [sp_is_positive, e, e3, sSeq, sAsg, sDrop, sRet, sRetN, sIf, sNext, sPar, sPar3, sFor, sRaise, sFldT, sNo, rNo, rVar, rFrz, rC, rBin, rTest, bAnd, bOr, bNot, bIf, vAnd, vOr, vNot, rIf, rNeg, aNil, aCons, rTup, rLst, rLstC, rArgs, gNameT, gNilT, gConsT, gTupT, gSubT, iSeq, iRng1T, iRng2T, rLc, rCall, rCallN, rCallS, rFld, rCon, rMake, rMakeN, rMakeP, rMeth, rMethK, rProp, rClsFn, rOpOwn, rSl, oNone, oSome, rFmt, kFmt, rJs, rLidx, kStrOwn, kAddC, rMut, kAdd, kI2, kI2n, kMul, kIx, kIn, kLen, kU, kA2, kDm, kStrI, kAll, kSl, kAppend, kExtend, kTuple, kList, lenT, seqOf, bYes, startT, one, pickG, selG, insOf, putT, flatT, Bool.false_xor, Bool.true_xor, List.all_cons, List.all_nil, Bool.and_self, T.int.injEq, T.bl.injEq, T.str.injEq, T.lst.injEq, T.tup.injEq, T.cell.injEq, T.ins.injEq, Cell.lst.injEq, Cell.ins.injEq, Prod.mk.injEq, List.cons.injEq, Option.some.injEq, List.map_cons, List.map_nil, List.length_cons, List.length_nil, List.cons_append, List.nil_append, List.append_nil, List.getElem?_cons_zero, List.getElem?_cons_succ, List.set_cons_zero, List.set_cons_succ, List.replicate_succ, List.replicate_zero, exists_eq_left, exists_eq_left', exists_and_left, and_true, true_and, and_self, and_assoc, Nat.sub_self, Nat.reduceAdd, Nat.reduceSub, Nat.zero_add, put_put, put_same, reduceIte, Bool.false_eq_true, Bool.true_eq_false, Bool.not_true, Bool.not_false, at_0, at_1, at_2, at_3, at_4, at_5, at_6, at_7, ix_1_0, ix_2_0, ix_2_1, ix_3_0, ix_3_1, ix_3_2, ix_4_0, ix_4_1, ix_4_2, ix_4_3]
    refine ⟨.int, hN _ _ ?_⟩
    simp only [hu, nf_Turn_times, sSeq, sAsg, sDrop, sRet, sRetN, sIf, sNext, sPar, sPar3, sFor, sRaise, sFldT, sNo, rNo, rVar, rFrz, rC, rBin, rTest, bAnd, bOr, bNot, bIf, vAnd, vOr, vNot, rIf, rNeg, aNil, aCons, rTup, rLst, rLstC, rArgs, gNameT, gNilT, gConsT, gTupT, gSubT, iSeq, iRng1T, iRng2T, rLc, rCall, rCallN, rCallS, rFld, rCon, rMake, rMakeN, rMakeP, rMeth, rMethK, rProp, rClsFn, rOpOwn, rSl, oNone, oSome, rFmt, kFmt, rJs, rLidx, kStrOwn, kAddC, rMut, kAdd, kI2, kI2n, kMul, kIx, kIn, kLen, kU, kA2, kDm, kStrI, kAll, kSl, kAppend, kExtend, kTuple, kList, lenT, seqOf, bYes, startT, one, pickG, selG, insOf, putT, flatT, Bool.false_xor, Bool.true_xor, List.all_cons, List.all_nil, Bool.and_self, T.int.injEq, T.bl.injEq, T.str.injEq, T.lst.injEq, T.tup.injEq, T.cell.injEq, T.ins.injEq, Cell.lst.injEq, Cell.ins.injEq, Prod.mk.injEq, List.cons.injEq, Option.some.injEq, List.map_cons, List.map_nil, List.length_cons, List.length_nil, List.cons_append, List.nil_append, List.append_nil, List.getElem?_cons_zero, List.getElem?_cons_succ, List.set_cons_zero, List.set_cons_succ, List.replicate_succ, List.replicate_zero, exists_eq_left, exists_eq_left', exists_and_left, and_true, true_and, and_self, and_assoc, Nat.sub_self, Nat.reduceAdd, Nat.reduceSub, Nat.zero_add, put_put, put_same, reduceIte, Bool.false_eq_true, Bool.true_eq_false, Bool.not_true, Bool.not_false, at_0, at_1, at_2, at_3, at_4, at_5, at_6, at_7, ix_1_0, ix_2_0, ix_2_1, ix_3_0, ix_3_1, ix_3_2, ix_4_0, ix_4_1, ix_4_2, ix_4_3]
    exact ⟨by decide, q⟩
  · exact h.elim
theorem sc_l_side : FnScope ["_law_pool_here", "_law_great", "_law_most"] ["_law_pool_here", "_law_great"] (defScope s_l_side) := ⟨rfl, rfl, rfl, by decide +kernel, rfl, by decide +kernel, by decide +kernel⟩
def sp_l_side : SpT := fun ts S R _ => match ts with
  | [.cell p, .bl true] => PoolT S p ∧ ∀ w S', Bx w → PS S p S' → R (.int w) S'
  | _ => False
theorem ok_l_side {P : Program} {w : World} {K : PySem.W.Frag} {mg : Str → Option Value} {base : Heap} {f : Addr} {fd : FuncData} {g_l_draw : Addr} {gd_l_draw : FuncData} (F : Fun K "_law_side" "_law_side" s_l_side f fd)
    (G_l_draw : FnT P w K mg base 1 g_l_draw gd_l_draw ["_law_pool_here", "_law_most"] sp_l_draw)
    (m_l_draw : mg "_law_draw" = some (.ref g_l_draw))
    (k_l_draw : PySem.W.keepIn K (.ref g_l_draw) = true)
    (b_l_draw : Binds K gd_l_draw ["_law_pool_here", "_law_most"] [])
    : FnT P w K mg base 2 f fd ["_law_pool_here", "_law_great"] sp_l_side := by
  refine okT F sc_l_side (by intro ts S R RE h; unfold sp_l_side at h; split at h <;> first | rfl | exact h.elim) (fun cdv A out s H E hg hr => (bs_cons (ss_set (i := 2) sc_l_side.nd rfl (by first | exact Or.inl rfl | exact Or.inr rfl) (et_ix ix_seq cv_ix (et_lst (at_cons et_int (at_cons et_int (at_cons et_int (at_cons (et_if (tt_val (et_var (pv 1))) (et_op op_pow cv_I2 et_int et_int) et_int) at_nil))))) (et_callD G_l_draw hg (hr.mono (by decide)) (by rfl) m_l_draw k_l_draw (CallD.all b_l_draw) (passL2N (L2N.takes_of rfl rfl rfl rfl)) (at_cons (et_var (pv 0)) (at_cons et_int at_nil))) (fun _ _ => rfl)))
    (bs_one (ss_ret (et_op op_addG cv_add et_int (et_callD G_l_draw hg (hr.mono (by decide)) (by rfl) m_l_draw k_l_draw (CallD.all b_l_draw) (passL2N (L2N.takes_of rfl rfl rfl rfl)) (at_cons (et_var (pv 0)) (at_cons (et_var (pv 2)) at_nil)))))))) ?_
  intro ts S R RE h
  unfold sp_l_side at h
  split at h
  · rename_i p
    obtain ⟨hp, q⟩ := h
    refine sSeq_i fun N hN => ?_
    simp only [sSeq, sAsg, sDrop, sRet, sRetN, sIf, sNext, sPar, sPar3, sFor, sRaise, sFldT, sNo, rNo, rVar, rFrz, rC, rBin, rTest, bAnd, bOr, bNot, bIf, vAnd, vOr, vNot, rIf, rNeg, aNil, aCons, rTup, rLst, rLstC, rArgs, gNameT, gNilT, gConsT, gTupT, gSubT, iSeq, iRng1T, iRng2T, rLc, rCall, rCallN, rCallS, rFld, rCon, rMake, rMakeN, rMakeP, rMeth, rMethK, rProp, rClsFn, rOpOwn, rSl, oNone, oSome, rFmt, kFmt, rJs, rLidx, kStrOwn, kAddC, rMut, kAdd, kI2, kI2n, kMul, kIx, kIn, kLen, kU, kA2, kDm, kStrI, kAll, kSl, kAppend, kExtend, kTuple, kList, lenT, seqOf, bYes, startT, one, pickG, selG, insOf, putT, flatT, Bool.false_xor, Bool.true_xor, List.all_cons, List.all_nil, Bool.and_self, T.int.injEq, T.bl.injEq, T.str.injEq, T.lst.injEq, T.tup.injEq, T.cell.injEq, T.ins.injEq, Cell.lst.injEq, Cell.ins.injEq, Prod.mk.injEq, List.cons.injEq, Option.some.injEq, List.map_cons, List.map_nil, List.length_cons, List.length_nil, List.cons_append, List.nil_append, List.append_nil, List.getElem?_cons_zero, List.getElem?_cons_succ, List.set_cons_zero, List.set_cons_succ, List.replicate_succ, List.replicate_zero, exists_eq_left, exists_eq_left', exists_and_left, and_true, true_and, and_self, and_assoc, Nat.sub_self, Nat.reduceAdd, Nat.reduceSub, Nat.zero_add, put_put, put_same, reduceIte, Bool.false_eq_true, Bool.true_eq_false, Bool.not_true, Bool.not_false, at_0, at_1, at_2, at_3, at_4, at_5, at_6, at_7, ix_1_0, ix_2_0, ix_2_1, ix_3_0, ix_3_1, ix_3_2, ix_4_0, ix_4_1, ix_4_2, ix_4_3]
    refine ⟨⟨by decide, by decide, by decide⟩, ?_⟩
    simp only [sp_l_draw, sSeq, sAsg, sDrop, sRet, sRetN, sIf, sNext, sPar, sPar3, sFor, sRaise, sFldT, sNo, rNo, rVar, rFrz, rC, rBin, rTest, bAnd, bOr, bNot, bIf, vAnd, vOr, vNot, rIf, rNeg, aNil, aCons, rTup, rLst, rLstC, rArgs, gNameT, gNilT, gConsT, gTupT, gSubT, iSeq, iRng1T, iRng2T, rLc, rCall, rCallN, rCallS, rFld, rCon, rMake, rMakeN, rMakeP, rMeth, rMethK, rProp, rClsFn, rOpOwn, rSl, oNone, oSome, rFmt, kFmt, rJs, rLidx, kStrOwn, kAddC, rMut, kAdd, kI2, kI2n, kMul, kIx, kIn, kLen, kU, kA2, kDm, kStrI, kAll, kSl, kAppend, kExtend, kTuple, kList, lenT, seqOf, bYes, startT, one, pickG, selG, insOf, putT, flatT, Bool.false_xor, Bool.true_xor, List.all_cons, List.all_nil, Bool.and_self, T.int.injEq, T.bl.injEq, T.str.injEq, T.lst.injEq, T.tup.injEq, T.cell.injEq, T.ins.injEq, Cell.lst.injEq, Cell.ins.injEq, Prod.mk.injEq, List.cons.injEq, Option.some.injEq, List.map_cons, List.map_nil, List.length_cons, List.length_nil, List.cons_append, List.nil_append, List.append_nil, List.getElem?_cons_zero, List.getElem?_cons_succ, List.set_cons_zero, List.set_cons_succ, List.replicate_succ, List.replicate_zero, exists_eq_left, exists_eq_left', exists_and_left, and_true, true_and, and_self, and_assoc, Nat.sub_self, Nat.reduceAdd, Nat.reduceSub, Nat.zero_add, put_put, put_same, reduceIte, Bool.false_eq_true, Bool.true_eq_false, Bool.not_true, Bool.not_false, at_0, at_1, at_2, at_3, at_4, at_5, at_6, at_7, ix_1_0, ix_2_0, ix_2_1, ix_3_0, ix_3_1, ix_3_2, ix_4_0, ix_4_1, ix_4_2, ix_4_3]
    refine ⟨by decide, hp, Pn.of (by decide) (by decide), fun r S1 r0 r1 p1 => ?_⟩
    have fin : ∀ m : Int, 0 < m → m ≤ 1000000 → (∃ t, T.int m = t ∧ N [some (.cell p), some (.bl true), some t] S1) := fun m m0 m1 => by
      refine ⟨_, rfl, hN _ _ ?_⟩
      simp only [sp_l_draw, sSeq, sAsg, sDrop, sRet, sRetN, sIf, sNext, sPar, sPar3, sFor, sRaise, sFldT, sNo, rNo, rVar, rFrz, rC, rBin, rTest, bAnd, bOr, bNot, bIf, vAnd, vOr, vNot, rIf, rNeg, aNil, aCons, rTup, rLst, rLstC, rArgs, gNameT, gNilT, gConsT, gTupT, gSubT, iSeq, iRng1T, iRng2T, rLc, rCall, rCallN, rCallS, rFld, rCon, rMake, rMakeN, rMakeP, rMeth, rMethK, rProp, rClsFn, rOpOwn, rSl, oNone, oSome, rFmt, kFmt, rJs, rLidx, kStrOwn, kAddC, rMut, kAdd, kI2, kI2n, kMul, kIx, kIn, kLen, kU, kA2, kDm, kStrI, kAll, kSl, kAppend, kExtend, kTuple, kList, lenT, seqOf, bYes, startT, one, pickG, selG, insOf, putT, flatT, Bool.false_xor, Bool.true_xor, List.all_cons, List.all_nil, Bool.and_self, T.int.injEq, T.bl.injEq, T.str.injEq, T.lst.injEq, T.tup.injEq, T.cell.injEq, T.ins.injEq, Cell.lst.injEq, Cell.ins.injEq, Prod.mk.injEq, List.cons.injEq, Option.some.injEq, List.map_cons, List.map_nil, List.length_cons, List.length_nil, List.cons_append, List.nil_append, List.append_nil, List.getElem?_cons_zero, List.getElem?_cons_succ, List.set_cons_zero, List.set_cons_succ, List.replicate_succ, List.replicate_zero, exists_eq_left, exists_eq_left', exists_and_left, and_true, true_and, and_self, and_assoc, Nat.sub_self, Nat.reduceAdd, Nat.reduceSub, Nat.zero_add, put_put, put_same, reduceIte, Bool.false_eq_true, Bool.true_eq_false, Bool.not_true, Bool.not_false, at_0, at_1, at_2, at_3, at_4, at_5, at_6, at_7, ix_1_0, ix_2_0, ix_2_1, ix_3_0, ix_3_1, ix_3_2, ix_4_0, ix_4_1, ix_4_2, ix_4_3]
      exact ⟨p1.pool, Pn.of m0 (by omega), fun z S2 z0 z1 p2 => q _ _ ⟨by omega, by omega⟩ (p1.trans p2)⟩
    have hr : r = 0 ∨ r = 1 ∨ r = 2 ∨ r = 3 := by omega
    rcases hr with rfl | rfl | rfl | rfl
    · obtain ⟨_, rfl, k⟩ := fin 4 (by decide) (by decide)
      simp only [sSeq, sAsg, sDrop, sRet, sRetN, sIf, sNext, sPar, sPar3, sFor, sRaise, sFldT, sNo, rNo, rVar, rFrz, rC, rBin, rTest, bAnd, bOr, bNot, bIf, vAnd, vOr, vNot, rIf, rNeg, aNil, aCons, rTup, rLst, rLstC, rArgs, gNameT, gNilT, gConsT, gTupT, gSubT, iSeq, iRng1T, iRng2T, rLc, rCall, rCallN, rCallS, rFld, rCon, rMake, rMakeN, rMakeP, rMeth, rMethK, rProp, rClsFn, rOpOwn, rSl, oNone, oSome, rFmt, kFmt, rJs, rLidx, kStrOwn, kAddC, rMut, kAdd, kI2, kI2n, kMul, kIx, kIn, kLen, kU, kA2, kDm, kStrI, kAll, kSl, kAppend, kExtend, kTuple, kList, lenT, seqOf, bYes, startT, one, pickG, selG, insOf, putT, flatT, Bool.false_xor, Bool.true_xor, List.all_cons, List.all_nil, Bool.and_self, T.int.injEq, T.bl.injEq, T.str.injEq, T.lst.injEq, T.tup.injEq, T.cell.injEq, T.ins.injEq, Cell.lst.injEq, Cell.ins.injEq, Prod.mk.injEq, List.cons.injEq, Option.some.injEq, List.map_cons, List.map_nil, List.length_cons, List.length_nil, List.cons_append, List.nil_append, List.append_nil, List.getElem?_cons_zero, List.getElem?_cons_succ, List.set_cons_zero, List.set_cons_succ, List.replicate_succ, List.replicate_zero, exists_eq_left, exists_eq_left', exists_and_left, and_true, true_and, and_self, and_assoc, Nat.sub_self, Nat.reduceAdd, Nat.reduceSub, Nat.zero_add, put_put, put_same, reduceIte, Bool.false_eq_true, Bool.true_eq_false, Bool.not_true, Bool.not_false, at_0, at_1, at_2, at_3, at_4, at_5, at_6, at_7, ix_1_0, ix_2_0, ix_2_1, ix_3_0, ix_3_1, ix_3_2, ix_4_0, ix_4_1, ix_4_2, ix_4_3]
      exact k
    · obtain ⟨_, rfl, k⟩ := fin 12 (by decide) (by decide)
      simp only [sSeq, sAsg, sDrop, sRet, sRetN, sIf, sNext, sPar, sPar3, sFor, sRaise, sFldT, sNo, rNo, rVar, rFrz, rC, rBin, rTest, bAnd, bOr, bNot, bIf, vAnd, vOr, vNot, rIf, rNeg, aNil, aCons, rTup, rLst, rLstC, rArgs, gNameT, gNilT, gConsT, gTupT, gSubT, iSeq, iRng1T, iRng2T, rLc, rCall, rCallN, rCallS, rFld, rCon, rMake, rMakeN, rMakeP, rMeth, rMethK, rProp, rClsFn, rOpOwn, rSl, oNone, oSome, rFmt, kFmt, rJs, rLidx, kStrOwn, kAddC, rMut, kAdd, kI2, kI2n, kMul, kIx, kIn, kLen, kU, kA2, kDm, kStrI, kAll, kSl, kAppend, kExtend, kTuple, kList, lenT, seqOf, bYes, startT, one, pickG, selG, insOf, putT, flatT, Bool.false_xor, Bool.true_xor, List.all_cons, List.all_nil, Bool.and_self, T.int.injEq, T.bl.injEq, T.str.injEq, T.lst.injEq, T.tup.injEq, T.cell.injEq, T.ins.injEq, Cell.lst.injEq, Cell.ins.injEq, Prod.mk.injEq, List.cons.injEq, Option.some.injEq, List.map_cons, List.map_nil, List.length_cons, List.length_nil, List.cons_append, List.nil_append, List.append_nil, List.getElem?_cons_zero, List.getElem?_cons_succ, List.set_cons_zero, List.set_cons_succ, List.replicate_succ, List.replicate_zero, exists_eq_left, exists_eq_left', exists_and_left, and_true, true_and, and_self, and_assoc, Nat.sub_self, Nat.reduceAdd, Nat.reduceSub, Nat.zero_add, put_put, put_same, reduceIte, Bool.false_eq_true, Bool.true_eq_false, Bool.not_true, Bool.not_false, at_0, at_1, at_2, at_3, at_4, at_5, at_6, at_7, ix_1_0, ix_2_0, ix_2_1, ix_3_0, ix_3_1, ix_3_2, ix_4_0, ix_4_1, ix_4_2, ix_4_3]
      exact k
    · obtain ⟨_, rfl, k⟩ := fin 1000 (by decide) (by decide)
      simp only [sSeq, sAsg, sDrop, sRet, sRetN, sIf, sNext, sPar, sPar3, sFor, sRaise, sFldT, sNo, rNo, rVar, rFrz, rC, rBin, rTest, bAnd, bOr, bNot, bIf, vAnd, vOr, vNot, rIf, rNeg, aNil, aCons, rTup, rLst, rLstC, rArgs, gNameT, gNilT, gConsT, gTupT, gSubT, iSeq, iRng1T, iRng2T, rLc, rCall, rCallN, rCallS, rFld, rCon, rMake, rMakeN, rMakeP, rMeth, rMethK, rProp, rClsFn, rOpOwn, rSl, oNone, oSome, rFmt, kFmt, rJs, rLidx, kStrOwn, kAddC, rMut, kAdd, kI2, kI2n, kMul, kIx, kIn, kLen, kU, kA2, kDm, kStrI, kAll, kSl, kAppend, kExtend, kTuple, kList, lenT, seqOf, bYes, startT, one, pickG, selG, insOf, putT, flatT, Bool.false_xor, Bool.true_xor, List.all_cons, List.all_nil, Bool.and_self, T.int.injEq, T.bl.injEq, T.str.injEq, T.lst.injEq, T.tup.injEq, T.cell.injEq, T.ins.injEq, Cell.lst.injEq, Cell.ins.injEq, Prod.mk.injEq, List.cons.injEq, Option.some.injEq, List.map_cons, List.map_nil, List.length_cons, List.length_nil, List.cons_append, List.nil_append, List.append_nil, List.getElem?_cons_zero, List.getElem?_cons_succ, List.set_cons_zero, List.set_cons_succ, List.replicate_succ, List.replicate_zero, exists_eq_left, exists_eq_left', exists_and_left, and_true, true_and, and_self, and_assoc, Nat.sub_self, Nat.reduceAdd, Nat.reduceSub, Nat.zero_add, put_put, put_same, reduceIte, Bool.false_eq_true, Bool.true_eq_false, Bool.not_true, Bool.not_false, at_0, at_1, at_2, at_3, at_4, at_5, at_6, at_7, ix_1_0, ix_2_0, ix_2_1, ix_3_0, ix_3_1, ix_3_2, ix_4_0, ix_4_1, ix_4_2, ix_4_3]
      exact k
    · obtain ⟨_, rfl, k⟩ := fin (10 ^ 6) (by decide) (by decide)
      simp only [sSeq, sAsg, sDrop, sRet, sRetN, sIf, sNext, sPar, sPar3, sFor, sRaise, sFldT, sNo, rNo, rVar, rFrz, rC, rBin, rTest, bAnd, bOr, bNot, bIf, vAnd, vOr, vNot, rIf, rNeg, aNil, aCons, rTup, rLst, rLstC, rArgs, gNameT, gNilT, gConsT, gTupT, gSubT, iSeq, iRng1T, iRng2T, rLc, rCall, rCallN, rCallS, rFld, rCon, rMake, rMakeN, rMakeP, rMeth, rMethK, rProp, rClsFn, rOpOwn, rSl, oNone, oSome, rFmt, kFmt, rJs, rLidx, kStrOwn, kAddC, rMut, kAdd, kI2, kI2n, kMul, kIx, kIn, kLen, kU, kA2, kDm, kStrI, kAll, kSl, kAppend, kExtend, kTuple, kList, lenT, seqOf, bYes, startT, one, pickG, selG, insOf, putT, flatT, Bool.false_xor, Bool.true_xor, List.all_cons, List.all_nil, Bool.and_self, T.int.injEq, T.bl.injEq, T.str.injEq, T.lst.injEq, T.tup.injEq, T.cell.injEq, T.ins.injEq, Cell.lst.injEq, Cell.ins.injEq, Prod.mk.injEq, List.cons.injEq, Option.some.injEq, List.map_cons, List.map_nil, List.length_cons, List.length_nil, List.cons_append, List.nil_append, List.append_nil, List.getElem?_cons_zero, List.getElem?_cons_succ, List.set_cons_zero, List.set_cons_succ, List.replicate_succ, List.replicate_zero, exists_eq_left, exists_eq_left', exists_and_left, and_true, true_and, and_self, and_assoc, Nat.sub_self, Nat.reduceAdd, Nat.reduceSub, Nat.zero_add, put_put, put_same, reduceIte, Bool.false_eq_true, Bool.true_eq_false, Bool.not_true, Bool.not_false, at_0, at_1, at_2, at_3, at_4, at_5, at_6, at_7, ix_1_0, ix_2_0, ix_2_1, ix_3_0, ix_3_1, ix_3_2, ix_4_0, ix_4_1, ix_4_2, ix_4_3]
      exact k
  · exact h.elim
theorem eqSt {a b : Str} {S : Store} {R : T → Store → Prop} {RE : XT} {ng v : Bool} (e : decide (a = b) = v) (q : R (.bl (ng ^^ v)) S) : kEqG ng (.str a) (.str b) S R RE := .inl ⟨rfl, by show R (.bl (ng ^^ decide (a = b))) S; rw [e]; exact q⟩
/-- the law's word for a scaling -/
def scT (g : Bool) (w h : Int) (c : Bool) : T := .tup [.str (if g = true then "grow" else "shrink"), .int w, .int h, .bl c]
def scC (CS CG : Addr) (g : Bool) : Addr := if g = true then CG else CS
theorem sg : decide (("shrink" : Str) = "grow") = false := by decide +kernel
theorem gs_ : decide (("grow" : Str) = "shrink") = false := by decide +kernel
theorem ss_ : decide (("shrink" : Str) = "shrink") = true := by decide +kernel
theorem gg : decide (("grow" : Str) = "grow") = true := by decide +kernel
theorem in_s : inT (.str "shrink") [.str "shrink", .str "grow"] = true := by decide +kernel
theorem in_g : inT (.str "grow") [.str "shrink", .str "grow"] = true := by decide +kernel
theorem inSt {a : Str} {l : List T} {S : Store} {R : T → Store → Prop} {RE : XT} {v : Bool} (hl : l.all flatT = true) (e : inT (.str a) l = v) (q : R (.bl v) S) : kIn false (.str a) (.tup l) S R RE := ⟨l, rfl, rfl, hl, by rw [e, Bool.false_xor]; exact q⟩
/-- any word -/
inductive Wd
  | sc (g : Bool) (w h : Int) (c : Bool)
  | cr (t : Bool) (w h : Int) (k : Str)
  | tu (n : Int)
  | ori (p : Bool)
def Wd.t : Wd → T
  | .sc g w h c => scT g w h c
  | .cr t w h k => .tup [.str (if t = true then "height" else "width"), .int w, .int h, .str k]
  | .tu n => .tup [.str "turn", .int n]
  | .ori p => .tup [.str (if p = true then "portrait" else "landscape")]
def Wd.good : Wd → Prop
  | .sc _ w h _ => Bx w ∧ Bx h
  | .cr t w h k => Bx w ∧ Bx h ∧ inT (.str k) (if t = true then keepsH else keepsW) = true
  | .tu n => 0 < n ∧ n ≤ 3
  | .ori _ => True
def Wd.st (CS CG CW CH CT CL CP : Addr) : Wd → T
  | .sc g w h c => .ins (scC CS CG g) (stF w h c)
  | .cr t w h k => .ins (if t = true then CH else CW) (crF w h k)
  | .tu n => .ins CT (tuF n)
  | .ori p => .ins (if p = true then CP else CL) []
theorem mk_cw {C : Addr} {w h : Int} {k : Str} {S : Store} {R : T → Store → Prop} {RE : XT} (hw : Bx w) (hh : Bx h) (hk : inT (.str k) keepsW = true) (q : R (.ins C (crF w h k)) S) :
    ∀ u, S u = none → sp_CropWidth_init C [.cell u, .int w, .int h, .str k] (S.put u (.ins C [])) (fun z S2 => z = .non ∧ ∃ gs, S2 u = some (.ins C gs) ∧ R (.ins C gs) (S2.drop u)) RE := fun u hu =>
  ⟨put_same, hw, hh, hk, rfl, _, put_same, by rw [put_put, put_drop hu]; exact q⟩
theorem mk_ch {C : Addr} {w h : Int} {k : Str} {S : Store} {R : T → Store → Prop} {RE : XT} (hw : Bx w) (hh : Bx h) (hk : inT (.str k) keepsH = true) (q : R (.ins C (crF w h k)) S) :
    ∀ u, S u = none → sp_CropHeight_init C [.cell u, .int w, .int h, .str k] (S.put u (.ins C [])) (fun z S2 => z = .non ∧ ∃ gs, S2 u = some (.ins C gs) ∧ R (.ins C gs) (S2.drop u)) RE := fun u hu =>
  ⟨put_same, hw, hh, hk, rfl, _, put_same, by rw [put_put, put_drop hu]; exact q⟩
theorem mk_tu {K : PySem.W.Frag} {C : Addr} {n : Int} {S : Store} {R : T → Store → Prop} {RE : XT} (n0 : 0 < n) (n3 : n ≤ 3) (q : R (.ins C (tuF n)) S) :
    ∀ u, S u = none → sp_Turn_init K C [.cell u, .int n] (S.put u (.ins C [])) (fun z S2 => z = .non ∧ ∃ gs, S2 u = some (.ins C gs) ∧ R (.ins C gs) (S2.drop u)) RE := fun u hu =>
  ⟨put_same, n0, n3, rfl, _, put_same, by rw [put_put, put_drop hu]; exact q⟩
theorem sc_l_drawn : FnScope ["_law_pool_here", "_law_great", "_law_way", "_law_one", "_law_more"] ["_law_pool_here", "_law_great"] (defScope s_l_drawn) := ⟨rfl, rfl, rfl, by decide +kernel, rfl, by decide +kernel, by decide +kernel⟩
def sp_l_drawn : SpT := fun ts S R _ => match ts with
  | [.cell p, .bl true] => PoolT S p ∧ ∀ (d : Wd) S', d.good → PS S p S' → R d.t S'
  | _ => False
theorem ok_l_drawn {P : Program} {w : World} {K : PySem.W.Frag} {mg : Str → Option Value} {base : Heap} {f : Addr} {fd : FuncData} {g_l_draw g_l_side : Addr} {gd_l_draw : FuncData} {gd_l_side : FuncData} (F : Fun K "_law_drawn" "_law_drawn" s_l_drawn f fd)
    (G_l_draw : FnT P w K mg base 1 g_l_draw gd_l_draw ["_law_pool_here", "_law_most"] sp_l_draw)
    (m_l_draw : mg "_law_draw" = some (.ref g_l_draw))
    (k_l_draw : PySem.W.keepIn K (.ref g_l_draw) = true)
    (b_l_draw : Binds K gd_l_draw ["_law_pool_here", "_law_most"] [])
    (G_l_side : FnT P w K mg base 2 g_l_side gd_l_side ["_law_pool_here", "_law_great"] sp_l_side)
    (m_l_side : mg "_law_side" = some (.ref g_l_side))
    (k_l_side : PySem.W.keepIn K (.ref g_l_side) = true)
    (b_l_side : Binds K gd_l_side ["_law_pool_here", "_law_great"] [])
    : FnT P w K mg base 3 f fd ["_law_pool_here", "_law_great"] sp_l_drawn := by
  refine okT F sc_l_drawn (by intro ts S R RE h; unfold sp_l_drawn at h; split at h <;> first | rfl | exact h.elim) (fun cdv A out s H E hg hr => (bs_cons (ss_par3 (i := 2) (j := 3) (l := 4) (by rfl) sc_l_drawn.nd rfl rfl rfl (by decide) (by decide) (by decide) rfl rfl rfl (at_cons (et_callD G_l_draw hg (hr.mono (by decide)) (by rfl) m_l_draw k_l_draw (CallD.all b_l_draw) (passL2N (L2N.takes_of rfl rfl rfl rfl)) (at_cons (et_var (pv 0)) (at_cons et_int at_nil))) (at_cons (et_callD G_l_side hg (hr.mono (by decide)) (by rfl) m_l_side k_l_side (CallD.all b_l_side) (passL2N (L2N.takes_of rfl rfl rfl rfl)) (at_cons (et_var (pv 0)) (at_cons (et_var (pv 1)) at_nil))) (at_cons (et_callD G_l_side hg (hr.mono (by decide)) (by rfl) m_l_side k_l_side (CallD.all b_l_side) (passL2N (L2N.takes_of rfl rfl rfl rfl)) (at_cons (et_var (pv 0)) (at_cons (et_var (pv 1)) at_nil))) at_nil))) (by rfl))
    (bs_cons (ss_if (tt_cmp op_lt cv_B2n (et_var (pv 2)) et_int (nomark _)) (bs_one (ss_ret (et_tup (at_cons (et_ix ix_seq cv_ix (et_lst (at_cons et_str (at_cons et_str at_nil))) (et_op op_fdivP cv_I2 (et_var (pv 2)) et_int) (fun _ _ => rfl)) (at_cons (et_var (pv 3)) (at_cons (et_var (pv 4)) (at_cons (et_cmp (op_eqG hr.units) cv_eq (et_op op_mod cv_I2 (et_var (pv 2)) et_int) et_int (nomark _)) at_nil))))))) bs_nil)
    (bs_cons (ss_if (tt_cmp op_lt cv_B2n (et_var (pv 2)) et_int (nomark _)) (bs_one (ss_ret (et_tup (at_cons et_str (at_cons (et_var (pv 3)) (at_cons (et_var (pv 4)) (at_cons (et_ix ix_seq cv_ix (et_lst (at_cons et_str (at_cons et_str (at_cons et_str at_nil)))) (et_callD G_l_draw hg (hr.mono (by decide)) (by rfl) m_l_draw k_l_draw (CallD.all b_l_draw) (passL2N (L2N.takes_of rfl rfl rfl rfl)) (at_cons (et_var (pv 0)) (at_cons et_int at_nil))) (fun _ _ => rfl)) at_nil))))))) bs_nil)
    (bs_cons (ss_if (tt_cmp op_lt cv_B2n (et_var (pv 2)) et_int (nomark _)) (bs_one (ss_ret (et_tup (at_cons et_str (at_cons (et_var (pv 3)) (at_cons (et_var (pv 4)) (at_cons (et_ix ix_seq cv_ix (et_lst (at_cons et_str (at_cons et_str (at_cons et_str at_nil)))) (et_callD G_l_draw hg (hr.mono (by decide)) (by rfl) m_l_draw k_l_draw (CallD.all b_l_draw) (passL2N (L2N.takes_of rfl rfl rfl rfl)) (at_cons (et_var (pv 0)) (at_cons et_int at_nil))) (fun _ _ => rfl)) at_nil))))))) bs_nil)
    (bs_cons (ss_if (tt_cmp (op_eqG hr.units) cv_eq (et_var (pv 2)) et_int (nomark _)) (bs_one (ss_ret (et_tup (at_cons et_str (at_cons (et_op op_addG cv_add et_int (et_callD G_l_draw hg (hr.mono (by decide)) (by rfl) m_l_draw k_l_draw (CallD.all b_l_draw) (passL2N (L2N.takes_of rfl rfl rfl rfl)) (at_cons (et_var (pv 0)) (at_cons et_int at_nil)))) at_nil))))) bs_nil)
    (bs_one (ss_ret (et_ix ix_seq cv_ix (et_lst (at_cons (et_tup (at_cons et_str at_nil)) (at_cons (et_tup (at_cons et_str at_nil)) at_nil))) (et_callD G_l_draw hg (hr.mono (by decide)) (by rfl) m_l_draw k_l_draw (CallD.all b_l_draw) (passL2N (L2N.takes_of rfl rfl rfl rfl)) (at_cons (et_var (pv 0)) (at_cons et_int at_nil))) (fun _ _ => rfl)))))))))) ?_
  intro ts S R RE h
  unfold sp_l_drawn at h
  split at h
  · rename_i p
    obtain ⟨hp, q⟩ := h
    refine sSeq_i fun N hN => ?_
    simp only [sp_l_draw, sp_l_side, sSeq, sAsg, sDrop, sRet, sRetN, sIf, sNext, sPar, sPar3, sFor, sRaise, sFldT, sNo, rNo, rVar, rFrz, rC, rBin, rTest, bAnd, bOr, bNot, bIf, vAnd, vOr, vNot, rIf, rNeg, aNil, aCons, rTup, rLst, rLstC, rArgs, gNameT, gNilT, gConsT, gTupT, gSubT, iSeq, iRng1T, iRng2T, rLc, rCall, rCallN, rCallS, rFld, rCon, rMake, rMakeN, rMakeP, rMeth, rMethK, rProp, rClsFn, rOpOwn, rSl, oNone, oSome, rFmt, kFmt, rJs, rLidx, kStrOwn, kAddC, rMut, kAdd, kI2, kI2n, kMul, kIx, kIn, kLen, kU, kA2, kDm, kStrI, kAll, kSl, kAppend, kExtend, kTuple, kList, lenT, seqOf, bYes, startT, one, pickG, selG, insOf, putT, flatT, Bool.false_xor, Bool.true_xor, List.all_cons, List.all_nil, Bool.and_self, T.int.injEq, T.bl.injEq, T.str.injEq, T.lst.injEq, T.tup.injEq, T.cell.injEq, T.ins.injEq, Cell.lst.injEq, Cell.ins.injEq, Prod.mk.injEq, List.cons.injEq, Option.some.injEq, List.map_cons, List.map_nil, List.length_cons, List.length_nil, List.cons_append, List.nil_append, List.append_nil, List.getElem?_cons_zero, List.getElem?_cons_succ, List.set_cons_zero, List.set_cons_succ, List.replicate_succ, List.replicate_zero, exists_eq_left, exists_eq_left', exists_and_left, and_true, true_and, and_self, and_assoc, Nat.sub_self, Nat.reduceAdd, Nat.reduceSub, Nat.zero_add, put_put, put_same, reduceIte, Bool.false_eq_true, Bool.true_eq_false, Bool.not_true, Bool.not_false, at_0, at_1, at_2, at_3, at_4, at_5, at_6, at_7, ix_1_0, ix_2_0, ix_2_1, ix_3_0, ix_3_1, ix_3_2, ix_4_0, ix_4_1, ix_4_2, ix_4_3]
    refine ⟨hp, Pn.of (by decide) (by decide), fun r S1 r0 r1 p1 => ⟨p1.pool, fun a S2 ba p2 => ⟨p2.pool, fun b S3 bb p3 => ?_⟩⟩⟩
    have p13 := (p1.trans p2).trans p3
    have q2 : ∀ (d : Wd) S', d.good → PS S3 p S' → R d.t S' := fun d S' g ps => q d S' g (p13.trans ps)
    have hq : ∀ (d : Wd), d.good → R d.t S3 := fun d g => q d S3 g p13
    have hp3 := p13.pool
    clear p1 p2 p3 p13 hp q
    refine hN _ _ ?_
    clear hN
    have kq : ∀ (c3 : List T) (nm : Str) (tt : Bool), True := fun _ _ _ => trivial
    refine sSeq_i fun N hN => ?_
    simp only [sSeq, sAsg, sDrop, sRet, sRetN, sIf, sNext, sPar, sPar3, sFor, sRaise, sFldT, sNo, rNo, rVar, rFrz, rC, rBin, rTest, bAnd, bOr, bNot, bIf, vAnd, vOr, vNot, rIf, rNeg, aNil, aCons, rTup, rLst, rLstC, rArgs, gNameT, gNilT, gConsT, gTupT, gSubT, iSeq, iRng1T, iRng2T, rLc, rCall, rCallN, rCallS, rFld, rCon, rMake, rMakeN, rMakeP, rMeth, rMethK, rProp, rClsFn, rOpOwn, rSl, oNone, oSome, rFmt, kFmt, rJs, rLidx, kStrOwn, kAddC, rMut, kAdd, kI2, kI2n, kMul, kIx, kIn, kLen, kU, kA2, kDm, kStrI, kAll, kSl, kAppend, kExtend, kTuple, kList, lenT, seqOf, bYes, startT, one, pickG, selG, insOf, putT, flatT, Bool.false_xor, Bool.true_xor, List.all_cons, List.all_nil, Bool.and_self, T.int.injEq, T.bl.injEq, T.str.injEq, T.lst.injEq, T.tup.injEq, T.cell.injEq, T.ins.injEq, Cell.lst.injEq, Cell.ins.injEq, Prod.mk.injEq, List.cons.injEq, Option.some.injEq, List.map_cons, List.map_nil, List.length_cons, List.length_nil, List.cons_append, List.nil_append, List.append_nil, List.getElem?_cons_zero, List.getElem?_cons_succ, List.set_cons_zero, List.set_cons_succ, List.replicate_succ, List.replicate_zero, exists_eq_left, exists_eq_left', exists_and_left, and_true, true_and, and_self, and_assoc, Nat.sub_self, Nat.reduceAdd, Nat.reduceSub, Nat.zero_add, put_put, put_same, reduceIte, Bool.false_eq_true, Bool.true_eq_false, Bool.not_true, Bool.not_false, at_0, at_1, at_2, at_3, at_4, at_5, at_6, at_7, ix_1_0, ix_2_0, ix_2_1, ix_3_0, ix_3_1, ix_3_2, ix_4_0, ix_4_1, ix_4_2, ix_4_3]
    refine ite_d (fun cc => ?_) (fun cc => hN _ _ ?_)
    · have sc : ∀ (g c : Bool), R (.tup [.str (if g = true then "grow" else "shrink"), .int a, .int b, .bl c]) S3 := fun g c => hq (.sc g a b c) ⟨ba, bb⟩
      have hr : r = 0 ∨ r = 1 ∨ r = 2 ∨ r = 3 := by omega
      rcases hr with rfl | rfl | rfl | rfl
      · exact ⟨by decide, div_small (by decide) (by decide) _, _, rfl, by decide, eqI0 ⟨by decide, sc false false⟩⟩
      · exact ⟨by decide, div_small (by decide) (by decide) _, _, rfl, by decide, eqI0 ⟨by decide, sc false true⟩⟩
      · exact ⟨by decide, div_small (by decide) (by decide) _, _, rfl, by decide, eqI0 ⟨by decide, sc true false⟩⟩
      · exact ⟨by decide, div_small (by decide) (by decide) _, _, rfl, by decide, eqI0 ⟨by decide, sc true true⟩⟩
    · refine sSeq_i fun N hN => ?_
      simp only [sSeq, sAsg, sDrop, sRet, sRetN, sIf, sNext, sPar, sPar3, sFor, sRaise, sFldT, sNo, rNo, rVar, rFrz, rC, rBin, rTest, bAnd, bOr, bNot, bIf, vAnd, vOr, vNot, rIf, rNeg, aNil, aCons, rTup, rLst, rLstC, rArgs, gNameT, gNilT, gConsT, gTupT, gSubT, iSeq, iRng1T, iRng2T, rLc, rCall, rCallN, rCallS, rFld, rCon, rMake, rMakeN, rMakeP, rMeth, rMethK, rProp, rClsFn, rOpOwn, rSl, oNone, oSome, rFmt, kFmt, rJs, rLidx, kStrOwn, kAddC, rMut, kAdd, kI2, kI2n, kMul, kIx, kIn, kLen, kU, kA2, kDm, kStrI, kAll, kSl, kAppend, kExtend, kTuple, kList, lenT, seqOf, bYes, startT, one, pickG, selG, insOf, putT, flatT, Bool.false_xor, Bool.true_xor, List.all_cons, List.all_nil, Bool.and_self, T.int.injEq, T.bl.injEq, T.str.injEq, T.lst.injEq, T.tup.injEq, T.cell.injEq, T.ins.injEq, Cell.lst.injEq, Cell.ins.injEq, Prod.mk.injEq, List.cons.injEq, Option.some.injEq, List.map_cons, List.map_nil, List.length_cons, List.length_nil, List.cons_append, List.nil_append, List.append_nil, List.getElem?_cons_zero, List.getElem?_cons_succ, List.set_cons_zero, List.set_cons_succ, List.replicate_succ, List.replicate_zero, exists_eq_left, exists_eq_left', exists_and_left, and_true, true_and, and_self, and_assoc, Nat.sub_self, Nat.reduceAdd, Nat.reduceSub, Nat.zero_add, put_put, put_same, reduceIte, Bool.false_eq_true, Bool.true_eq_false, Bool.not_true, Bool.not_false, at_0, at_1, at_2, at_3, at_4, at_5, at_6, at_7, ix_1_0, ix_2_0, ix_2_1, ix_3_0, ix_3_1, ix_3_2, ix_4_0, ix_4_1, ix_4_2, ix_4_3]
      refine ite_d (fun cc => ?_) (fun cc => hN _ _ ?_)
      · simp only [sp_l_draw, sSeq, sAsg, sDrop, sRet, sRetN, sIf, sNext, sPar, sPar3, sFor, sRaise, sFldT, sNo, rNo, rVar, rFrz, rC, rBin, rTest, bAnd, bOr, bNot, bIf, vAnd, vOr, vNot, rIf, rNeg, aNil, aCons, rTup, rLst, rLstC, rArgs, gNameT, gNilT, gConsT, gTupT, gSubT, iSeq, iRng1T, iRng2T, rLc, rCall, rCallN, rCallS, rFld, rCon, rMake, rMakeN, rMakeP, rMeth, rMethK, rProp, rClsFn, rOpOwn, rSl, oNone, oSome, rFmt, kFmt, rJs, rLidx, kStrOwn, kAddC, rMut, kAdd, kI2, kI2n, kMul, kIx, kIn, kLen, kU, kA2, kDm, kStrI, kAll, kSl, kAppend, kExtend, kTuple, kList, lenT, seqOf, bYes, startT, one, pickG, selG, insOf, putT, flatT, Bool.false_xor, Bool.true_xor, List.all_cons, List.all_nil, Bool.and_self, T.int.injEq, T.bl.injEq, T.str.injEq, T.lst.injEq, T.tup.injEq, T.cell.injEq, T.ins.injEq, Cell.lst.injEq, Cell.ins.injEq, Prod.mk.injEq, List.cons.injEq, Option.some.injEq, List.map_cons, List.map_nil, List.length_cons, List.length_nil, List.cons_append, List.nil_append, List.append_nil, List.getElem?_cons_zero, List.getElem?_cons_succ, List.set_cons_zero, List.set_cons_succ, List.replicate_succ, List.replicate_zero, exists_eq_left, exists_eq_left', exists_and_left, and_true, true_and, and_self, and_assoc, Nat.sub_self, Nat.reduceAdd, Nat.reduceSub, Nat.zero_add, put_put, put_same, reduceIte, Bool.false_eq_true, Bool.true_eq_false, Bool.not_true, Bool.not_false, at_0, at_1, at_2, at_3, at_4, at_5, at_6, at_7, ix_1_0, ix_2_0, ix_2_1, ix_3_0, ix_3_1, ix_3_2, ix_4_0, ix_4_1, ix_4_2, ix_4_3]
        refine ⟨by decide, hp3, Pn.of (by decide) (by decide), fun y S4' y0 y1 p4 => ?_⟩
        have hy : y = 0 ∨ y = 1 ∨ y = 2 := by omega
        rcases hy with rfl | rfl | rfl
        · exact ⟨_, rfl, by decide, q2 (.cr false a b "left") _ ⟨ba, bb, by decide +kernel⟩ p4⟩
        · exact ⟨_, rfl, by decide, q2 (.cr false a b "center") _ ⟨ba, bb, by decide +kernel⟩ p4⟩
        · exact ⟨_, rfl, by decide, q2 (.cr false a b "right") _ ⟨ba, bb, by decide +kernel⟩ p4⟩
      · refine sSeq_i fun N hN => ?_
        simp only [sSeq, sAsg, sDrop, sRet, sRetN, sIf, sNext, sPar, sPar3, sFor, sRaise, sFldT, sNo, rNo, rVar, rFrz, rC, rBin, rTest, bAnd, bOr, bNot, bIf, vAnd, vOr, vNot, rIf, rNeg, aNil, aCons, rTup, rLst, rLstC, rArgs, gNameT, gNilT, gConsT, gTupT, gSubT, iSeq, iRng1T, iRng2T, rLc, rCall, rCallN, rCallS, rFld, rCon, rMake, rMakeN, rMakeP, rMeth, rMethK, rProp, rClsFn, rOpOwn, rSl, oNone, oSome, rFmt, kFmt, rJs, rLidx, kStrOwn, kAddC, rMut, kAdd, kI2, kI2n, kMul, kIx, kIn, kLen, kU, kA2, kDm, kStrI, kAll, kSl, kAppend, kExtend, kTuple, kList, lenT, seqOf, bYes, startT, one, pickG, selG, insOf, putT, flatT, Bool.false_xor, Bool.true_xor, List.all_cons, List.all_nil, Bool.and_self, T.int.injEq, T.bl.injEq, T.str.injEq, T.lst.injEq, T.tup.injEq, T.cell.injEq, T.ins.injEq, Cell.lst.injEq, Cell.ins.injEq, Prod.mk.injEq, List.cons.injEq, Option.some.injEq, List.map_cons, List.map_nil, List.length_cons, List.length_nil, List.cons_append, List.nil_append, List.append_nil, List.getElem?_cons_zero, List.getElem?_cons_succ, List.set_cons_zero, List.set_cons_succ, List.replicate_succ, List.replicate_zero, exists_eq_left, exists_eq_left', exists_and_left, and_true, true_and, and_self, and_assoc, Nat.sub_self, Nat.reduceAdd, Nat.reduceSub, Nat.zero_add, put_put, put_same, reduceIte, Bool.false_eq_true, Bool.true_eq_false, Bool.not_true, Bool.not_false, at_0, at_1, at_2, at_3, at_4, at_5, at_6, at_7, ix_1_0, ix_2_0, ix_2_1, ix_3_0, ix_3_1, ix_3_2, ix_4_0, ix_4_1, ix_4_2, ix_4_3]
        refine ite_d (fun cc => ?_) (fun cc => hN _ _ ?_)
        · simp only [sp_l_draw, sSeq, sAsg, sDrop, sRet, sRetN, sIf, sNext, sPar, sPar3, sFor, sRaise, sFldT, sNo, rNo, rVar, rFrz, rC, rBin, rTest, bAnd, bOr, bNot, bIf, vAnd, vOr, vNot, rIf, rNeg, aNil, aCons, rTup, rLst, rLstC, rArgs, gNameT, gNilT, gConsT, gTupT, gSubT, iSeq, iRng1T, iRng2T, rLc, rCall, rCallN, rCallS, rFld, rCon, rMake, rMakeN, rMakeP, rMeth, rMethK, rProp, rClsFn, rOpOwn, rSl, oNone, oSome, rFmt, kFmt, rJs, rLidx, kStrOwn, kAddC, rMut, kAdd, kI2, kI2n, kMul, kIx, kIn, kLen, kU, kA2, kDm, kStrI, kAll, kSl, kAppend, kExtend, kTuple, kList, lenT, seqOf, bYes, startT, one, pickG, selG, insOf, putT, flatT, Bool.false_xor, Bool.true_xor, List.all_cons, List.all_nil, Bool.and_self, T.int.injEq, T.bl.injEq, T.str.injEq, T.lst.injEq, T.tup.injEq, T.cell.injEq, T.ins.injEq, Cell.lst.injEq, Cell.ins.injEq, Prod.mk.injEq, List.cons.injEq, Option.some.injEq, List.map_cons, List.map_nil, List.length_cons, List.length_nil, List.cons_append, List.nil_append, List.append_nil, List.getElem?_cons_zero, List.getElem?_cons_succ, List.set_cons_zero, List.set_cons_succ, List.replicate_succ, List.replicate_zero, exists_eq_left, exists_eq_left', exists_and_left, and_true, true_and, and_self, and_assoc, Nat.sub_self, Nat.reduceAdd, Nat.reduceSub, Nat.zero_add, put_put, put_same, reduceIte, Bool.false_eq_true, Bool.true_eq_false, Bool.not_true, Bool.not_false, at_0, at_1, at_2, at_3, at_4, at_5, at_6, at_7, ix_1_0, ix_2_0, ix_2_1, ix_3_0, ix_3_1, ix_3_2, ix_4_0, ix_4_1, ix_4_2, ix_4_3]
          refine ⟨by decide, hp3, Pn.of (by decide) (by decide), fun y S4' y0 y1 p4 => ?_⟩
          have hy : y = 0 ∨ y = 1 ∨ y = 2 := by omega
          rcases hy with rfl | rfl | rfl
          · exact ⟨_, rfl, by decide, q2 (.cr true a b "top") _ ⟨ba, bb, by decide +kernel⟩ p4⟩
          · exact ⟨_, rfl, by decide, q2 (.cr true a b "center") _ ⟨ba, bb, by decide +kernel⟩ p4⟩
          · exact ⟨_, rfl, by decide, q2 (.cr true a b "bottom") _ ⟨ba, bb, by decide +kernel⟩ p4⟩
        · refine sSeq_i fun N hN => ?_
          simp only [sSeq, sAsg, sDrop, sRet, sRetN, sIf, sNext, sPar, sPar3, sFor, sRaise, sFldT, sNo, rNo, rVar, rFrz, rC, rBin, rTest, bAnd, bOr, bNot, bIf, vAnd, vOr, vNot, rIf, rNeg, aNil, aCons, rTup, rLst, rLstC, rArgs, gNameT, gNilT, gConsT, gTupT, gSubT, iSeq, iRng1T, iRng2T, rLc, rCall, rCallN, rCallS, rFld, rCon, rMake, rMakeN, rMakeP, rMeth, rMethK, rProp, rClsFn, rOpOwn, rSl, oNone, oSome, rFmt, kFmt, rJs, rLidx, kStrOwn, kAddC, rMut, kAdd, kI2, kI2n, kMul, kIx, kIn, kLen, kU, kA2, kDm, kStrI, kAll, kSl, kAppend, kExtend, kTuple, kList, lenT, seqOf, bYes, startT, one, pickG, selG, insOf, putT, flatT, Bool.false_xor, Bool.true_xor, List.all_cons, List.all_nil, Bool.and_self, T.int.injEq, T.bl.injEq, T.str.injEq, T.lst.injEq, T.tup.injEq, T.cell.injEq, T.ins.injEq, Cell.lst.injEq, Cell.ins.injEq, Prod.mk.injEq, List.cons.injEq, Option.some.injEq, List.map_cons, List.map_nil, List.length_cons, List.length_nil, List.cons_append, List.nil_append, List.append_nil, List.getElem?_cons_zero, List.getElem?_cons_succ, List.set_cons_zero, List.set_cons_succ, List.replicate_succ, List.replicate_zero, exists_eq_left, exists_eq_left', exists_and_left, and_true, true_and, and_self, and_assoc, Nat.sub_self, Nat.reduceAdd, Nat.reduceSub, Nat.zero_add, put_put, put_same, reduceIte, Bool.false_eq_true, Bool.true_eq_false, Bool.not_true, Bool.not_false, at_0, at_1, at_2, at_3, at_4, at_5, at_6, at_7, ix_1_0, ix_2_0, ix_2_1, ix_3_0, ix_3_1, ix_3_2, ix_4_0, ix_4_1, ix_4_2, ix_4_3]
          refine eqI0 ⟨_, rfl, ?_⟩
          refine ite_d (fun cc => ?_) (fun cc => hN _ _ ?_)
          · simp only [sp_l_draw, sSeq, sAsg, sDrop, sRet, sRetN, sIf, sNext, sPar, sPar3, sFor, sRaise, sFldT, sNo, rNo, rVar, rFrz, rC, rBin, rTest, bAnd, bOr, bNot, bIf, vAnd, vOr, vNot, rIf, rNeg, aNil, aCons, rTup, rLst, rLstC, rArgs, gNameT, gNilT, gConsT, gTupT, gSubT, iSeq, iRng1T, iRng2T, rLc, rCall, rCallN, rCallS, rFld, rCon, rMake, rMakeN, rMakeP, rMeth, rMethK, rProp, rClsFn, rOpOwn, rSl, oNone, oSome, rFmt, kFmt, rJs, rLidx, kStrOwn, kAddC, rMut, kAdd, kI2, kI2n, kMul, kIx, kIn, kLen, kU, kA2, kDm, kStrI, kAll, kSl, kAppend, kExtend, kTuple, kList, lenT, seqOf, bYes, startT, one, pickG, selG, insOf, putT, flatT, Bool.false_xor, Bool.true_xor, List.all_cons, List.all_nil, Bool.and_self, T.int.injEq, T.bl.injEq, T.str.injEq, T.lst.injEq, T.tup.injEq, T.cell.injEq, T.ins.injEq, Cell.lst.injEq, Cell.ins.injEq, Prod.mk.injEq, List.cons.injEq, Option.some.injEq, List.map_cons, List.map_nil, List.length_cons, List.length_nil, List.cons_append, List.nil_append, List.append_nil, List.getElem?_cons_zero, List.getElem?_cons_succ, List.set_cons_zero, List.set_cons_succ, List.replicate_succ, List.replicate_zero, exists_eq_left, exists_eq_left', exists_and_left, and_true, true_and, and_self, and_assoc, Nat.sub_self, Nat.reduceAdd, Nat.reduceSub, Nat.zero_add, put_put, put_same, reduceIte, Bool.false_eq_true, Bool.true_eq_false, Bool.not_true, Bool.not_false, at_0, at_1, at_2, at_3, at_4, at_5, at_6, at_7, ix_1_0, ix_2_0, ix_2_1, ix_3_0, ix_3_1, ix_3_2, ix_4_0, ix_4_1, ix_4_2, ix_4_3]
            refine ⟨hp3, Pn.of (by decide) (by decide), fun y S4' y0 y1 p4 => ⟨by decide, q2 (.tu (1 + y)) _ ⟨by omega, by omega⟩ p4⟩⟩
          · simp only [sp_l_draw, sSeq, sAsg, sDrop, sRet, sRetN, sIf, sNext, sPar, sPar3, sFor, sRaise, sFldT, sNo, rNo, rVar, rFrz, rC, rBin, rTest, bAnd, bOr, bNot, bIf, vAnd, vOr, vNot, rIf, rNeg, aNil, aCons, rTup, rLst, rLstC, rArgs, gNameT, gNilT, gConsT, gTupT, gSubT, iSeq, iRng1T, iRng2T, rLc, rCall, rCallN, rCallS, rFld, rCon, rMake, rMakeN, rMakeP, rMeth, rMethK, rProp, rClsFn, rOpOwn, rSl, oNone, oSome, rFmt, kFmt, rJs, rLidx, kStrOwn, kAddC, rMut, kAdd, kI2, kI2n, kMul, kIx, kIn, kLen, kU, kA2, kDm, kStrI, kAll, kSl, kAppend, kExtend, kTuple, kList, lenT, seqOf, bYes, startT, one, pickG, selG, insOf, putT, flatT, Bool.false_xor, Bool.true_xor, List.all_cons, List.all_nil, Bool.and_self, T.int.injEq, T.bl.injEq, T.str.injEq, T.lst.injEq, T.tup.injEq, T.cell.injEq, T.ins.injEq, Cell.lst.injEq, Cell.ins.injEq, Prod.mk.injEq, List.cons.injEq, Option.some.injEq, List.map_cons, List.map_nil, List.length_cons, List.length_nil, List.cons_append, List.nil_append, List.append_nil, List.getElem?_cons_zero, List.getElem?_cons_succ, List.set_cons_zero, List.set_cons_succ, List.replicate_succ, List.replicate_zero, exists_eq_left, exists_eq_left', exists_and_left, and_true, true_and, and_self, and_assoc, Nat.sub_self, Nat.reduceAdd, Nat.reduceSub, Nat.zero_add, put_put, put_same, reduceIte, Bool.false_eq_true, Bool.true_eq_false, Bool.not_true, Bool.not_false, at_0, at_1, at_2, at_3, at_4, at_5, at_6, at_7, ix_1_0, ix_2_0, ix_2_1, ix_3_0, ix_3_1, ix_3_2, ix_4_0, ix_4_1, ix_4_2, ix_4_3]
            refine ⟨by decide, by decide, by decide, hp3, Pn.of (by decide) (by decide), fun y S4' y0 y1 p4 => ?_⟩
            have hy : y = 0 ∨ y = 1 := by omega
            rcases hy with rfl | rfl
            · exact ⟨_, rfl, q2 (.ori false) _ trivial p4⟩
            · exact ⟨_, rfl, q2 (.ori true) _ trivial p4⟩
  · exact h.elim
/-! small data: what repr shows of it is short -/
theorem two_ten : (2 : Nat) ^ 1900 < 10 ^ 600 := by decide +kernel
theorem intlen {i : Int} (h : i.natAbs < 2 ^ 1900) : (Str.ofString (toString i)).length ≤ 601 := by
  rw [PySem.ofString_length]
  exact PySem.int_text_length_le10 (k := 600) (by decide) (Nat.lt_trans h two_ten)
structure SmL (k n : Nat) (ts : List T) : Prop where
  ex : ∃ ds, T.datL ts = some ds ∧ PyData.showableAll ds = true ∧ PyData.hasDictAll ds = false ∧ PyData.depthAll ds ≤ k ∧ ((PyData.shownAll ds).map (·.length)).sum + 2 * ds.length ≤ n
theorem SmT.up {j k n m : Nat} {d : T} (h : SmT j n d) (le2 : j ≤ k) (le : n ≤ m) : SmT k m d := let ⟨d, a, b, c, e, f⟩ := h.ex; ⟨d, a, b, c, Nat.le_trans e le2, Nat.le_trans f le⟩
theorem SmL.nil {k : Nat} : SmL k 0 [] := ⟨[], by rw [T.datL], by simp only [PyData.showableAll], by simp only [PyData.hasDictAll], by simp only [PyData.depthAll]; omega, by rw [PyData.shownAll_nil]; exact Nat.le_refl _⟩
theorem SmL.cons {k n m : Nat} {t : T} {ts : List T} (h : SmT k n t) (q : SmL k m ts) : SmL k (n + m + 2) (t :: ts) := by
  obtain ⟨d, e1, sh, nd, dp, ln⟩ := h.ex
  obtain ⟨ds, e2, sh2, nd2, dp2, ln2⟩ := q.ex
  refine ⟨d :: ds, by rw [T.datL, e1, e2], by simp only [PyData.showableAll, sh, sh2, Bool.and_self], by simp only [PyData.hasDictAll, nd, nd2, Bool.or_self], ?_, ?_⟩
  · simp only [PyData.depthAll]
    omega
  · rw [PyData.shownAll_cons]
    simp only [List.map_cons, List.sum_cons, List.length_cons]
    omega
theorem SmT.lst {k n : Nat} {ts : List T} (h : SmL k n ts) : SmT (k + 1) (n + 3) (.lst ts) := by
  obtain ⟨ds, e, sh, nd, dp, ln⟩ := h.ex
  refine ⟨.list ds, by rw [T.dat, e]; rfl, by simp only [PyData.showable, sh], by simp only [PyData.hasDict, nd], ?_, ?_⟩
  · simp only [PyData.depth]
    omega
  · have h2 := listText_len_le (PyData.shownAll ds)
    rw [PyData.shownAll_length] at h2
    simp only [PyData.shown]
    omega
theorem SmT.tup {k n : Nat} {ts : List T} (h : SmL k n ts) : SmT (k + 1) (n + 3) (.tup ts) := by
  obtain ⟨ds, e, sh, nd, dp, ln⟩ := h.ex
  refine ⟨.tuple ds, by rw [T.dat, e]; rfl, by simp only [PyData.showable, sh], by simp only [PyData.hasDict, nd], ?_, ?_⟩
  · simp only [PyData.depth]
    omega
  · have h2 := tupleText_len_le (PyData.shownAll ds)
    rw [PyData.shownAll_length] at h2
    simp only [PyData.shown]
    omega
theorem SmT.int {i : Int} (h : i.natAbs < 2 ^ 1900) : SmT 1 601 (.int i) := by
  have l : i.natAbs.log2 < 1900 := PySem.Flt.log2_lt_of (by decide) h
  refine ⟨.int i, by rw [T.dat], ?_, by simp only [PyData.hasDict], by simp only [PyData.depth]; omega, ?_⟩
  · have := PyData.showableAll_ints [i] (fun n m => by rw [List.mem_singleton.mp m]; omega)
    simpa only [List.map_cons, List.map_nil, PyData.showableAll, Bool.and_true] using this
  · rw [PyData.shown_int]
    exact intlen h
theorem SmT.bool (b : Bool) : SmT 1 5 (.bl b) := by
  refine ⟨.bool b, by rw [T.dat], by simp only [PyData.showable], by simp only [PyData.hasDict], by simp only [PyData.depth]; omega, ?_⟩
  rw [PyData.shown_bool]
  cases b <;> decide
theorem SmT.fr {a b : Int} (h : Pn 1900 a) (k : Pn 1900 b) : SmT 2 1300 (frT a b) := (SmT.tup ((SmL.cons (SmT.int h.lt) (SmL.cons (SmT.int k.lt) SmL.nil)))).up (by decide) (by decide)
/-- repr of one thing -/
theorem repr_one {x : T} {k n : Nat} {S : Store} {R : T → Store → Prop} {RE : XT} (d : isDispT x = true) (s : SmT k n x) (hk : k ≤ 64) (hn : n ≤ 16777216) (q : R (.str (shownT x)) S) : kRepr [x] S R RE := ⟨x, k, n, rfl, d, s, hk, hn, q⟩
theorem eq_str {a b : Str} {S : Store} {R : T → Store → Prop} {RE : XT} {ng : Bool} (q : R (.bl (ng ^^ decide (a = b))) S) : kEqG ng (.str a) (.str b) S R RE := .inl ⟨rfl, q⟩
def Wd.isSc : Wd → Bool
  | .sc _ _ _ _ => true
  | _ => false
def Wd.word : Wd → Str
  | .sc g _ _ _ => if g = true then "grow" else "shrink"
  | .cr t _ _ _ => if t = true then "height" else "width"
  | .tu _ => "turn"
  | .ori p => if p = true then "portrait" else "landscape"
def Wd.more : Wd → List T
  | .sc _ w h c => [.int w, .int h, .bl c]
  | .cr _ w h k => [.int w, .int h, .str k]
  | .tu n => [.int n]
  | .ori _ => []
theorem Wd.t_eq (d : Wd) : d.t = .tup (.str d.word :: d.more) := by cases d <;> rfl
theorem Wd.in_sc (d : Wd) : inT (.str d.word) [.str "shrink", .str "grow"] = d.isSc := by
  cases d with
  | sc b w h c =>
    cases b
    · exact (by decide +kernel : inT (.str "shrink") [.str "shrink", .str "grow"] = true)
    · exact (by decide +kernel : inT (.str "grow") [.str "shrink", .str "grow"] = true)
  | cr t w h k =>
    cases t
    · exact (by decide +kernel : inT (.str "width") [.str "shrink", .str "grow"] = false)
    · exact (by decide +kernel : inT (.str "height") [.str "shrink", .str "grow"] = false)
  | tu n => exact (by decide +kernel : inT (.str "turn") [.str "shrink", .str "grow"] = false)
  | ori p =>
    cases p
    · exact (by decide +kernel : inT (.str "landscape") [.str "shrink", .str "grow"] = false)
    · exact (by decide +kernel : inT (.str "portrait") [.str "shrink", .str "grow"] = false)
def Wd.isCr : Wd → Bool
  | .cr _ _ _ _ => true
  | _ => false
theorem Wd.in_cr (d : Wd) : inT (.str d.word) [.str "width", .str "height"] = d.isCr := by
  cases d with
  | sc b w h c =>
    cases b
    · exact (by decide +kernel : inT (.str "shrink") [.str "width", .str "height"] = false)
    · exact (by decide +kernel : inT (.str "grow") [.str "width", .str "height"] = false)
  | cr t w h k =>
    cases t
    · exact (by decide +kernel : inT (.str "width") [.str "width", .str "height"] = true)
    · exact (by decide +kernel : inT (.str "height") [.str "width", .str "height"] = true)
  | tu n => exact (by decide +kernel : inT (.str "turn") [.str "width", .str "height"] = false)
  | ori p =>
    cases p
    · exact (by decide +kernel : inT (.str "landscape") [.str "width", .str "height"] = false)
    · exact (by decide +kernel : inT (.str "portrait") [.str "width", .str "height"] = false)
theorem sApp (a b c : Str) : (a ++ b) ++ c = a ++ (b ++ c) := by
  show (⟨(a.cps ++ b.cps) ++ c.cps⟩ : Str) = ⟨a.cps ++ (b.cps ++ c.cps)⟩
  rw [Array.append_assoc]
theorem sEmp (a : Str) : Str.empty ++ a = a := by
  show (⟨#[] ++ a.cps⟩ : Str) = a
  rw [Array.empty_append]
theorem sLen (a b : Str) : (a ++ b).length = a.length + b.length := by
  show (a.cps ++ b.cps).size = _
  rw [Array.size_append]; rfl
theorem sEnd (a : Str) : a ++ ("" : Str) = a := by
  have e : ("" : Str) = ⟨#[]⟩ := by decide +kernel
  rw [e]
  show (⟨a.cps ++ #[]⟩ : Str) = a
  rw [Array.append_empty]
abbrev nS (i : Int) : Str := Str.ofString (toString i)
theorem Bx.nl {w : Int} (h : Bx w) : (nS w).length ≤ 601 := intlen (h.pn.up (m := 1900) (by decide)).lt
theorem Bx.lg {w : Int} (h : Bx w) : w.natAbs.log2 < 1920 := PySem.Flt.log2_lt_of (by decide) (h.pn.up (m := 1920) (by decide)).lt
def endS (c : Bool) : Str := if c = true then " cover" else ""
def dtSc (w h : Int) (c : Bool) : Str := ((((Str.empty ++ " ") ++ nS w) ++ "x") ++ nS h) ++ endS c
def dtCr (w h : Int) (k : Str) : Str := (((((Str.empty ++ " ") ++ nS w) ++ ":") ++ nS h) ++ " ") ++ k
def dtTu (n : Int) : Str := (Str.empty ++ " ") ++ nS n
theorem ln1 {a b : Str} {n m : Nat} (h : a.length ≤ n) (k : b.length ≤ m) : (a ++ b).length ≤ n + m := by rw [sLen]; omega
theorem lnS {a : Str} {n : Nat} (h : a.length ≤ n) (k : n ≤ 16777216 := by decide) : a.length ≤ sizeLine := by rw [sizeLine_eq]; omega
theorem ln0 : (Str.empty).length ≤ 0 := Nat.le_refl _
theorem sc_Step_details : FnScope ["self"] ["self"] (defScope s_Step_details) := ⟨rfl, rfl, rfl, by decide +kernel, rfl, by decide +kernel, by decide +kernel⟩
def sp_Step_details : SpT := fun ts S R _ => match ts with
  | [_] => R (.str "") S
  | _ => False
theorem ok_Step_details {P : Program} {w : World} {K : PySem.W.Frag} {mg : Str → Option Value} {base : Heap} {f : Addr} {fd : FuncData}   (F : Fun K "details" "Step.details" s_Step_details f fd)
    : FnT P w K mg base 1 f fd ["self"] sp_Step_details := by
  refine okT F sc_Step_details (by intro ts S R RE h; unfold sp_Step_details at h; split at h <;> first | rfl | exact h.elim) (fun cdv A out s H E hg hr => (bs_one (ss_ret et_str))) ?_
  intro ts S R RE h
  unfold sp_Step_details at h
  split at h
  · simp only [sSeq, sAsg, sDrop, sRet, sRetN, sIf, sNext, sPar, sPar3, sFor, sRaise, sFldT, sNo, rNo, rVar, rFrz, rC, rBin, rTest, bAnd, bOr, bNot, bIf, vAnd, vOr, vNot, rIf, rNeg, aNil, aCons, rTup, rLst, rLstC, rArgs, gNameT, gNilT, gConsT, gTupT, gSubT, iSeq, iRng1T, iRng2T, rLc, rCall, rCallN, rCallS, rFld, rCon, rMake, rMakeN, rMakeP, rMeth, rMethK, rProp, rClsFn, rOpOwn, rSl, oNone, oSome, rFmt, kFmt, rJs, rLidx, kStrOwn, kAddC, rMut, kAdd, kI2, kI2n, kMul, kIx, kIn, kLen, kU, kA2, kDm, kStrI, kAll, kSl, kAppend, kExtend, kTuple, kList, lenT, seqOf, bYes, startT, one, pickG, selG, insOf, putT, flatT, Bool.false_xor, Bool.true_xor, List.all_cons, List.all_nil, Bool.and_self, T.int.injEq, T.bl.injEq, T.str.injEq, T.lst.injEq, T.tup.injEq, T.cell.injEq, T.ins.injEq, Cell.lst.injEq, Cell.ins.injEq, Prod.mk.injEq, List.cons.injEq, Option.some.injEq, List.map_cons, List.map_nil, List.length_cons, List.length_nil, List.cons_append, List.nil_append, List.append_nil, List.getElem?_cons_zero, List.getElem?_cons_succ, List.set_cons_zero, List.set_cons_succ, List.replicate_succ, List.replicate_zero, exists_eq_left, exists_eq_left', exists_and_left, and_true, true_and, and_self, and_assoc, Nat.sub_self, Nat.reduceAdd, Nat.reduceSub, Nat.zero_add, put_put, put_same, reduceIte, Bool.false_eq_true, Bool.true_eq_false, Bool.not_true, Bool.not_false, at_0, at_1, at_2, at_3, at_4, at_5, at_6, at_7, ix_1_0, ix_2_0, ix_2_1, ix_3_0, ix_3_1, ix_3_2, ix_4_0, ix_4_1, ix_4_2, ix_4_3]
    exact h
  · exact h.elim
theorem sc_Scaling_details : FnScope ["self", "ending"] ["self"] (defScope s_Scaling_details) := ⟨rfl, rfl, rfl, by decide +kernel, rfl, by decide +kernel, by decide +kernel⟩
def sp_Scaling_details (K : PySem.W.Frag) : SpT := fun ts S R _ => match ts with
  | [x] => ∃ C w h c, x = .ins C (stF w h c) ∧ SF K C ∧ Bx w ∧ Bx h ∧ R (.str (dtSc w h c)) S
  | _ => False
theorem ok_Scaling_details {P : Program} {w : World} {K : PySem.W.Frag} {mg : Str → Option Value} {base : Heap} {f : Addr} {fd : FuncData}   (F : Fun K "details" "Scaling.details" s_Scaling_details f fd)
    : FnT P w K mg base 1 f fd ["self"] (sp_Scaling_details K) := by
  refine okT F sc_Scaling_details (by intro ts S R RE h; unfold sp_Scaling_details at h; split at h <;> first | rfl | exact h.elim) (fun cdv A out s H E hg hr => (bs_cons (ss_set (i := 1) sc_Scaling_details.nd rfl (by first | exact Or.inl rfl | exact Or.inr rfl) (et_if (tt_val (et_fldK K rfl (et_var (pv 0)))) et_str et_str))
    (bs_one (ss_ret (et_joined (EJ.cons et_str (EJ.cons (et_fmt (et_fldK K rfl (et_var (pv 0)))) (EJ.cons et_str (EJ.cons (et_fmt (et_fldK K rfl (et_var (pv 0)))) (EJ.cons (et_fmt (et_var (pv 1))) EJ.nil)))))))))) ?_
  intro ts S R RE h
  unfold sp_Scaling_details at h
  split at h
  · rename_i x
    obtain ⟨C, w, h, c, rfl, sf, hw, hh, q⟩ := h
    refine sSeq_i fun N hN => ?_
    simp only [sf.w, sf.h, sf.c, stF_w, stF_h, stF_c, sSeq, sAsg, sDrop, sRet, sRetN, sIf, sNext, sPar, sPar3, sFor, sRaise, sFldT, sNo, rNo, rVar, rFrz, rC, rBin, rTest, bAnd, bOr, bNot, bIf, vAnd, vOr, vNot, rIf, rNeg, aNil, aCons, rTup, rLst, rLstC, rArgs, gNameT, gNilT, gConsT, gTupT, gSubT, iSeq, iRng1T, iRng2T, rLc, rCall, rCallN, rCallS, rFld, rCon, rMake, rMakeN, rMakeP, rMeth, rMethK, rProp, rClsFn, rOpOwn, rSl, oNone, oSome, rFmt, kFmt, rJs, rLidx, kStrOwn, kAddC, rMut, kAdd, kI2, kI2n, kMul, kIx, kIn, kLen, kU, kA2, kDm, kStrI, kAll, kSl, kAppend, kExtend, kTuple, kList, lenT, seqOf, bYes, startT, one, pickG, selG, insOf, putT, flatT, Bool.false_xor, Bool.true_xor, List.all_cons, List.all_nil, Bool.and_self, T.int.injEq, T.bl.injEq, T.str.injEq, T.lst.injEq, T.tup.injEq, T.cell.injEq, T.ins.injEq, Cell.lst.injEq, Cell.ins.injEq, Prod.mk.injEq, List.cons.injEq, Option.some.injEq, List.map_cons, List.map_nil, List.length_cons, List.length_nil, List.cons_append, List.nil_append, List.append_nil, List.getElem?_cons_zero, List.getElem?_cons_succ, List.set_cons_zero, List.set_cons_succ, List.replicate_succ, List.replicate_zero, exists_eq_left, exists_eq_left', exists_and_left, and_true, true_and, and_self, and_assoc, Nat.sub_self, Nat.reduceAdd, Nat.reduceSub, Nat.zero_add, put_put, put_same, reduceIte, Bool.false_eq_true, Bool.true_eq_false, Bool.not_true, Bool.not_false, at_0, at_1, at_2, at_3, at_4, at_5, at_6, at_7, ix_1_0, ix_2_0, ix_2_1, ix_3_0, ix_3_1, ix_3_2, ix_4_0, ix_4_1, ix_4_2, ix_4_3]
    suffices KK : N [some (.ins C (stF w h c)), some (.str (endS c))] S by
      cases c with
      | true => rw [if_pos rfl]; exact KK
      | false => rw [if_neg Bool.false_ne_true]; exact KK
    refine hN _ _ ?_
    simp only [sf.w, sf.h, sf.c, stF_w, stF_h, stF_c, sSeq, sAsg, sDrop, sRet, sRetN, sIf, sNext, sPar, sPar3, sFor, sRaise, sFldT, sNo, rNo, rVar, rFrz, rC, rBin, rTest, bAnd, bOr, bNot, bIf, vAnd, vOr, vNot, rIf, rNeg, aNil, aCons, rTup, rLst, rLstC, rArgs, gNameT, gNilT, gConsT, gTupT, gSubT, iSeq, iRng1T, iRng2T, rLc, rCall, rCallN, rCallS, rFld, rCon, rMake, rMakeN, rMakeP, rMeth, rMethK, rProp, rClsFn, rOpOwn, rSl, oNone, oSome, rFmt, kFmt, rJs, rLidx, kStrOwn, kAddC, rMut, kAdd, kI2, kI2n, kMul, kIx, kIn, kLen, kU, kA2, kDm, kStrI, kAll, kSl, kAppend, kExtend, kTuple, kList, lenT, seqOf, bYes, startT, one, pickG, selG, insOf, putT, flatT, Bool.false_xor, Bool.true_xor, List.all_cons, List.all_nil, Bool.and_self, T.int.injEq, T.bl.injEq, T.str.injEq, T.lst.injEq, T.tup.injEq, T.cell.injEq, T.ins.injEq, Cell.lst.injEq, Cell.ins.injEq, Prod.mk.injEq, List.cons.injEq, Option.some.injEq, List.map_cons, List.map_nil, List.length_cons, List.length_nil, List.cons_append, List.nil_append, List.append_nil, List.getElem?_cons_zero, List.getElem?_cons_succ, List.set_cons_zero, List.set_cons_succ, List.replicate_succ, List.replicate_zero, exists_eq_left, exists_eq_left', exists_and_left, and_true, true_and, and_self, and_assoc, Nat.sub_self, Nat.reduceAdd, Nat.reduceSub, Nat.zero_add, put_put, put_same, reduceIte, Bool.false_eq_true, Bool.true_eq_false, Bool.not_true, Bool.not_false, at_0, at_1, at_2, at_3, at_4, at_5, at_6, at_7, ix_1_0, ix_2_0, ix_2_1, ix_3_0, ix_3_1, ix_3_2, ix_4_0, ix_4_1, ix_4_2, ix_4_3]
    have l1 := ln1 ln0 (by decide : (" " : Str).length ≤ 1)
    have l2 := ln1 l1 hw.nl
    have l3 := ln1 l2 (by decide : ("x" : Str).length ≤ 1)
    have l4 := ln1 l3 hh.nl
    have l5 : (endS c).length ≤ 6 := by cases c <;> decide
    exact ⟨lnS l1, hw.lg, lnS l2, lnS l3, hh.lg, lnS l4, lnS l5, lnS (ln1 l4 l5), q⟩
  · exact h.elim
def kpL : List T := keepsW ++ keepsH
theorem kp_len {t : Bool} {k : Str} (h : inT (.str k) (if t = true then keepsH else keepsW) = true) : k.length ≤ 6 := by
  have g : ∀ (l : List T) (n : Nat), (∀ y ∈ l, ∃ z : Str, y = .str z ∧ z.length ≤ n) → inT (.str k) l = true → k.length ≤ n := fun l n hl h => by
    unfold inT at h
    obtain ⟨y, m, e⟩ := List.any_eq_true.mp h
    obtain ⟨z, rfl, lz⟩ := hl y m
    have : z = k := by simpa [eqT] using e
    rw [← this]; exact lz
  cases t
  · refine g keepsW 6 (fun y m => ?_) h
    simp only [keepsW, List.mem_cons, List.not_mem_nil, or_false] at m
    rcases m with rfl | rfl | rfl <;> exact ⟨_, rfl, by decide⟩
  · refine g keepsH 6 (fun y m => ?_) h
    simp only [keepsH, List.mem_cons, List.not_mem_nil, or_false] at m
    rcases m with rfl | rfl | rfl <;> exact ⟨_, rfl, by decide⟩
theorem crF_k {w h : Int} {c : Str} : (crF w h c).lookup ("keep" : Str) = some (.str c) := by
  have e : (("keep" : Str) == "width") = false := by decide +kernel
  have e2 : (("keep" : Str) == "height") = false := by decide +kernel
  simp [crF, List.lookup, e, e2]
theorem sc_Crop_details : FnScope ["self"] ["self"] (defScope s_Crop_details) := ⟨rfl, rfl, rfl, by decide +kernel, rfl, by decide +kernel, by decide +kernel⟩
def sp_Crop_details (K : PySem.W.Frag) : SpT := fun ts S R _ => match ts with
  | [x] => ∃ C w h k, x = .ins C (crF w h k) ∧ CF K C ∧ Bx w ∧ Bx h ∧ k.length ≤ 6 ∧ R (.str (dtCr w h k)) S
  | _ => False
theorem ok_Crop_details {P : Program} {w : World} {K : PySem.W.Frag} {mg : Str → Option Value} {base : Heap} {f : Addr} {fd : FuncData}   (F : Fun K "details" "Crop.details" s_Crop_details f fd)
    : FnT P w K mg base 1 f fd ["self"] (sp_Crop_details K) := by
  refine okT F sc_Crop_details (by intro ts S R RE h; unfold sp_Crop_details at h; split at h <;> first | rfl | exact h.elim) (fun cdv A out s H E hg hr => (bs_one (ss_ret (et_joined (EJ.cons et_str (EJ.cons (et_fmt (et_fldK K rfl (et_var (pv 0)))) (EJ.cons et_str (EJ.cons (et_fmt (et_fldK K rfl (et_var (pv 0)))) (EJ.cons et_str (EJ.cons (et_fmt (et_fldK K rfl (et_var (pv 0)))) EJ.nil)))))))))) ?_
  intro ts S R RE h
  unfold sp_Crop_details at h
  split at h
  · rename_i x
    obtain ⟨C, w, h, k, rfl, cf, hw, hh, hk, q⟩ := h
    simp only [cf.w, cf.h, cf.k, crF_w, crF_h, crF_k, sSeq, sAsg, sDrop, sRet, sRetN, sIf, sNext, sPar, sPar3, sFor, sRaise, sFldT, sNo, rNo, rVar, rFrz, rC, rBin, rTest, bAnd, bOr, bNot, bIf, vAnd, vOr, vNot, rIf, rNeg, aNil, aCons, rTup, rLst, rLstC, rArgs, gNameT, gNilT, gConsT, gTupT, gSubT, iSeq, iRng1T, iRng2T, rLc, rCall, rCallN, rCallS, rFld, rCon, rMake, rMakeN, rMakeP, rMeth, rMethK, rProp, rClsFn, rOpOwn, rSl, oNone, oSome, rFmt, kFmt, rJs, rLidx, kStrOwn, kAddC, rMut, kAdd, kI2, kI2n, kMul, kIx, kIn, kLen, kU, kA2, kDm, kStrI, kAll, kSl, kAppend, kExtend, kTuple, kList, lenT, seqOf, bYes, startT, one, pickG, selG, insOf, putT, flatT, Bool.false_xor, Bool.true_xor, List.all_cons, List.all_nil, Bool.and_self, T.int.injEq, T.bl.injEq, T.str.injEq, T.lst.injEq, T.tup.injEq, T.cell.injEq, T.ins.injEq, Cell.lst.injEq, Cell.ins.injEq, Prod.mk.injEq, List.cons.injEq, Option.some.injEq, List.map_cons, List.map_nil, List.length_cons, List.length_nil, List.cons_append, List.nil_append, List.append_nil, List.getElem?_cons_zero, List.getElem?_cons_succ, List.set_cons_zero, List.set_cons_succ, List.replicate_succ, List.replicate_zero, exists_eq_left, exists_eq_left', exists_and_left, and_true, true_and, and_self, and_assoc, Nat.sub_self, Nat.reduceAdd, Nat.reduceSub, Nat.zero_add, put_put, put_same, reduceIte, Bool.false_eq_true, Bool.true_eq_false, Bool.not_true, Bool.not_false, at_0, at_1, at_2, at_3, at_4, at_5, at_6, at_7, ix_1_0, ix_2_0, ix_2_1, ix_3_0, ix_3_1, ix_3_2, ix_4_0, ix_4_1, ix_4_2, ix_4_3]
    have l1 := ln1 ln0 (by decide : (" " : Str).length ≤ 1)
    have l2 := ln1 l1 hw.nl
    have l3 := ln1 l2 (by decide : (":" : Str).length ≤ 1)
    have l4 := ln1 l3 hh.nl
    have l5 := ln1 l4 (by decide : (" " : Str).length ≤ 1)
    exact ⟨lnS l1, hw.lg, lnS l2, lnS l3, hh.lg, lnS l4, lnS l5, lnS hk, lnS (ln1 l5 hk), q⟩
  · exact h.elim
theorem sc_Turn_details : FnScope ["self"] ["self"] (defScope s_Turn_details) := ⟨rfl, rfl, rfl, by decide +kernel, rfl, by decide +kernel, by decide +kernel⟩
def sp_Turn_details (C : Addr) : SpT := fun ts S R _ => match ts with
  | [x] => ∃ n, x = .ins C (tuF n) ∧ Bx n ∧ R (.str (dtTu n)) S
  | _ => False
theorem ok_Turn_details {P : Program} {w : World} {K : PySem.W.Frag} {mg : Str → Option Value} {base : Heap} {f : Addr} {fd : FuncData} {C_Turn : Addr}  (F : Fun K "details" "Turn.details" s_Turn_details f fd)
    (nf_Turn_times : InF K C_Turn "times")
    : FnT P w K mg base 1 f fd ["self"] (sp_Turn_details C_Turn) := by
  refine okT F sc_Turn_details (by intro ts S R RE h; unfold sp_Turn_details at h; split at h <;> first | rfl | exact h.elim) (fun cdv A out s H E hg hr => (bs_one (ss_ret (et_joined (EJ.cons et_str (EJ.cons (et_fmt (et_fldK K rfl (et_var (pv 0)))) EJ.nil)))))) ?_
  intro ts S R RE h
  unfold sp_Turn_details at h
  split at h
  · rename_i x
    obtain ⟨n, rfl, hn, q⟩ := h
    simp only [nf_Turn_times, tuF_t, sSeq, sAsg, sDrop, sRet, sRetN, sIf, sNext, sPar, sPar3, sFor, sRaise, sFldT, sNo, rNo, rVar, rFrz, rC, rBin, rTest, bAnd, bOr, bNot, bIf, vAnd, vOr, vNot, rIf, rNeg, aNil, aCons, rTup, rLst, rLstC, rArgs, gNameT, gNilT, gConsT, gTupT, gSubT, iSeq, iRng1T, iRng2T, rLc, rCall, rCallN, rCallS, rFld, rCon, rMake, rMakeN, rMakeP, rMeth, rMethK, rProp, rClsFn, rOpOwn, rSl, oNone, oSome, rFmt, kFmt, rJs, rLidx, kStrOwn, kAddC, rMut, kAdd, kI2, kI2n, kMul, kIx, kIn, kLen, kU, kA2, kDm, kStrI, kAll, kSl, kAppend, kExtend, kTuple, kList, lenT, seqOf, bYes, startT, one, pickG, selG, insOf, putT, flatT, Bool.false_xor, Bool.true_xor, List.all_cons, List.all_nil, Bool.and_self, T.int.injEq, T.bl.injEq, T.str.injEq, T.lst.injEq, T.tup.injEq, T.cell.injEq, T.ins.injEq, Cell.lst.injEq, Cell.ins.injEq, Prod.mk.injEq, List.cons.injEq, Option.some.injEq, List.map_cons, List.map_nil, List.length_cons, List.length_nil, List.cons_append, List.nil_append, List.append_nil, List.getElem?_cons_zero, List.getElem?_cons_succ, List.set_cons_zero, List.set_cons_succ, List.replicate_succ, List.replicate_zero, exists_eq_left, exists_eq_left', exists_and_left, and_true, true_and, and_self, and_assoc, Nat.sub_self, Nat.reduceAdd, Nat.reduceSub, Nat.zero_add, put_put, put_same, reduceIte, Bool.false_eq_true, Bool.true_eq_false, Bool.not_true, Bool.not_false, at_0, at_1, at_2, at_3, at_4, at_5, at_6, at_7, ix_1_0, ix_2_0, ix_2_1, ix_3_0, ix_3_1, ix_3_2, ix_4_0, ix_4_1, ix_4_2, ix_4_3]
    have l1 := ln1 ln0 (by decide : (" " : Str).length ≤ 1)
    exact ⟨lnS l1, hn.lg, lnS (ln1 l1 hn.nl), q⟩
  · exact h.elim
def Wd.dets : Wd → Str
  | .sc _ w h c => dtSc w h c
  | .cr _ w h k => dtCr w h k
  | .tu n => dtTu n
  | .ori _ => ""
def Wd.text (d : Wd) : Str := (Str.empty ++ d.word) ++ d.dets
theorem Wd.word_len (d : Wd) : d.word.length ≤ 9 := by
  cases d with
  | sc b w h c =>
    cases b
    · exact (by decide : ("shrink" : Str).length ≤ 9)
    · exact (by decide : ("grow" : Str).length ≤ 9)
  | cr t w h k =>
    cases t
    · exact (by decide : ("width" : Str).length ≤ 9)
    · exact (by decide : ("height" : Str).length ≤ 9)
  | tu n => exact (by decide : ("turn" : Str).length ≤ 9)
  | ori p =>
    cases p
    · exact (by decide : ("landscape" : Str).length ≤ 9)
    · exact (by decide : ("portrait" : Str).length ≤ 9)
theorem lkN {m : Str} {a b c : Str} {x y z : T} (h1 : (m == a) = false) (h2 : (m == b) = false) (h3 : (m == c) = false) : List.lookup m [(a, x), (b, y), (c, z)] = none := by
  simp [List.lookup, h1, h2, h3]
theorem lkN1 {m : Str} {a : Str} {x : T} (h1 : (m == a) = false) : List.lookup m [(a, x)] = none := by
  simp [List.lookup, h1]
theorem Wd.dets_len {d : Wd} (g : d.good) : d.dets.length ≤ 1300 := by
  cases d with
  | sc b w h c =>
    have l5 : (endS c).length ≤ 6 := by cases c <;> decide
    exact Nat.le_trans (ln1 (ln1 (ln1 (ln1 (ln1 ln0 (by decide : (" " : Str).length ≤ 1)) g.1.nl) (by decide : ("x" : Str).length ≤ 1)) g.2.nl) l5) (by decide)
  | cr t w h k => exact Nat.le_trans (ln1 (ln1 (ln1 (ln1 (ln1 (ln1 ln0 (by decide : (" " : Str).length ≤ 1)) g.1.nl) (by decide : (":" : Str).length ≤ 1)) g.2.1.nl) (by decide : (" " : Str).length ≤ 1)) (kp_len g.2.2)) (by decide)
  | tu n => exact Nat.le_trans (ln1 (ln1 ln0 (by decide : (" " : Str).length ≤ 1)) (Bx.nl ⟨g.1, by have := g.2; omega⟩)) (by decide)
  | ori p => exact (by decide : ("" : Str).length ≤ 1300)
theorem Wd.text_len {d : Wd} (g : d.good) : d.text.length ≤ 1400 := Nat.le_trans (ln1 (ln1 ln0 d.word_len) (Wd.dets_len g)) (by decide)
theorem sc_Step_str : FnScope ["self"] ["self"] (defScope s_Step_str) := ⟨rfl, rfl, rfl, by decide +kernel, rfl, by decide +kernel, by decide +kernel⟩
def sp_Step_str (CS CG CW CH CT CL CP : Addr) : SpT := fun ts S R _ => match ts with
  | [x] => ∃ d : Wd, d.good ∧ x = d.st CS CG CW CH CT CL CP ∧ R (.str d.text) S
  | _ => False
set_option maxHeartbeats 3200000 in
theorem ok_Step_str {P : Program} {w : World} {K : PySem.W.Frag} {mg : Str → Option Value} {base : Heap} {f : Addr} {fd : FuncData} {g_Scaling_details g_Crop_details g_Turn_details C_Turn g_Step_details C_Shrink C_Grow C_CropWidth C_CropHeight C_Landscape C_Portrait : Addr} {gd_Scaling_details : FuncData} {gd_Crop_details : FuncData} {gd_Turn_details : FuncData} {gd_Step_details : FuncData} (F : Fun K "__str__" "Step.__str__" s_Step_str f fd)
    (G_Scaling_details : FnT P w K mg base 1 g_Scaling_details gd_Scaling_details ["self"] (sp_Scaling_details K))
    (b_Scaling_details : Binds K gd_Scaling_details ["self"] [])
    (G_Crop_details : FnT P w K mg base 1 g_Crop_details gd_Crop_details ["self"] (sp_Crop_details K))
    (b_Crop_details : Binds K gd_Crop_details ["self"] [])
    (G_Turn_details : FnT P w K mg base 1 g_Turn_details gd_Turn_details ["self"] (sp_Turn_details C_Turn))
    (b_Turn_details : Binds K gd_Turn_details ["self"] [])
    (G_Step_details : FnT P w K mg base 1 g_Step_details gd_Step_details ["self"] sp_Step_details)
    (b_Step_details : Binds K gd_Step_details ["self"] [])
    (cl_Shrink : Cls K C_Shrink)
    (me_Shrink_details : Meth K C_Shrink "details" g_Scaling_details)
    (cl_Grow : Cls K C_Grow)
    (me_Grow_details : Meth K C_Grow "details" g_Scaling_details)
    (cl_CropWidth : Cls K C_CropWidth)
    (me_CropWidth_details : Meth K C_CropWidth "details" g_Crop_details)
    (cl_CropHeight : Cls K C_CropHeight)
    (me_CropHeight_details : Meth K C_CropHeight "details" g_Crop_details)
    (cl_Turn : Cls K C_Turn)
    (me_Turn_details : Meth K C_Turn "details" g_Turn_details)
    (cl_Landscape : Cls K C_Landscape)
    (me_Landscape_details : Meth K C_Landscape "details" g_Step_details)
    (cl_Portrait : Cls K C_Portrait)
    (me_Portrait_details : Meth K C_Portrait "details" g_Step_details)
    (ic_Shrink_WORD : InC K C_Shrink "WORD" (.str "shrink"))
    (nf_Shrink_width : InF K C_Shrink "width")
    (nf_Shrink_height : InF K C_Shrink "height")
    (nf_Shrink_cover : InF K C_Shrink "cover")
    (ic_Grow_WORD : InC K C_Grow "WORD" (.str "grow"))
    (nf_Grow_width : InF K C_Grow "width")
    (nf_Grow_height : InF K C_Grow "height")
    (nf_Grow_cover : InF K C_Grow "cover")
    (ic_CropWidth_WORD : InC K C_CropWidth "WORD" (.str "width"))
    (nf_CropWidth_width : InF K C_CropWidth "width")
    (nf_CropWidth_height : InF K C_CropWidth "height")
    (nf_CropWidth_keep : InF K C_CropWidth "keep")
    (ic_CropHeight_WORD : InC K C_CropHeight "WORD" (.str "height"))
    (nf_CropHeight_width : InF K C_CropHeight "width")
    (nf_CropHeight_height : InF K C_CropHeight "height")
    (nf_CropHeight_keep : InF K C_CropHeight "keep")
    (ic_Turn_WORD : InC K C_Turn "WORD" (.str "turn"))
    (ic_Landscape_WORD : InC K C_Landscape "WORD" (.str "landscape"))
    (ic_Portrait_WORD : InC K C_Portrait "WORD" (.str "portrait"))
    : FnT P w K mg base 2 f fd ["self"] (sp_Step_str C_Shrink C_Grow C_CropWidth C_CropHeight C_Turn C_Landscape C_Portrait) := by
  refine okT F sc_Step_str (by intro ts S R RE h; unfold sp_Step_str at h; split at h <;> first | rfl | exact h.elim) (fun cdv A out s H E hg hr => (bs_one (ss_ret (et_joined (EJ.cons (et_fmt (et_conK K rfl (et_var (pv 0)))) (EJ.cons (et_fmt (et_meth0 (MetD.or (MetD.one cl_Shrink me_Shrink_details G_Scaling_details (hr.mono (by decide)) (CallD.all b_Scaling_details)) (MetD.or (MetD.one cl_Grow me_Grow_details G_Scaling_details (hr.mono (by decide)) (CallD.all b_Scaling_details)) (MetD.or (MetD.one cl_CropWidth me_CropWidth_details G_Crop_details (hr.mono (by decide)) (CallD.all b_Crop_details)) (MetD.or (MetD.one cl_CropHeight me_CropHeight_details G_Crop_details (hr.mono (by decide)) (CallD.all b_Crop_details)) (MetD.or (MetD.one cl_Turn me_Turn_details G_Turn_details (hr.mono (by decide)) (CallD.all b_Turn_details)) (MetD.or (MetD.one cl_Landscape me_Landscape_details G_Step_details (hr.mono (by decide)) (CallD.all b_Step_details)) (MetD.one cl_Portrait me_Portrait_details G_Step_details (hr.mono (by decide)) (CallD.all b_Step_details)))))))) hg (passL2N (L2N.takes_of rfl rfl rfl rfl)) (et_var (pv 0)))) EJ.nil)))))) ?_
  intro ts S R RE h
  unfold sp_Step_str at h
  split at h
  · rename_i x
    obtain ⟨d, g, rfl, q⟩ := h
    have lw := d.word_len
    have ld := Wd.dets_len g
    have l1 := ln1 ln0 lw
    have l2 := ln1 l1 ld
    cases d with
    | sc b w h c =>
      obtain ⟨hw, hh⟩ := g
      cases b with
      | false =>
        simp only [sSeq, sAsg, sDrop, sRet, sRetN, sIf, sNext, sPar, sPar3, sFor, sRaise, sFldT, sNo, rNo, rVar, rFrz, rC, rBin, rTest, bAnd, bOr, bNot, bIf, vAnd, vOr, vNot, rIf, rNeg, aNil, aCons, rTup, rLst, rLstC, rArgs, gNameT, gNilT, gConsT, gTupT, gSubT, iSeq, iRng1T, iRng2T, rLc, rCall, rCallN, rCallS, rFld, rCon, rMake, rMakeN, rMakeP, rMeth, rMethK, rProp, rClsFn, rOpOwn, rSl, oNone, oSome, rFmt, kFmt, rJs, rLidx, kStrOwn, kAddC, rMut, kAdd, kI2, kI2n, kMul, kIx, kIn, kLen, kU, kA2, kDm, kStrI, kAll, kSl, kAppend, kExtend, kTuple, kList, lenT, seqOf, bYes, startT, one, pickG, selG, insOf, putT, flatT, Bool.false_xor, Bool.true_xor, List.all_cons, List.all_nil, Bool.and_self, T.int.injEq, T.bl.injEq, T.str.injEq, T.lst.injEq, T.tup.injEq, T.cell.injEq, T.ins.injEq, Cell.lst.injEq, Cell.ins.injEq, Prod.mk.injEq, List.cons.injEq, Option.some.injEq, List.map_cons, List.map_nil, List.length_cons, List.length_nil, List.cons_append, List.nil_append, List.append_nil, List.getElem?_cons_zero, List.getElem?_cons_succ, List.set_cons_zero, List.set_cons_succ, List.replicate_succ, List.replicate_zero, exists_eq_left, exists_eq_left', exists_and_left, and_true, true_and, and_self, and_assoc, Nat.sub_self, Nat.reduceAdd, Nat.reduceSub, Nat.zero_add, put_put, put_same, reduceIte, Bool.false_eq_true, Bool.true_eq_false, Bool.not_true, Bool.not_false, at_0, at_1, at_2, at_3, at_4, at_5, at_6, at_7, ix_1_0, ix_2_0, ix_2_1, ix_3_0, ix_3_1, ix_3_2, ix_4_0, ix_4_1, ix_4_2, ix_4_3]
        exact ⟨_, _, rfl, _, ic_Shrink_WORD, lkN (by decide +kernel) (by decide +kernel) (by decide +kernel), lnS lw, lnS l1, _, _, rfl, _, .inl ⟨rfl, rfl⟩, lkN (by decide +kernel) (by decide +kernel) (by decide +kernel), C_Shrink, w, h, c, rfl, ⟨nf_Shrink_width, nf_Shrink_height, nf_Shrink_cover⟩, hw, hh, lnS ld, lnS l2, q⟩
      | true =>
        simp only [sSeq, sAsg, sDrop, sRet, sRetN, sIf, sNext, sPar, sPar3, sFor, sRaise, sFldT, sNo, rNo, rVar, rFrz, rC, rBin, rTest, bAnd, bOr, bNot, bIf, vAnd, vOr, vNot, rIf, rNeg, aNil, aCons, rTup, rLst, rLstC, rArgs, gNameT, gNilT, gConsT, gTupT, gSubT, iSeq, iRng1T, iRng2T, rLc, rCall, rCallN, rCallS, rFld, rCon, rMake, rMakeN, rMakeP, rMeth, rMethK, rProp, rClsFn, rOpOwn, rSl, oNone, oSome, rFmt, kFmt, rJs, rLidx, kStrOwn, kAddC, rMut, kAdd, kI2, kI2n, kMul, kIx, kIn, kLen, kU, kA2, kDm, kStrI, kAll, kSl, kAppend, kExtend, kTuple, kList, lenT, seqOf, bYes, startT, one, pickG, selG, insOf, putT, flatT, Bool.false_xor, Bool.true_xor, List.all_cons, List.all_nil, Bool.and_self, T.int.injEq, T.bl.injEq, T.str.injEq, T.lst.injEq, T.tup.injEq, T.cell.injEq, T.ins.injEq, Cell.lst.injEq, Cell.ins.injEq, Prod.mk.injEq, List.cons.injEq, Option.some.injEq, List.map_cons, List.map_nil, List.length_cons, List.length_nil, List.cons_append, List.nil_append, List.append_nil, List.getElem?_cons_zero, List.getElem?_cons_succ, List.set_cons_zero, List.set_cons_succ, List.replicate_succ, List.replicate_zero, exists_eq_left, exists_eq_left', exists_and_left, and_true, true_and, and_self, and_assoc, Nat.sub_self, Nat.reduceAdd, Nat.reduceSub, Nat.zero_add, put_put, put_same, reduceIte, Bool.false_eq_true, Bool.true_eq_false, Bool.not_true, Bool.not_false, at_0, at_1, at_2, at_3, at_4, at_5, at_6, at_7, ix_1_0, ix_2_0, ix_2_1, ix_3_0, ix_3_1, ix_3_2, ix_4_0, ix_4_1, ix_4_2, ix_4_3]
        exact ⟨_, _, rfl, _, ic_Grow_WORD, lkN (by decide +kernel) (by decide +kernel) (by decide +kernel), lnS lw, lnS l1, _, _, rfl, _, .inr (.inl ⟨rfl, rfl⟩), lkN (by decide +kernel) (by decide +kernel) (by decide +kernel), C_Grow, w, h, c, rfl, ⟨nf_Grow_width, nf_Grow_height, nf_Grow_cover⟩, hw, hh, lnS ld, lnS l2, q⟩
    | cr t w h k =>
      obtain ⟨hw, hh, hk⟩ := g
      have lk := kp_len hk
      cases t with
      | false =>
        simp only [sSeq, sAsg, sDrop, sRet, sRetN, sIf, sNext, sPar, sPar3, sFor, sRaise, sFldT, sNo, rNo, rVar, rFrz, rC, rBin, rTest, bAnd, bOr, bNot, bIf, vAnd, vOr, vNot, rIf, rNeg, aNil, aCons, rTup, rLst, rLstC, rArgs, gNameT, gNilT, gConsT, gTupT, gSubT, iSeq, iRng1T, iRng2T, rLc, rCall, rCallN, rCallS, rFld, rCon, rMake, rMakeN, rMakeP, rMeth, rMethK, rProp, rClsFn, rOpOwn, rSl, oNone, oSome, rFmt, kFmt, rJs, rLidx, kStrOwn, kAddC, rMut, kAdd, kI2, kI2n, kMul, kIx, kIn, kLen, kU, kA2, kDm, kStrI, kAll, kSl, kAppend, kExtend, kTuple, kList, lenT, seqOf, bYes, startT, one, pickG, selG, insOf, putT, flatT, Bool.false_xor, Bool.true_xor, List.all_cons, List.all_nil, Bool.and_self, T.int.injEq, T.bl.injEq, T.str.injEq, T.lst.injEq, T.tup.injEq, T.cell.injEq, T.ins.injEq, Cell.lst.injEq, Cell.ins.injEq, Prod.mk.injEq, List.cons.injEq, Option.some.injEq, List.map_cons, List.map_nil, List.length_cons, List.length_nil, List.cons_append, List.nil_append, List.append_nil, List.getElem?_cons_zero, List.getElem?_cons_succ, List.set_cons_zero, List.set_cons_succ, List.replicate_succ, List.replicate_zero, exists_eq_left, exists_eq_left', exists_and_left, and_true, true_and, and_self, and_assoc, Nat.sub_self, Nat.reduceAdd, Nat.reduceSub, Nat.zero_add, put_put, put_same, reduceIte, Bool.false_eq_true, Bool.true_eq_false, Bool.not_true, Bool.not_false, at_0, at_1, at_2, at_3, at_4, at_5, at_6, at_7, ix_1_0, ix_2_0, ix_2_1, ix_3_0, ix_3_1, ix_3_2, ix_4_0, ix_4_1, ix_4_2, ix_4_3]
        exact ⟨_, _, rfl, _, ic_CropWidth_WORD, lkN (by decide +kernel) (by decide +kernel) (by decide +kernel), lnS lw, lnS l1, _, _, rfl, _, .inr (.inr (.inl ⟨rfl, rfl⟩)), lkN (by decide +kernel) (by decide +kernel) (by decide +kernel), C_CropWidth, w, h, k, rfl, ⟨nf_CropWidth_width, nf_CropWidth_height, nf_CropWidth_keep⟩, hw, hh, lk, lnS ld, lnS l2, q⟩
      | true =>
        simp only [sSeq, sAsg, sDrop, sRet, sRetN, sIf, sNext, sPar, sPar3, sFor, sRaise, sFldT, sNo, rNo, rVar, rFrz, rC, rBin, rTest, bAnd, bOr, bNot, bIf, vAnd, vOr, vNot, rIf, rNeg, aNil, aCons, rTup, rLst, rLstC, rArgs, gNameT, gNilT, gConsT, gTupT, gSubT, iSeq, iRng1T, iRng2T, rLc, rCall, rCallN, rCallS, rFld, rCon, rMake, rMakeN, rMakeP, rMeth, rMethK, rProp, rClsFn, rOpOwn, rSl, oNone, oSome, rFmt, kFmt, rJs, rLidx, kStrOwn, kAddC, rMut, kAdd, kI2, kI2n, kMul, kIx, kIn, kLen, kU, kA2, kDm, kStrI, kAll, kSl, kAppend, kExtend, kTuple, kList, lenT, seqOf, bYes, startT, one, pickG, selG, insOf, putT, flatT, Bool.false_xor, Bool.true_xor, List.all_cons, List.all_nil, Bool.and_self, T.int.injEq, T.bl.injEq, T.str.injEq, T.lst.injEq, T.tup.injEq, T.cell.injEq, T.ins.injEq, Cell.lst.injEq, Cell.ins.injEq, Prod.mk.injEq, List.cons.injEq, Option.some.injEq, List.map_cons, List.map_nil, List.length_cons, List.length_nil, List.cons_append, List.nil_append, List.append_nil, List.getElem?_cons_zero, List.getElem?_cons_succ, List.set_cons_zero, List.set_cons_succ, List.replicate_succ, List.replicate_zero, exists_eq_left, exists_eq_left', exists_and_left, and_true, true_and, and_self, and_assoc, Nat.sub_self, Nat.reduceAdd, Nat.reduceSub, Nat.zero_add, put_put, put_same, reduceIte, Bool.false_eq_true, Bool.true_eq_false, Bool.not_true, Bool.not_false, at_0, at_1, at_2, at_3, at_4, at_5, at_6, at_7, ix_1_0, ix_2_0, ix_2_1, ix_3_0, ix_3_1, ix_3_2, ix_4_0, ix_4_1, ix_4_2, ix_4_3]
        exact ⟨_, _, rfl, _, ic_CropHeight_WORD, lkN (by decide +kernel) (by decide +kernel) (by decide +kernel), lnS lw, lnS l1, _, _, rfl, _, .inr (.inr (.inr (.inl ⟨rfl, rfl⟩))), lkN (by decide +kernel) (by decide +kernel) (by decide +kernel), C_CropHeight, w, h, k, rfl, ⟨nf_CropHeight_width, nf_CropHeight_height, nf_CropHeight_keep⟩, hw, hh, lk, lnS ld, lnS l2, q⟩
    | tu n =>
      simp only [sSeq, sAsg, sDrop, sRet, sRetN, sIf, sNext, sPar, sPar3, sFor, sRaise, sFldT, sNo, rNo, rVar, rFrz, rC, rBin, rTest, bAnd, bOr, bNot, bIf, vAnd, vOr, vNot, rIf, rNeg, aNil, aCons, rTup, rLst, rLstC, rArgs, gNameT, gNilT, gConsT, gTupT, gSubT, iSeq, iRng1T, iRng2T, rLc, rCall, rCallN, rCallS, rFld, rCon, rMake, rMakeN, rMakeP, rMeth, rMethK, rProp, rClsFn, rOpOwn, rSl, oNone, oSome, rFmt, kFmt, rJs, rLidx, kStrOwn, kAddC, rMut, kAdd, kI2, kI2n, kMul, kIx, kIn, kLen, kU, kA2, kDm, kStrI, kAll, kSl, kAppend, kExtend, kTuple, kList, lenT, seqOf, bYes, startT, one, pickG, selG, insOf, putT, flatT, Bool.false_xor, Bool.true_xor, List.all_cons, List.all_nil, Bool.and_self, T.int.injEq, T.bl.injEq, T.str.injEq, T.lst.injEq, T.tup.injEq, T.cell.injEq, T.ins.injEq, Cell.lst.injEq, Cell.ins.injEq, Prod.mk.injEq, List.cons.injEq, Option.some.injEq, List.map_cons, List.map_nil, List.length_cons, List.length_nil, List.cons_append, List.nil_append, List.append_nil, List.getElem?_cons_zero, List.getElem?_cons_succ, List.set_cons_zero, List.set_cons_succ, List.replicate_succ, List.replicate_zero, exists_eq_left, exists_eq_left', exists_and_left, and_true, true_and, and_self, and_assoc, Nat.sub_self, Nat.reduceAdd, Nat.reduceSub, Nat.zero_add, put_put, put_same, reduceIte, Bool.false_eq_true, Bool.true_eq_false, Bool.not_true, Bool.not_false, at_0, at_1, at_2, at_3, at_4, at_5, at_6, at_7, ix_1_0, ix_2_0, ix_2_1, ix_3_0, ix_3_1, ix_3_2, ix_4_0, ix_4_1, ix_4_2, ix_4_3]
      exact ⟨_, _, rfl, _, ic_Turn_WORD, lkN1 (by decide +kernel), lnS lw, lnS l1, _, _, rfl, _, .inr (.inr (.inr (.inr (.inl ⟨rfl, rfl⟩)))), lkN1 (by decide +kernel), n, rfl, ⟨g.1, by have := g.2; omega⟩, lnS ld, lnS l2, q⟩
    | ori p =>
      cases p with
      | false =>
        simp only [sSeq, sAsg, sDrop, sRet, sRetN, sIf, sNext, sPar, sPar3, sFor, sRaise, sFldT, sNo, rNo, rVar, rFrz, rC, rBin, rTest, bAnd, bOr, bNot, bIf, vAnd, vOr, vNot, rIf, rNeg, aNil, aCons, rTup, rLst, rLstC, rArgs, gNameT, gNilT, gConsT, gTupT, gSubT, iSeq, iRng1T, iRng2T, rLc, rCall, rCallN, rCallS, rFld, rCon, rMake, rMakeN, rMakeP, rMeth, rMethK, rProp, rClsFn, rOpOwn, rSl, oNone, oSome, rFmt, kFmt, rJs, rLidx, kStrOwn, kAddC, rMut, kAdd, kI2, kI2n, kMul, kIx, kIn, kLen, kU, kA2, kDm, kStrI, kAll, kSl, kAppend, kExtend, kTuple, kList, lenT, seqOf, bYes, startT, one, pickG, selG, insOf, putT, flatT, Bool.false_xor, Bool.true_xor, List.all_cons, List.all_nil, Bool.and_self, T.int.injEq, T.bl.injEq, T.str.injEq, T.lst.injEq, T.tup.injEq, T.cell.injEq, T.ins.injEq, Cell.lst.injEq, Cell.ins.injEq, Prod.mk.injEq, List.cons.injEq, Option.some.injEq, List.map_cons, List.map_nil, List.length_cons, List.length_nil, List.cons_append, List.nil_append, List.append_nil, List.getElem?_cons_zero, List.getElem?_cons_succ, List.set_cons_zero, List.set_cons_succ, List.replicate_succ, List.replicate_zero, exists_eq_left, exists_eq_left', exists_and_left, and_true, true_and, and_self, and_assoc, Nat.sub_self, Nat.reduceAdd, Nat.reduceSub, Nat.zero_add, put_put, put_same, reduceIte, Bool.false_eq_true, Bool.true_eq_false, Bool.not_true, Bool.not_false, at_0, at_1, at_2, at_3, at_4, at_5, at_6, at_7, ix_1_0, ix_2_0, ix_2_1, ix_3_0, ix_3_1, ix_3_2, ix_4_0, ix_4_1, ix_4_2, ix_4_3]
        exact ⟨_, _, rfl, _, ic_Landscape_WORD, List.lookup_nil, lnS lw, lnS l1, _, _, rfl, _, .inr (.inr (.inr (.inr (.inr (.inl ⟨rfl, rfl⟩))))), List.lookup_nil, lnS ld, lnS l2, q⟩
      | true =>
        simp only [sSeq, sAsg, sDrop, sRet, sRetN, sIf, sNext, sPar, sPar3, sFor, sRaise, sFldT, sNo, rNo, rVar, rFrz, rC, rBin, rTest, bAnd, bOr, bNot, bIf, vAnd, vOr, vNot, rIf, rNeg, aNil, aCons, rTup, rLst, rLstC, rArgs, gNameT, gNilT, gConsT, gTupT, gSubT, iSeq, iRng1T, iRng2T, rLc, rCall, rCallN, rCallS, rFld, rCon, rMake, rMakeN, rMakeP, rMeth, rMethK, rProp, rClsFn, rOpOwn, rSl, oNone, oSome, rFmt, kFmt, rJs, rLidx, kStrOwn, kAddC, rMut, kAdd, kI2, kI2n, kMul, kIx, kIn, kLen, kU, kA2, kDm, kStrI, kAll, kSl, kAppend, kExtend, kTuple, kList, lenT, seqOf, bYes, startT, one, pickG, selG, insOf, putT, flatT, Bool.false_xor, Bool.true_xor, List.all_cons, List.all_nil, Bool.and_self, T.int.injEq, T.bl.injEq, T.str.injEq, T.lst.injEq, T.tup.injEq, T.cell.injEq, T.ins.injEq, Cell.lst.injEq, Cell.ins.injEq, Prod.mk.injEq, List.cons.injEq, Option.some.injEq, List.map_cons, List.map_nil, List.length_cons, List.length_nil, List.cons_append, List.nil_append, List.append_nil, List.getElem?_cons_zero, List.getElem?_cons_succ, List.set_cons_zero, List.set_cons_succ, List.replicate_succ, List.replicate_zero, exists_eq_left, exists_eq_left', exists_and_left, and_true, true_and, and_self, and_assoc, Nat.sub_self, Nat.reduceAdd, Nat.reduceSub, Nat.zero_add, put_put, put_same, reduceIte, Bool.false_eq_true, Bool.true_eq_false, Bool.not_true, Bool.not_false, at_0, at_1, at_2, at_3, at_4, at_5, at_6, at_7, ix_1_0, ix_2_0, ix_2_1, ix_3_0, ix_3_1, ix_3_2, ix_4_0, ix_4_1, ix_4_2, ix_4_3]
        exact ⟨_, _, rfl, _, ic_Portrait_WORD, List.lookup_nil, lnS lw, lnS l1, _, _, rfl, _, .inr (.inr (.inr (.inr (.inr (.inr ⟨rfl, rfl⟩))))), List.lookup_nil, lnS ld, lnS l2, q⟩
  · exact h.elim
theorem own7 {CS CG CW CH CT CL CP : Addr} {d : Wd} {S : Store} {P : SpT} {REST : SpT → Prop} (kk : REST P) :
    ∃ C gs, insOf (d.st CS CG CW CH CT CL CP) S = some (C, gs) ∧ ∃ sp, (C = CS ∧ sp = P ∨ C = CG ∧ sp = P ∨ C = CW ∧ sp = P ∨ C = CH ∧ sp = P ∨ C = CT ∧ sp = P ∨ C = CL ∧ sp = P ∨ C = CP ∧ sp = P) ∧ REST sp := by
  cases d with
  | sc b w h c =>
    cases b with
    | false => exact ⟨_, _, rfl, _, .inl ⟨rfl, rfl⟩, kk⟩
    | true => exact ⟨_, _, rfl, _, .inr (.inl ⟨rfl, rfl⟩), kk⟩
  | cr t w h k =>
    cases t with
    | false => exact ⟨_, _, rfl, _, .inr (.inr (.inl ⟨rfl, rfl⟩)), kk⟩
    | true => exact ⟨_, _, rfl, _, .inr (.inr (.inr (.inl ⟨rfl, rfl⟩))), kk⟩
  | tu n => exact ⟨_, _, rfl, _, .inr (.inr (.inr (.inr (.inl ⟨rfl, rfl⟩)))), kk⟩
  | ori p =>
    cases p with
    | false => exact ⟨_, _, rfl, _, .inr (.inr (.inr (.inr (.inr (.inl ⟨rfl, rfl⟩))))), kk⟩
    | true => exact ⟨_, _, rfl, _, .inr (.inr (.inr (.inr (.inr (.inr ⟨rfl, rfl⟩))))), kk⟩
def Wd.rtext (d : Wd) : Str := ((Str.empty ++ "Step(") ++ d.text) ++ ")"
theorem Wd.rtext_len {d : Wd} (g : d.good) : d.rtext.length ≤ 1500 := Nat.le_trans (ln1 (ln1 (ln1 ln0 (by decide : ("Step(" : Str).length ≤ 5)) (Wd.text_len g)) (by decide : (")" : Str).length ≤ 1)) (by decide)
theorem sc_Step_repr : FnScope ["self"] ["self"] (defScope s_Step_repr) := ⟨rfl, rfl, rfl, by decide +kernel, rfl, by decide +kernel, by decide +kernel⟩
def sp_Step_repr (CS CG CW CH CT CL CP : Addr) : SpT := fun ts S R _ => match ts with
  | [x] => ∃ d : Wd, d.good ∧ x = d.st CS CG CW CH CT CL CP ∧ R (.str d.rtext) S
  | _ => False
set_option maxHeartbeats 3200000 in
theorem ok_Step_repr {P : Program} {w : World} {K : PySem.W.Frag} {mg : Str → Option Value} {base : Heap} {f : Addr} {fd : FuncData} {g_Step_str C_Shrink C_Grow C_CropWidth C_CropHeight C_Turn C_Landscape C_Portrait : Addr} {gd_Step_str : FuncData} (F : Fun K "__repr__" "Step.__repr__" s_Step_repr f fd)
    (n_str : mg "str" = none)
    (G_Step_str : FnT P w K mg base 2 g_Step_str gd_Step_str ["self"] (sp_Step_str C_Shrink C_Grow C_CropWidth C_CropHeight C_Turn C_Landscape C_Portrait))
    (b_Step_str : Binds K gd_Step_str ["self"] [])
    (od_Shrink_str : OwnDef K C_Shrink "__str__" g_Step_str)
    (od_Grow_str : OwnDef K C_Grow "__str__" g_Step_str)
    (od_CropWidth_str : OwnDef K C_CropWidth "__str__" g_Step_str)
    (od_CropHeight_str : OwnDef K C_CropHeight "__str__" g_Step_str)
    (od_Turn_str : OwnDef K C_Turn "__str__" g_Step_str)
    (od_Landscape_str : OwnDef K C_Landscape "__str__" g_Step_str)
    (od_Portrait_str : OwnDef K C_Portrait "__str__" g_Step_str)
    : FnT P w K mg base 5 f fd ["self"] (sp_Step_repr C_Shrink C_Grow C_CropWidth C_CropHeight C_Turn C_Landscape C_Portrait) := by
  refine okT F sc_Step_repr (by intro ts S R RE h; unfold sp_Step_repr at h; split at h <;> first | rfl | exact h.elim) (fun cdv A out s H E hg hr => (bs_one (ss_ret (et_joined (EJ.cons et_str (EJ.cons (et_fmt (et_typ (strOwnT (StrD.or (StrD.one od_Shrink_str G_Step_str (hr.mono (by decide)) b_Step_str) (StrD.or (StrD.one od_Grow_str G_Step_str (hr.mono (by decide)) b_Step_str) (StrD.or (StrD.one od_CropWidth_str G_Step_str (hr.mono (by decide)) b_Step_str) (StrD.or (StrD.one od_CropHeight_str G_Step_str (hr.mono (by decide)) b_Step_str) (StrD.or (StrD.one od_Turn_str G_Step_str (hr.mono (by decide)) b_Step_str) (StrD.or (StrD.one od_Landscape_str G_Step_str (hr.mono (by decide)) b_Step_str) (StrD.one od_Portrait_str G_Step_str (hr.mono (by decide)) b_Step_str))))))) hg) cv_strOwn (by rfl) n_str PyProof.Rows.boot_str (at_cons (et_var (pv 0)) at_nil))) (EJ.cons et_str EJ.nil))))))) ?_
  intro ts S R RE h
  unfold sp_Step_repr at h
  split at h
  · rename_i x
    obtain ⟨d, g, rfl, q⟩ := h
    have lt := Wd.text_len g
    have l1 := ln1 ln0 (by decide : ("Step(" : Str).length ≤ 5)
    have l2 := ln1 l1 lt
    have l3 := ln1 l2 (by decide : (")" : Str).length ≤ 1)
    simp only [sSeq, sAsg, sDrop, sRet, sRetN, sIf, sNext, sPar, sPar3, sFor, sRaise, sFldT, sNo, rNo, rVar, rFrz, rC, rBin, rTest, bAnd, bOr, bNot, bIf, vAnd, vOr, vNot, rIf, rNeg, aNil, aCons, rTup, rLst, rLstC, rArgs, gNameT, gNilT, gConsT, gTupT, gSubT, iSeq, iRng1T, iRng2T, rLc, rCall, rCallN, rCallS, rFld, rCon, rMake, rMakeN, rMakeP, rMeth, rMethK, rProp, rClsFn, rOpOwn, rSl, oNone, oSome, rFmt, kFmt, rJs, rLidx, kStrOwn, kAddC, rMut, kAdd, kI2, kI2n, kMul, kIx, kIn, kLen, kU, kA2, kDm, kStrI, kAll, kSl, kAppend, kExtend, kTuple, kList, lenT, seqOf, bYes, startT, one, pickG, selG, insOf, putT, flatT, Bool.false_xor, Bool.true_xor, List.all_cons, List.all_nil, Bool.and_self, T.int.injEq, T.bl.injEq, T.str.injEq, T.lst.injEq, T.tup.injEq, T.cell.injEq, T.ins.injEq, Cell.lst.injEq, Cell.ins.injEq, Prod.mk.injEq, List.cons.injEq, Option.some.injEq, List.map_cons, List.map_nil, List.length_cons, List.length_nil, List.cons_append, List.nil_append, List.append_nil, List.getElem?_cons_zero, List.getElem?_cons_succ, List.set_cons_zero, List.set_cons_succ, List.replicate_succ, List.replicate_zero, exists_eq_left, exists_eq_left', exists_and_left, and_true, true_and, and_self, and_assoc, Nat.sub_self, Nat.reduceAdd, Nat.reduceSub, Nat.zero_add, put_put, put_same, reduceIte, Bool.false_eq_true, Bool.true_eq_false, Bool.not_true, Bool.not_false, at_0, at_1, at_2, at_3, at_4, at_5, at_6, at_7, ix_1_0, ix_2_0, ix_2_1, ix_3_0, ix_3_1, ix_3_2, ix_4_0, ix_4_1, ix_4_2, ix_4_3]
    exact ⟨lnS l1, own7 (d := d) (P := sp_Step_str _ _ _ _ _ _ _) ⟨d, g, rfl, ⟨_, rfl⟩, lnS lt, lnS l2, lnS l3, q⟩⟩
  · exact h.elim
theorem Wd.eq_w (d : Wd) {z : Str} : kEqG false (.str d.word) (.str z) = kEqG false (.str d.word) (.str z) := rfl
theorem text_sc {g c : Bool} {w h : Int} : (((((Wd.sc g w h c).word ++ (" " : Str)) ++ nS w) ++ ("x" : Str)) ++ nS h) ++ endS c = (Wd.sc g w h c).text := by
  unfold Wd.text Wd.dets dtSc
  simp only [sEmp, sApp]
theorem text_cr {t : Bool} {w h : Int} {k : Str} : ((((((Wd.cr t w h k).word ++ (" " : Str)) ++ nS w) ++ (":" : Str)) ++ nS h) ++ (" " : Str)) ++ k = (Wd.cr t w h k).text := by
  unfold Wd.text Wd.dets dtCr
  simp only [sEmp, sApp]
theorem text_tu {n : Int} : ("turn " : Str) ++ nS n = (Wd.tu n).text := by
  unfold Wd.text Wd.dets dtTu Wd.word
  have e : ("turn " : Str) = ("turn" : Str) ++ (" " : Str) := by decide +kernel
  rw [e]
  simp only [sEmp, sApp]
theorem text_ori {p : Bool} : (Wd.ori p).word = (Wd.ori p).text := by
  unfold Wd.text Wd.dets
  rw [sEnd, sEmp]
theorem lnT {a b : Str} {n : Nat} (h : (a ++ b).length ≤ n) (k : n ≤ 16777216 := by decide) : a.length + b.length ≤ sizeLine := by rw [← sLen]; exact lnS h k
theorem Bx.tu {n : Int} (h : 0 < n ∧ n ≤ 3) : Bx n := ⟨h.1, by have := h.2; omega⟩
theorem sc_l_shown : FnScope ["_law_spec", "_law_tail"] ["_law_spec"] (defScope s_l_shown) := ⟨rfl, rfl, rfl, by decide +kernel, rfl, by decide +kernel, by decide +kernel⟩
def sp_l_shown : SpT := fun ts S R _ => match ts with
  | [x] => ∃ d : Wd, x = d.t ∧ d.good ∧ R (.str d.text) S
  | _ => False
set_option maxHeartbeats 1600000 in
theorem ok_l_shown {P : Program} {w : World} {K : PySem.W.Frag} {mg : Str → Option Value} {base : Heap} {f : Addr} {fd : FuncData}   (F : Fun K "_law_shown" "_law_shown" s_l_shown f fd)
    (n_str : mg "str" = none)
    : FnT P w K mg base 1 f fd ["_law_spec"] sp_l_shown := by
  refine okT F sc_l_shown (by intro ts S R RE h; unfold sp_l_shown at h; split at h <;> first | rfl | exact h.elim) (fun cdv A out s H E hg hr => (bs_cons (ss_if (tt_cmp op_inG cv_in (et_ix ix_seq cv_ix (et_var (pv 0)) et_int (fun _ _ => rfl)) (et_tup (at_cons et_str (at_cons et_str at_nil))) (by rfl)) (bs_cons (ss_set (i := 1) sc_l_shown.nd rfl (by first | exact Or.inl rfl | exact Or.inr rfl) (et_if (tt_val (et_ix ix_seq cv_ix (et_var (pv 0)) et_int (fun _ _ => rfl))) et_str et_str))
    (bs_one (ss_ret (et_op op_addG cv_add (et_op op_addG cv_add (et_op op_addG cv_add (et_op op_addG cv_add (et_op op_addG cv_add (et_ix ix_seq cv_ix (et_var (pv 0)) et_int (fun _ _ => rfl)) et_str) (et_typ call_str_int cv_strI (by rfl) n_str PyProof.Rows.boot_str (at_cons (et_ix ix_seq cv_ix (et_var (pv 0)) et_int (fun _ _ => rfl)) at_nil))) et_str) (et_typ call_str_int cv_strI (by rfl) n_str PyProof.Rows.boot_str (at_cons (et_ix ix_seq cv_ix (et_var (pv 0)) et_int (fun _ _ => rfl)) at_nil))) (et_var (pv 1)))))) bs_nil)
    (bs_cons (ss_if (tt_cmp op_inG cv_in (et_ix ix_seq cv_ix (et_var (pv 0)) et_int (fun _ _ => rfl)) (et_tup (at_cons et_str (at_cons et_str at_nil))) (by rfl)) (bs_one (ss_ret (et_op op_addG cv_add (et_op op_addG cv_add (et_op op_addG cv_add (et_op op_addG cv_add (et_op op_addG cv_add (et_op op_addG cv_add (et_ix ix_seq cv_ix (et_var (pv 0)) et_int (fun _ _ => rfl)) et_str) (et_typ call_str_int cv_strI (by rfl) n_str PyProof.Rows.boot_str (at_cons (et_ix ix_seq cv_ix (et_var (pv 0)) et_int (fun _ _ => rfl)) at_nil))) et_str) (et_typ call_str_int cv_strI (by rfl) n_str PyProof.Rows.boot_str (at_cons (et_ix ix_seq cv_ix (et_var (pv 0)) et_int (fun _ _ => rfl)) at_nil))) et_str) (et_ix ix_seq cv_ix (et_var (pv 0)) et_int (fun _ _ => rfl))))) bs_nil)
    (bs_one (ss_ret (et_if (tt_cmp (op_eqG hr.units) cv_eq (et_ix ix_seq cv_ix (et_var (pv 0)) et_int (fun _ _ => rfl)) et_str (nomark _)) (et_op op_addG cv_add et_str (et_typ call_str_int cv_strI (by rfl) n_str PyProof.Rows.boot_str (at_cons (et_ix ix_seq cv_ix (et_var (pv 0)) et_int (fun _ _ => rfl)) at_nil))) (et_ix ix_seq cv_ix (et_var (pv 0)) et_int (fun _ _ => rfl)))))))) ?_
  intro ts S R RE h
  unfold sp_l_shown at h
  split at h
  · rename_i x
    obtain ⟨d, rfl, g, q⟩ := h
    have lw := d.word_len
    refine sSeq_i fun N hN => ?_
    simp only [Wd.t_eq, Wd.in_sc, sSeq, sAsg, sDrop, sRet, sRetN, sIf, sNext, sPar, sPar3, sFor, sRaise, sFldT, sNo, rNo, rVar, rFrz, rC, rBin, rTest, bAnd, bOr, bNot, bIf, vAnd, vOr, vNot, rIf, rNeg, aNil, aCons, rTup, rLst, rLstC, rArgs, gNameT, gNilT, gConsT, gTupT, gSubT, iSeq, iRng1T, iRng2T, rLc, rCall, rCallN, rCallS, rFld, rCon, rMake, rMakeN, rMakeP, rMeth, rMethK, rProp, rClsFn, rOpOwn, rSl, oNone, oSome, rFmt, kFmt, rJs, rLidx, kStrOwn, kAddC, rMut, kAdd, kI2, kI2n, kMul, kIx, kIn, kLen, kU, kA2, kDm, kStrI, kAll, kSl, kAppend, kExtend, kTuple, kList, lenT, seqOf, bYes, startT, one, pickG, selG, insOf, putT, flatT, Bool.false_xor, Bool.true_xor, List.all_cons, List.all_nil, Bool.and_self, T.int.injEq, T.bl.injEq, T.str.injEq, T.lst.injEq, T.tup.injEq, T.cell.injEq, T.ins.injEq, Cell.lst.injEq, Cell.ins.injEq, Prod.mk.injEq, List.cons.injEq, Option.some.injEq, List.map_cons, List.map_nil, List.length_cons, List.length_nil, List.cons_append, List.nil_append, List.append_nil, List.getElem?_cons_zero, List.getElem?_cons_succ, List.set_cons_zero, List.set_cons_succ, List.replicate_succ, List.replicate_zero, exists_eq_left, exists_eq_left', exists_and_left, and_true, true_and, and_self, and_assoc, Nat.sub_self, Nat.reduceAdd, Nat.reduceSub, Nat.zero_add, put_put, put_same, reduceIte, Bool.false_eq_true, Bool.true_eq_false, Bool.not_true, Bool.not_false, at_0, at_1, at_2, at_3, at_4, at_5, at_6, at_7, ix_1_0, ix_2_0, ix_2_1, ix_3_0, ix_3_1, ix_3_2, ix_4_0, ix_4_1, ix_4_2, ix_4_3]
    refine ⟨by decide, ?_⟩
    cases e : d.isSc with
    | true =>
      rw [if_pos rfl]
      cases d with
      | sc b w h c =>
        obtain ⟨hw, hh⟩ := g
        have L1 := ln1 lw (by decide : (" " : Str).length ≤ 1)
        have L2 := ln1 L1 hw.nl
        have L3 := ln1 L2 (by decide : ("x" : Str).length ≤ 1)
        have L4 := ln1 L3 hh.nl
        have lc : (endS c).length ≤ 6 := by cases c <;> decide
        have L5 := ln1 L4 lc
        refine ⟨_, rfl, c, rfl, ?_⟩
        cases c with
        | true =>
          rw [if_pos rfl]
          exact ⟨lnT L1, _, rfl, w, rfl, hw.lg, lnT L2, lnT L3, _, rfl, h, rfl, hh.lg, lnT L4, lnT L5, by rw [← text_sc] at q; exact q⟩
        | false =>
          rw [if_neg Bool.false_ne_true]
          exact ⟨lnT L1, _, rfl, w, rfl, hw.lg, lnT L2, lnT L3, _, rfl, h, rfl, hh.lg, lnT L4, lnT L5, by rw [← text_sc] at q; exact q⟩
      | cr t w h k => cases e
      | tu n => cases e
      | ori p => cases e
    | false =>
      rw [if_neg Bool.false_ne_true]
      refine hN _ _ ?_
      refine sSeq_i fun N hN => ?_
      simp only [Wd.in_cr, sSeq, sAsg, sDrop, sRet, sRetN, sIf, sNext, sPar, sPar3, sFor, sRaise, sFldT, sNo, rNo, rVar, rFrz, rC, rBin, rTest, bAnd, bOr, bNot, bIf, vAnd, vOr, vNot, rIf, rNeg, aNil, aCons, rTup, rLst, rLstC, rArgs, gNameT, gNilT, gConsT, gTupT, gSubT, iSeq, iRng1T, iRng2T, rLc, rCall, rCallN, rCallS, rFld, rCon, rMake, rMakeN, rMakeP, rMeth, rMethK, rProp, rClsFn, rOpOwn, rSl, oNone, oSome, rFmt, kFmt, rJs, rLidx, kStrOwn, kAddC, rMut, kAdd, kI2, kI2n, kMul, kIx, kIn, kLen, kU, kA2, kDm, kStrI, kAll, kSl, kAppend, kExtend, kTuple, kList, lenT, seqOf, bYes, startT, one, pickG, selG, insOf, putT, flatT, Bool.false_xor, Bool.true_xor, List.all_cons, List.all_nil, Bool.and_self, T.int.injEq, T.bl.injEq, T.str.injEq, T.lst.injEq, T.tup.injEq, T.cell.injEq, T.ins.injEq, Cell.lst.injEq, Cell.ins.injEq, Prod.mk.injEq, List.cons.injEq, Option.some.injEq, List.map_cons, List.map_nil, List.length_cons, List.length_nil, List.cons_append, List.nil_append, List.append_nil, List.getElem?_cons_zero, List.getElem?_cons_succ, List.set_cons_zero, List.set_cons_succ, List.replicate_succ, List.replicate_zero, exists_eq_left, exists_eq_left', exists_and_left, and_true, true_and, and_self, and_assoc, Nat.sub_self, Nat.reduceAdd, Nat.reduceSub, Nat.zero_add, put_put, put_same, reduceIte, Bool.false_eq_true, Bool.true_eq_false, Bool.not_true, Bool.not_false, at_0, at_1, at_2, at_3, at_4, at_5, at_6, at_7, ix_1_0, ix_2_0, ix_2_1, ix_3_0, ix_3_1, ix_3_2, ix_4_0, ix_4_1, ix_4_2, ix_4_3]
      refine ⟨by decide, ?_⟩
      cases e3 : d.isCr with
      | true =>
        rw [if_pos rfl]
        cases d with
        | cr t w h k =>
          obtain ⟨hw, hh, hk⟩ := g
          have L1 := ln1 lw (by decide : (" " : Str).length ≤ 1)
          have L2 := ln1 L1 hw.nl
          have L3 := ln1 L2 (by decide : (":" : Str).length ≤ 1)
          have L4 := ln1 L3 hh.nl
          have L5 := ln1 L4 (by decide : (" " : Str).length ≤ 1)
          have L6 := ln1 L5 (kp_len hk)
          exact ⟨lnT L1, _, rfl, w, rfl, hw.lg, lnT L2, lnT L3, _, rfl, h, rfl, hh.lg, lnT L4, lnT L5, _, rfl, lnT L6, by rw [← text_cr] at q; exact q⟩
        | sc b w h c => cases e3
        | tu n => cases e3
        | ori p => cases e3
      | false =>
        rw [if_neg Bool.false_ne_true]
        refine hN _ _ ?_
        cases d with
        | sc b w h c => cases e
        | cr t w h k => cases e3
        | tu n =>
          simp only [Wd.word, Wd.more, sSeq, sAsg, sDrop, sRet, sRetN, sIf, sNext, sPar, sPar3, sFor, sRaise, sFldT, sNo, rNo, rVar, rFrz, rC, rBin, rTest, bAnd, bOr, bNot, bIf, vAnd, vOr, vNot, rIf, rNeg, aNil, aCons, rTup, rLst, rLstC, rArgs, gNameT, gNilT, gConsT, gTupT, gSubT, iSeq, iRng1T, iRng2T, rLc, rCall, rCallN, rCallS, rFld, rCon, rMake, rMakeN, rMakeP, rMeth, rMethK, rProp, rClsFn, rOpOwn, rSl, oNone, oSome, rFmt, kFmt, rJs, rLidx, kStrOwn, kAddC, rMut, kAdd, kI2, kI2n, kMul, kIx, kIn, kLen, kU, kA2, kDm, kStrI, kAll, kSl, kAppend, kExtend, kTuple, kList, lenT, seqOf, bYes, startT, one, pickG, selG, insOf, putT, flatT, Bool.false_xor, Bool.true_xor, List.all_cons, List.all_nil, Bool.and_self, T.int.injEq, T.bl.injEq, T.str.injEq, T.lst.injEq, T.tup.injEq, T.cell.injEq, T.ins.injEq, Cell.lst.injEq, Cell.ins.injEq, Prod.mk.injEq, List.cons.injEq, Option.some.injEq, List.map_cons, List.map_nil, List.length_cons, List.length_nil, List.cons_append, List.nil_append, List.append_nil, List.getElem?_cons_zero, List.getElem?_cons_succ, List.set_cons_zero, List.set_cons_succ, List.replicate_succ, List.replicate_zero, exists_eq_left, exists_eq_left', exists_and_left, and_true, true_and, and_self, and_assoc, Nat.sub_self, Nat.reduceAdd, Nat.reduceSub, Nat.zero_add, put_put, put_same, reduceIte, Bool.false_eq_true, Bool.true_eq_false, Bool.not_true, Bool.not_false, at_0, at_1, at_2, at_3, at_4, at_5, at_6, at_7, ix_1_0, ix_2_0, ix_2_1, ix_3_0, ix_3_1, ix_3_2, ix_4_0, ix_4_1, ix_4_2, ix_4_3]
          refine eqSt (v := true) (by decide +kernel) ⟨_, rfl, ?_⟩
          rw [if_pos (show (false ^^ true) = true by decide)]
          have bn := Bx.tu g
          exact ⟨bn.lg, lnT (ln1 (by decide : ("turn " : Str).length ≤ 5) bn.nl), by rw [← text_tu] at q; exact q⟩
        | ori p =>
          have eq := text_ori (p := p)
          rw [← eq] at q
          cases p with
          | false =>
            simp only [Wd.word, Wd.more, sSeq, sAsg, sDrop, sRet, sRetN, sIf, sNext, sPar, sPar3, sFor, sRaise, sFldT, sNo, rNo, rVar, rFrz, rC, rBin, rTest, bAnd, bOr, bNot, bIf, vAnd, vOr, vNot, rIf, rNeg, aNil, aCons, rTup, rLst, rLstC, rArgs, gNameT, gNilT, gConsT, gTupT, gSubT, iSeq, iRng1T, iRng2T, rLc, rCall, rCallN, rCallS, rFld, rCon, rMake, rMakeN, rMakeP, rMeth, rMethK, rProp, rClsFn, rOpOwn, rSl, oNone, oSome, rFmt, kFmt, rJs, rLidx, kStrOwn, kAddC, rMut, kAdd, kI2, kI2n, kMul, kIx, kIn, kLen, kU, kA2, kDm, kStrI, kAll, kSl, kAppend, kExtend, kTuple, kList, lenT, seqOf, bYes, startT, one, pickG, selG, insOf, putT, flatT, Bool.false_xor, Bool.true_xor, List.all_cons, List.all_nil, Bool.and_self, T.int.injEq, T.bl.injEq, T.str.injEq, T.lst.injEq, T.tup.injEq, T.cell.injEq, T.ins.injEq, Cell.lst.injEq, Cell.ins.injEq, Prod.mk.injEq, List.cons.injEq, Option.some.injEq, List.map_cons, List.map_nil, List.length_cons, List.length_nil, List.cons_append, List.nil_append, List.append_nil, List.getElem?_cons_zero, List.getElem?_cons_succ, List.set_cons_zero, List.set_cons_succ, List.replicate_succ, List.replicate_zero, exists_eq_left, exists_eq_left', exists_and_left, and_true, true_and, and_self, and_assoc, Nat.sub_self, Nat.reduceAdd, Nat.reduceSub, Nat.zero_add, put_put, put_same, reduceIte, Bool.false_eq_true, Bool.true_eq_false, Bool.not_true, Bool.not_false, at_0, at_1, at_2, at_3, at_4, at_5, at_6, at_7, ix_1_0, ix_2_0, ix_2_1, ix_3_0, ix_3_1, ix_3_2, ix_4_0, ix_4_1, ix_4_2, ix_4_3]
            refine eqSt (v := false) (by decide +kernel) ⟨_, rfl, ?_⟩
            rw [if_neg (show ¬ (false ^^ false) = true by decide)]
            exact q
          | true =>
            simp only [Wd.word, Wd.more, sSeq, sAsg, sDrop, sRet, sRetN, sIf, sNext, sPar, sPar3, sFor, sRaise, sFldT, sNo, rNo, rVar, rFrz, rC, rBin, rTest, bAnd, bOr, bNot, bIf, vAnd, vOr, vNot, rIf, rNeg, aNil, aCons, rTup, rLst, rLstC, rArgs, gNameT, gNilT, gConsT, gTupT, gSubT, iSeq, iRng1T, iRng2T, rLc, rCall, rCallN, rCallS, rFld, rCon, rMake, rMakeN, rMakeP, rMeth, rMethK, rProp, rClsFn, rOpOwn, rSl, oNone, oSome, rFmt, kFmt, rJs, rLidx, kStrOwn, kAddC, rMut, kAdd, kI2, kI2n, kMul, kIx, kIn, kLen, kU, kA2, kDm, kStrI, kAll, kSl, kAppend, kExtend, kTuple, kList, lenT, seqOf, bYes, startT, one, pickG, selG, insOf, putT, flatT, Bool.false_xor, Bool.true_xor, List.all_cons, List.all_nil, Bool.and_self, T.int.injEq, T.bl.injEq, T.str.injEq, T.lst.injEq, T.tup.injEq, T.cell.injEq, T.ins.injEq, Cell.lst.injEq, Cell.ins.injEq, Prod.mk.injEq, List.cons.injEq, Option.some.injEq, List.map_cons, List.map_nil, List.length_cons, List.length_nil, List.cons_append, List.nil_append, List.append_nil, List.getElem?_cons_zero, List.getElem?_cons_succ, List.set_cons_zero, List.set_cons_succ, List.replicate_succ, List.replicate_zero, exists_eq_left, exists_eq_left', exists_and_left, and_true, true_and, and_self, and_assoc, Nat.sub_self, Nat.reduceAdd, Nat.reduceSub, Nat.zero_add, put_put, put_same, reduceIte, Bool.false_eq_true, Bool.true_eq_false, Bool.not_true, Bool.not_false, at_0, at_1, at_2, at_3, at_4, at_5, at_6, at_7, ix_1_0, ix_2_0, ix_2_1, ix_3_0, ix_3_1, ix_3_2, ix_4_0, ix_4_1, ix_4_2, ix_4_3]
            refine eqSt (v := false) (by decide +kernel) ⟨_, rfl, ?_⟩
            rw [if_neg (show ¬ (false ^^ false) = true by decide)]
            exact q
  · exact h.elim
theorem mkG {C : Addr} {fs : List (Str × T)} {S : Store} {G : Addr → Store → List (Str × T) → Prop} (q : ∀ u, S u = none → G u (S.put u (.ins C fs)) fs) : ∀ u, S u = none → ∃ gs, ((S.put u (.ins C [])).put u (.ins C fs)) u = some (.ins C gs) ∧ G u ((S.put u (.ins C [])).put u (.ins C fs)) gs := fun u hu => ⟨_, put_same, by rw [put_put]; exact q u hu⟩
theorem mk_shG {C : Addr} {w h : Int} {c : Bool} {S : Store} {G : Addr → Store → List (Str × T) → Prop} {RE : XT} (hw : Bx w) (hh : Bx h) (q : ∀ u, S u = none → G u (S.put u (.ins C (stF w h c))) (stF w h c)) :
    ∀ u, S u = none → sp_Shrink_init C [.cell u, .int w, .int h, .bl c] (S.put u (.ins C [])) (fun z S2 => z = .non ∧ ∃ gs, S2 u = some (.ins C gs) ∧ G u S2 gs) RE := fun u hu => ⟨put_same, hw, hh, rfl, mkG q u hu⟩
theorem mk_grG {C : Addr} {w h : Int} {c : Bool} {S : Store} {G : Addr → Store → List (Str × T) → Prop} {RE : XT} (hw : Bx w) (hh : Bx h) (q : ∀ u, S u = none → G u (S.put u (.ins C (stF w h c))) (stF w h c)) :
    ∀ u, S u = none → sp_Grow_init C [.cell u, .int w, .int h, .bl c] (S.put u (.ins C [])) (fun z S2 => z = .non ∧ ∃ gs, S2 u = some (.ins C gs) ∧ G u S2 gs) RE := fun u hu => ⟨put_same, hw, hh, rfl, mkG q u hu⟩
theorem mk_cwG {C : Addr} {w h : Int} {k : Str} {S : Store} {G : Addr → Store → List (Str × T) → Prop} {RE : XT} (hw : Bx w) (hh : Bx h) (hk : inT (.str k) keepsW = true) (q : ∀ u, S u = none → G u (S.put u (.ins C (crF w h k))) (crF w h k)) :
    ∀ u, S u = none → sp_CropWidth_init C [.cell u, .int w, .int h, .str k] (S.put u (.ins C [])) (fun z S2 => z = .non ∧ ∃ gs, S2 u = some (.ins C gs) ∧ G u S2 gs) RE := fun u hu => ⟨put_same, hw, hh, hk, rfl, mkG q u hu⟩
theorem mk_chG {C : Addr} {w h : Int} {k : Str} {S : Store} {G : Addr → Store → List (Str × T) → Prop} {RE : XT} (hw : Bx w) (hh : Bx h) (hk : inT (.str k) keepsH = true) (q : ∀ u, S u = none → G u (S.put u (.ins C (crF w h k))) (crF w h k)) :
    ∀ u, S u = none → sp_CropHeight_init C [.cell u, .int w, .int h, .str k] (S.put u (.ins C [])) (fun z S2 => z = .non ∧ ∃ gs, S2 u = some (.ins C gs) ∧ G u S2 gs) RE := fun u hu => ⟨put_same, hw, hh, hk, rfl, mkG q u hu⟩
theorem mk_tuG {K : PySem.W.Frag} {C : Addr} {n : Int} {S : Store} {G : Addr → Store → List (Str × T) → Prop} {RE : XT} (n0 : 0 < n) (n3 : n ≤ 3) (q : ∀ u, S u = none → G u (S.put u (.ins C (tuF n))) (tuF n)) :
    ∀ u, S u = none → sp_Turn_init K C [.cell u, .int n] (S.put u (.ins C [])) (fun z S2 => z = .non ∧ ∃ gs, S2 u = some (.ins C gs) ∧ G u S2 gs) RE := fun u hu => ⟨put_same, n0, n3, rfl, mkG q u hu⟩
theorem ret_l2 {A B : TR} {D : EnT} {σ : Fm} {S : Store} {x y : T} (q : D.rt (.lst [x, y]) S) (hA : ∀ K : T → Store → Prop, K x S → A σ S K D.ex) (hB : ∀ K : T → Store → Prop, K y S → B σ S K D.ex) : sRet (rLst (aCons A (aCons B aNil))) D σ S :=
  hA _ (hB _ ⟨by show 2 ≤ sizeLine; decide, q⟩)
theorem sc_l_made_twice : FnScope ["_law_spec"] ["_law_spec"] (defScope s_l_made_twice) := ⟨rfl, rfl, rfl, by decide +kernel, rfl, by decide +kernel, by decide +kernel⟩
def sp_l_made_twice (CS CG CW CH CT CL CP : Addr) : SpT := fun ts S R _ => match ts with
  | [x] => ∃ d : Wd, x = d.t ∧ d.good ∧ R (.lst [d.st CS CG CW CH CT CL CP, d.st CS CG CW CH CT CL CP]) S
  | _ => False
set_option maxHeartbeats 1600000 in
theorem ok_l_made_twice {P : Program} {w : World} {K : PySem.W.Frag} {mg : Str → Option Value} {base : Heap} {f : Addr} {fd : FuncData} {g_Turn_init C_Turn g_CropHeight_init C_CropHeight g_CropWidth_init C_CropWidth g_Grow_init C_Grow g_Shrink_init C_Shrink C_Landscape C_Portrait : Addr} {gd_Turn_init : FuncData} {gd_CropHeight_init : FuncData} {gd_CropWidth_init : FuncData} {gd_Grow_init : FuncData} {gd_Shrink_init : FuncData} (F : Fun K "_law_made_twice" "_law_made_twice" s_l_made_twice f fd)
    (G_Turn_init : FnT P w K mg base 3 g_Turn_init gd_Turn_init ["self", "times"] (sp_Turn_init K C_Turn))
    (b_Turn_init : Binds K gd_Turn_init ["self", "times"] [])
    (kb_Turn_init_1_times : CallB K gd_Turn_init ["self", "times"] 1 ["times"] (fun ts zs => pickG [(0, 0), (2, 0)] ts [] zs))
    (G_CropHeight_init : FnT P w K mg base 5 g_CropHeight_init gd_CropHeight_init ["self", "width", "height", "keep"] (sp_CropHeight_init C_CropHeight))
    (kb_CropHeight_init_1_keep_height_width : CallB K gd_CropHeight_init ["self", "width", "height", "keep"] 1 ["keep", "height", "width"] (fun ts zs => pickG [(0, 0), (2, 2), (2, 1), (2, 0)] ts [] zs))
    (kb_CropHeight_init_3_keep : CallB K gd_CropHeight_init ["self", "width", "height", "keep"] 3 ["keep"] (fun ts zs => pickG [(0, 0), (0, 1), (0, 2), (2, 0)] ts [] zs))
    (G_CropWidth_init : FnT P w K mg base 5 g_CropWidth_init gd_CropWidth_init ["self", "width", "height", "keep"] (sp_CropWidth_init C_CropWidth))
    (kb_CropWidth_init_1_keep_height_width : CallB K gd_CropWidth_init ["self", "width", "height", "keep"] 1 ["keep", "height", "width"] (fun ts zs => pickG [(0, 0), (2, 2), (2, 1), (2, 0)] ts [] zs))
    (kb_CropWidth_init_3_keep : CallB K gd_CropWidth_init ["self", "width", "height", "keep"] 3 ["keep"] (fun ts zs => pickG [(0, 0), (0, 1), (0, 2), (2, 0)] ts [] zs))
    (G_Grow_init : FnT P w K mg base 5 g_Grow_init gd_Grow_init ["self", "width", "height", "cover"] (sp_Grow_init C_Grow))
    (kb_Grow_init_1_height_cover_width : CallB K gd_Grow_init ["self", "width", "height", "cover"] 1 ["height", "cover", "width"] (fun ts zs => pickG [(0, 0), (2, 2), (2, 0), (2, 1)] ts [] zs))
    (kb_Grow_init_3_cover : CallB K gd_Grow_init ["self", "width", "height", "cover"] 3 ["cover"] (fun ts zs => pickG [(0, 0), (0, 1), (0, 2), (2, 0)] ts [] zs))
    (G_Shrink_init : FnT P w K mg base 5 g_Shrink_init gd_Shrink_init ["self", "width", "height", "cover"] (sp_Shrink_init C_Shrink))
    (kb_Shrink_init_1_height_cover_width : CallB K gd_Shrink_init ["self", "width", "height", "cover"] 1 ["height", "cover", "width"] (fun ts zs => pickG [(0, 0), (2, 2), (2, 0), (2, 1)] ts [] zs))
    (kb_Shrink_init_3_cover : CallB K gd_Shrink_init ["self", "width", "height", "cover"] 3 ["cover"] (fun ts zs => pickG [(0, 0), (0, 1), (0, 2), (2, 0)] ts [] zs))
    (m_Landscape : mg "Landscape" = some (.ref C_Landscape))
    (mp_Landscape : MkP K C_Landscape)
    (m_Portrait : mg "Portrait" = some (.ref C_Portrait))
    (mp_Portrait : MkP K C_Portrait)
    (m_Turn : mg "Turn" = some (.ref C_Turn))
    (M_Turn : Mk K C_Turn g_Turn_init)
    (m_CropHeight : mg "CropHeight" = some (.ref C_CropHeight))
    (M_CropHeight : Mk K C_CropHeight g_CropHeight_init)
    (m_CropWidth : mg "CropWidth" = some (.ref C_CropWidth))
    (M_CropWidth : Mk K C_CropWidth g_CropWidth_init)
    (m_Grow : mg "Grow" = some (.ref C_Grow))
    (M_Grow : Mk K C_Grow g_Grow_init)
    (m_Shrink : mg "Shrink" = some (.ref C_Shrink))
    (M_Shrink : Mk K C_Shrink g_Shrink_init)
    : FnT P w K mg base 7 f fd ["_law_spec"] (sp_l_made_twice C_Shrink C_Grow C_CropWidth C_CropHeight C_Turn C_Landscape C_Portrait) := by
  refine okT F sc_l_made_twice (by intro ts S R RE h; unfold sp_l_made_twice at h; split at h <;> first | rfl | exact h.elim) (fun cdv A out s H E hg hr => (bs_cons (ss_if (tt_cmp (op_eqG hr.units) cv_eq (et_ix ix_seq cv_ix (et_var (pv 0)) et_int (fun _ _ => rfl)) et_str (nomark _)) (bs_one (ss_ret (et_lst (at_cons (et_makeN (n := 2) M_Shrink G_Shrink_init hg (hr.mono (by decide)) (by rfl) m_Shrink kb_Shrink_init_3_cover (passL2N (L2N.takes_of rfl rfl rfl rfl)) (at_cons (et_ix ix_seq cv_ix (et_var (pv 0)) et_int (fun _ _ => rfl)) (at_cons (et_ix ix_seq cv_ix (et_var (pv 0)) et_int (fun _ _ => rfl)) at_nil)) (kt_cons (et_ix ix_seq cv_ix (et_var (pv 0)) et_int (fun _ _ => rfl)) kt_nil)) (at_cons (et_makeK0 M_Shrink G_Shrink_init hg (hr.mono (by decide)) (by rfl) m_Shrink kb_Shrink_init_1_height_cover_width (passL2N (L2N.takes_of rfl rfl rfl rfl)) (kt_cons (et_ix ix_seq cv_ix (et_var (pv 0)) et_int (fun _ _ => rfl)) (kt_cons (et_ix ix_seq cv_ix (et_var (pv 0)) et_int (fun _ _ => rfl)) (kt_cons (et_ix ix_seq cv_ix (et_var (pv 0)) et_int (fun _ _ => rfl)) kt_nil)))) at_nil))))) bs_nil)
    (bs_cons (ss_if (tt_cmp (op_eqG hr.units) cv_eq (et_ix ix_seq cv_ix (et_var (pv 0)) et_int (fun _ _ => rfl)) et_str (nomark _)) (bs_one (ss_ret (et_lst (at_cons (et_makeN (n := 2) M_Grow G_Grow_init hg (hr.mono (by decide)) (by rfl) m_Grow kb_Grow_init_3_cover (passL2N (L2N.takes_of rfl rfl rfl rfl)) (at_cons (et_ix ix_seq cv_ix (et_var (pv 0)) et_int (fun _ _ => rfl)) (at_cons (et_ix ix_seq cv_ix (et_var (pv 0)) et_int (fun _ _ => rfl)) at_nil)) (kt_cons (et_ix ix_seq cv_ix (et_var (pv 0)) et_int (fun _ _ => rfl)) kt_nil)) (at_cons (et_makeK0 M_Grow G_Grow_init hg (hr.mono (by decide)) (by rfl) m_Grow kb_Grow_init_1_height_cover_width (passL2N (L2N.takes_of rfl rfl rfl rfl)) (kt_cons (et_ix ix_seq cv_ix (et_var (pv 0)) et_int (fun _ _ => rfl)) (kt_cons (et_ix ix_seq cv_ix (et_var (pv 0)) et_int (fun _ _ => rfl)) (kt_cons (et_ix ix_seq cv_ix (et_var (pv 0)) et_int (fun _ _ => rfl)) kt_nil)))) at_nil))))) bs_nil)
    (bs_cons (ss_if (tt_cmp (op_eqG hr.units) cv_eq (et_ix ix_seq cv_ix (et_var (pv 0)) et_int (fun _ _ => rfl)) et_str (nomark _)) (bs_one (ss_ret (et_lst (at_cons (et_makeN (n := 2) M_CropWidth G_CropWidth_init hg (hr.mono (by decide)) (by rfl) m_CropWidth kb_CropWidth_init_3_keep (passL2N (L2N.takes_of rfl rfl rfl rfl)) (at_cons (et_ix ix_seq cv_ix (et_var (pv 0)) et_int (fun _ _ => rfl)) (at_cons (et_ix ix_seq cv_ix (et_var (pv 0)) et_int (fun _ _ => rfl)) at_nil)) (kt_cons (et_ix ix_seq cv_ix (et_var (pv 0)) et_int (fun _ _ => rfl)) kt_nil)) (at_cons (et_makeK0 M_CropWidth G_CropWidth_init hg (hr.mono (by decide)) (by rfl) m_CropWidth kb_CropWidth_init_1_keep_height_width (passL2N (L2N.takes_of rfl rfl rfl rfl)) (kt_cons (et_ix ix_seq cv_ix (et_var (pv 0)) et_int (fun _ _ => rfl)) (kt_cons (et_ix ix_seq cv_ix (et_var (pv 0)) et_int (fun _ _ => rfl)) (kt_cons (et_ix ix_seq cv_ix (et_var (pv 0)) et_int (fun _ _ => rfl)) kt_nil)))) at_nil))))) bs_nil)
    (bs_cons (ss_if (tt_cmp (op_eqG hr.units) cv_eq (et_ix ix_seq cv_ix (et_var (pv 0)) et_int (fun _ _ => rfl)) et_str (nomark _)) (bs_one (ss_ret (et_lst (at_cons (et_makeN (n := 2) M_CropHeight G_CropHeight_init hg (hr.mono (by decide)) (by rfl) m_CropHeight kb_CropHeight_init_3_keep (passL2N (L2N.takes_of rfl rfl rfl rfl)) (at_cons (et_ix ix_seq cv_ix (et_var (pv 0)) et_int (fun _ _ => rfl)) (at_cons (et_ix ix_seq cv_ix (et_var (pv 0)) et_int (fun _ _ => rfl)) at_nil)) (kt_cons (et_ix ix_seq cv_ix (et_var (pv 0)) et_int (fun _ _ => rfl)) kt_nil)) (at_cons (et_makeK0 M_CropHeight G_CropHeight_init hg (hr.mono (by decide)) (by rfl) m_CropHeight kb_CropHeight_init_1_keep_height_width (passL2N (L2N.takes_of rfl rfl rfl rfl)) (kt_cons (et_ix ix_seq cv_ix (et_var (pv 0)) et_int (fun _ _ => rfl)) (kt_cons (et_ix ix_seq cv_ix (et_var (pv 0)) et_int (fun _ _ => rfl)) (kt_cons (et_ix ix_seq cv_ix (et_var (pv 0)) et_int (fun _ _ => rfl)) kt_nil)))) at_nil))))) bs_nil)
    (bs_cons (ss_if (tt_cmp (op_eqG hr.units) cv_eq (et_ix ix_seq cv_ix (et_var (pv 0)) et_int (fun _ _ => rfl)) et_str (nomark _)) (bs_one (ss_ret (et_lst (at_cons (et_make M_Turn G_Turn_init hg (hr.mono (by decide)) (by rfl) m_Turn (CallD.all b_Turn_init) (passL2N (L2N.takes_of rfl rfl rfl rfl)) (at_cons (et_ix ix_seq cv_ix (et_var (pv 0)) et_int (fun _ _ => rfl)) at_nil)) (at_cons (et_makeK0 M_Turn G_Turn_init hg (hr.mono (by decide)) (by rfl) m_Turn kb_Turn_init_1_times (passL2N (L2N.takes_of rfl rfl rfl rfl)) (kt_cons (et_ix ix_seq cv_ix (et_var (pv 0)) et_int (fun _ _ => rfl)) kt_nil)) at_nil))))) bs_nil)
    (bs_one (ss_ret (et_if (tt_cmp (op_eqG hr.units) cv_eq (et_ix ix_seq cv_ix (et_var (pv 0)) et_int (fun _ _ => rfl)) et_str (nomark _)) (et_lst (at_cons (et_makeP mp_Landscape (by rfl) m_Landscape) (at_cons (et_makeP mp_Landscape (by rfl) m_Landscape) at_nil))) (et_lst (at_cons (et_makeP mp_Portrait (by rfl) m_Portrait) (at_cons (et_makeP mp_Portrait (by rfl) m_Portrait) at_nil)))))))))))) ?_
  intro ts S R RE h
  unfold sp_l_made_twice at h
  split at h
  · rename_i x
    obtain ⟨d, rfl, g, q⟩ := h
    cases d with
    | sc b w h c =>
      simp only [Wd.t, scT]
      cases b with
      | false =>
        refine sSeq_i fun N hN => ?_
        simp only [sSeq, sAsg, sDrop, sRetN, sIf, sNext, sPar, sPar3, sFor, sRaise, sFldT, sNo, rNo, rVar, rFrz, rC, rBin, rTest, bAnd, bOr, bNot, bIf, vAnd, vOr, vNot, rIf, rNeg, aNil, aCons, rTup, rLst, rLstC, rArgs, gNameT, gNilT, gConsT, gTupT, gSubT, iSeq, iRng1T, iRng2T, rLc, rCall, rCallN, rCallS, rFld, rCon, rMake, rMakeN, rMakeP, rMeth, rMethK, rProp, rClsFn, rOpOwn, rSl, oNone, oSome, rFmt, kFmt, rJs, rLidx, kStrOwn, kAddC, rMut, kAdd, kI2, kI2n, kMul, kIx, kIn, kLen, kU, kA2, kDm, kStrI, kAll, kSl, kAppend, kExtend, kTuple, kList, lenT, seqOf, bYes, startT, one, pickG, selG, insOf, putT, flatT, Bool.false_xor, Bool.true_xor, List.all_cons, List.all_nil, Bool.and_self, T.int.injEq, T.bl.injEq, T.str.injEq, T.lst.injEq, T.tup.injEq, T.cell.injEq, T.ins.injEq, Cell.lst.injEq, Cell.ins.injEq, Prod.mk.injEq, List.cons.injEq, Option.some.injEq, List.map_cons, List.map_nil, List.length_cons, List.length_nil, List.cons_append, List.nil_append, List.append_nil, List.getElem?_cons_zero, List.getElem?_cons_succ, List.set_cons_zero, List.set_cons_succ, List.replicate_succ, List.replicate_zero, exists_eq_left, exists_eq_left', exists_and_left, and_true, true_and, and_self, and_assoc, Nat.sub_self, Nat.reduceAdd, Nat.reduceSub, Nat.zero_add, put_put, put_same, reduceIte, Bool.false_eq_true, Bool.true_eq_false, Bool.not_true, Bool.not_false, at_0, at_1, at_2, at_3, at_4, at_5, at_6, at_7, ix_1_0, ix_2_0, ix_2_1, ix_3_0, ix_3_1, ix_3_2, ix_4_0, ix_4_1, ix_4_2, ix_4_3]
        refine eqSt (v := true) (by decide +kernel) ⟨_, rfl, ?_⟩
        rw [if_pos (show (false ^^ true) = true by decide)]
        refine ret_l2 q (fun K2 kk => ?_) (fun K2 kk => ?_)
        · simp only [sSeq, sAsg, sDrop, sRet, sRetN, sIf, sNext, sPar, sPar3, sFor, sRaise, sFldT, sNo, rNo, rVar, rFrz, rC, rBin, rTest, bAnd, bOr, bNot, bIf, vAnd, vOr, vNot, rIf, rNeg, aNil, aCons, rTup, rLst, rLstC, rArgs, gNameT, gNilT, gConsT, gTupT, gSubT, iSeq, iRng1T, iRng2T, rLc, rCall, rCallN, rCallS, rFld, rCon, rMake, rMakeN, rMakeP, rMeth, rMethK, rProp, rClsFn, rOpOwn, rSl, oNone, oSome, rFmt, kFmt, rJs, rLidx, kStrOwn, kAddC, rMut, kAdd, kI2, kI2n, kMul, kIx, kIn, kLen, kU, kA2, kDm, kStrI, kAll, kSl, kAppend, kExtend, kTuple, kList, lenT, seqOf, bYes, startT, one, pickG, selG, insOf, putT, flatT, Bool.false_xor, Bool.true_xor, List.all_cons, List.all_nil, Bool.and_self, T.int.injEq, T.bl.injEq, T.str.injEq, T.lst.injEq, T.tup.injEq, T.cell.injEq, T.ins.injEq, Cell.lst.injEq, Cell.ins.injEq, Prod.mk.injEq, List.cons.injEq, Option.some.injEq, List.map_cons, List.map_nil, List.length_cons, List.length_nil, List.cons_append, List.nil_append, List.append_nil, List.getElem?_cons_zero, List.getElem?_cons_succ, List.set_cons_zero, List.set_cons_succ, List.replicate_succ, List.replicate_zero, exists_eq_left, exists_eq_left', exists_and_left, and_true, true_and, and_self, and_assoc, Nat.sub_self, Nat.reduceAdd, Nat.reduceSub, Nat.zero_add, put_put, put_same, reduceIte, Bool.false_eq_true, Bool.true_eq_false, Bool.not_true, Bool.not_false, at_0, at_1, at_2, at_3, at_4, at_5, at_6, at_7, ix_1_0, ix_2_0, ix_2_1, ix_3_0, ix_3_1, ix_3_2, ix_4_0, ix_4_1, ix_4_2, ix_4_3]
          refine mk_shG g.1 g.2 fun u hu => ?_
          simp only [put_drop hu]
          exact kk
        · simp only [sSeq, sAsg, sDrop, sRet, sRetN, sIf, sNext, sPar, sPar3, sFor, sRaise, sFldT, sNo, rNo, rVar, rFrz, rC, rBin, rTest, bAnd, bOr, bNot, bIf, vAnd, vOr, vNot, rIf, rNeg, aNil, aCons, rTup, rLst, rLstC, rArgs, gNameT, gNilT, gConsT, gTupT, gSubT, iSeq, iRng1T, iRng2T, rLc, rCall, rCallN, rCallS, rFld, rCon, rMake, rMakeN, rMakeP, rMeth, rMethK, rProp, rClsFn, rOpOwn, rSl, oNone, oSome, rFmt, kFmt, rJs, rLidx, kStrOwn, kAddC, rMut, kAdd, kI2, kI2n, kMul, kIx, kIn, kLen, kU, kA2, kDm, kStrI, kAll, kSl, kAppend, kExtend, kTuple, kList, lenT, seqOf, bYes, startT, one, pickG, selG, insOf, putT, flatT, Bool.false_xor, Bool.true_xor, List.all_cons, List.all_nil, Bool.and_self, T.int.injEq, T.bl.injEq, T.str.injEq, T.lst.injEq, T.tup.injEq, T.cell.injEq, T.ins.injEq, Cell.lst.injEq, Cell.ins.injEq, Prod.mk.injEq, List.cons.injEq, Option.some.injEq, List.map_cons, List.map_nil, List.length_cons, List.length_nil, List.cons_append, List.nil_append, List.append_nil, List.getElem?_cons_zero, List.getElem?_cons_succ, List.set_cons_zero, List.set_cons_succ, List.replicate_succ, List.replicate_zero, exists_eq_left, exists_eq_left', exists_and_left, and_true, true_and, and_self, and_assoc, Nat.sub_self, Nat.reduceAdd, Nat.reduceSub, Nat.zero_add, put_put, put_same, reduceIte, Bool.false_eq_true, Bool.true_eq_false, Bool.not_true, Bool.not_false, at_0, at_1, at_2, at_3, at_4, at_5, at_6, at_7, ix_1_0, ix_2_0, ix_2_1, ix_3_0, ix_3_1, ix_3_2, ix_4_0, ix_4_1, ix_4_2, ix_4_3]
          refine mk_shG g.1 g.2 fun u hu => ?_
          simp only [put_drop hu]
          exact kk
      | true =>
        refine sSeq_i fun N hN => ?_
        simp only [sSeq, sAsg, sDrop, sRetN, sIf, sNext, sPar, sPar3, sFor, sRaise, sFldT, sNo, rNo, rVar, rFrz, rC, rBin, rTest, bAnd, bOr, bNot, bIf, vAnd, vOr, vNot, rIf, rNeg, aNil, aCons, rTup, rLst, rLstC, rArgs, gNameT, gNilT, gConsT, gTupT, gSubT, iSeq, iRng1T, iRng2T, rLc, rCall, rCallN, rCallS, rFld, rCon, rMake, rMakeN, rMakeP, rMeth, rMethK, rProp, rClsFn, rOpOwn, rSl, oNone, oSome, rFmt, kFmt, rJs, rLidx, kStrOwn, kAddC, rMut, kAdd, kI2, kI2n, kMul, kIx, kIn, kLen, kU, kA2, kDm, kStrI, kAll, kSl, kAppend, kExtend, kTuple, kList, lenT, seqOf, bYes, startT, one, pickG, selG, insOf, putT, flatT, Bool.false_xor, Bool.true_xor, List.all_cons, List.all_nil, Bool.and_self, T.int.injEq, T.bl.injEq, T.str.injEq, T.lst.injEq, T.tup.injEq, T.cell.injEq, T.ins.injEq, Cell.lst.injEq, Cell.ins.injEq, Prod.mk.injEq, List.cons.injEq, Option.some.injEq, List.map_cons, List.map_nil, List.length_cons, List.length_nil, List.cons_append, List.nil_append, List.append_nil, List.getElem?_cons_zero, List.getElem?_cons_succ, List.set_cons_zero, List.set_cons_succ, List.replicate_succ, List.replicate_zero, exists_eq_left, exists_eq_left', exists_and_left, and_true, true_and, and_self, and_assoc, Nat.sub_self, Nat.reduceAdd, Nat.reduceSub, Nat.zero_add, put_put, put_same, reduceIte, Bool.false_eq_true, Bool.true_eq_false, Bool.not_true, Bool.not_false, at_0, at_1, at_2, at_3, at_4, at_5, at_6, at_7, ix_1_0, ix_2_0, ix_2_1, ix_3_0, ix_3_1, ix_3_2, ix_4_0, ix_4_1, ix_4_2, ix_4_3]
        refine eqSt (v := false) (by decide +kernel) ⟨_, rfl, ?_⟩
        rw [if_neg (show ¬ (false ^^ false) = true by decide)]
        refine hN _ _ ?_
        refine sSeq_i fun N hN => ?_
        simp only [sSeq, sAsg, sDrop, sRetN, sIf, sNext, sPar, sPar3, sFor, sRaise, sFldT, sNo, rNo, rVar, rFrz, rC, rBin, rTest, bAnd, bOr, bNot, bIf, vAnd, vOr, vNot, rIf, rNeg, aNil, aCons, rTup, rLst, rLstC, rArgs, gNameT, gNilT, gConsT, gTupT, gSubT, iSeq, iRng1T, iRng2T, rLc, rCall, rCallN, rCallS, rFld, rCon, rMake, rMakeN, rMakeP, rMeth, rMethK, rProp, rClsFn, rOpOwn, rSl, oNone, oSome, rFmt, kFmt, rJs, rLidx, kStrOwn, kAddC, rMut, kAdd, kI2, kI2n, kMul, kIx, kIn, kLen, kU, kA2, kDm, kStrI, kAll, kSl, kAppend, kExtend, kTuple, kList, lenT, seqOf, bYes, startT, one, pickG, selG, insOf, putT, flatT, Bool.false_xor, Bool.true_xor, List.all_cons, List.all_nil, Bool.and_self, T.int.injEq, T.bl.injEq, T.str.injEq, T.lst.injEq, T.tup.injEq, T.cell.injEq, T.ins.injEq, Cell.lst.injEq, Cell.ins.injEq, Prod.mk.injEq, List.cons.injEq, Option.some.injEq, List.map_cons, List.map_nil, List.length_cons, List.length_nil, List.cons_append, List.nil_append, List.append_nil, List.getElem?_cons_zero, List.getElem?_cons_succ, List.set_cons_zero, List.set_cons_succ, List.replicate_succ, List.replicate_zero, exists_eq_left, exists_eq_left', exists_and_left, and_true, true_and, and_self, and_assoc, Nat.sub_self, Nat.reduceAdd, Nat.reduceSub, Nat.zero_add, put_put, put_same, reduceIte, Bool.false_eq_true, Bool.true_eq_false, Bool.not_true, Bool.not_false, at_0, at_1, at_2, at_3, at_4, at_5, at_6, at_7, ix_1_0, ix_2_0, ix_2_1, ix_3_0, ix_3_1, ix_3_2, ix_4_0, ix_4_1, ix_4_2, ix_4_3]
        refine eqSt (v := true) (by decide +kernel) ⟨_, rfl, ?_⟩
        rw [if_pos (show (false ^^ true) = true by decide)]
        refine ret_l2 q (fun K2 kk => ?_) (fun K2 kk => ?_)
        · simp only [sSeq, sAsg, sDrop, sRet, sRetN, sIf, sNext, sPar, sPar3, sFor, sRaise, sFldT, sNo, rNo, rVar, rFrz, rC, rBin, rTest, bAnd, bOr, bNot, bIf, vAnd, vOr, vNot, rIf, rNeg, aNil, aCons, rTup, rLst, rLstC, rArgs, gNameT, gNilT, gConsT, gTupT, gSubT, iSeq, iRng1T, iRng2T, rLc, rCall, rCallN, rCallS, rFld, rCon, rMake, rMakeN, rMakeP, rMeth, rMethK, rProp, rClsFn, rOpOwn, rSl, oNone, oSome, rFmt, kFmt, rJs, rLidx, kStrOwn, kAddC, rMut, kAdd, kI2, kI2n, kMul, kIx, kIn, kLen, kU, kA2, kDm, kStrI, kAll, kSl, kAppend, kExtend, kTuple, kList, lenT, seqOf, bYes, startT, one, pickG, selG, insOf, putT, flatT, Bool.false_xor, Bool.true_xor, List.all_cons, List.all_nil, Bool.and_self, T.int.injEq, T.bl.injEq, T.str.injEq, T.lst.injEq, T.tup.injEq, T.cell.injEq, T.ins.injEq, Cell.lst.injEq, Cell.ins.injEq, Prod.mk.injEq, List.cons.injEq, Option.some.injEq, List.map_cons, List.map_nil, List.length_cons, List.length_nil, List.cons_append, List.nil_append, List.append_nil, List.getElem?_cons_zero, List.getElem?_cons_succ, List.set_cons_zero, List.set_cons_succ, List.replicate_succ, List.replicate_zero, exists_eq_left, exists_eq_left', exists_and_left, and_true, true_and, and_self, and_assoc, Nat.sub_self, Nat.reduceAdd, Nat.reduceSub, Nat.zero_add, put_put, put_same, reduceIte, Bool.false_eq_true, Bool.true_eq_false, Bool.not_true, Bool.not_false, at_0, at_1, at_2, at_3, at_4, at_5, at_6, at_7, ix_1_0, ix_2_0, ix_2_1, ix_3_0, ix_3_1, ix_3_2, ix_4_0, ix_4_1, ix_4_2, ix_4_3]
          refine mk_grG g.1 g.2 fun u hu => ?_
          simp only [put_drop hu]
          exact kk
        · simp only [sSeq, sAsg, sDrop, sRet, sRetN, sIf, sNext, sPar, sPar3, sFor, sRaise, sFldT, sNo, rNo, rVar, rFrz, rC, rBin, rTest, bAnd, bOr, bNot, bIf, vAnd, vOr, vNot, rIf, rNeg, aNil, aCons, rTup, rLst, rLstC, rArgs, gNameT, gNilT, gConsT, gTupT, gSubT, iSeq, iRng1T, iRng2T, rLc, rCall, rCallN, rCallS, rFld, rCon, rMake, rMakeN, rMakeP, rMeth, rMethK, rProp, rClsFn, rOpOwn, rSl, oNone, oSome, rFmt, kFmt, rJs, rLidx, kStrOwn, kAddC, rMut, kAdd, kI2, kI2n, kMul, kIx, kIn, kLen, kU, kA2, kDm, kStrI, kAll, kSl, kAppend, kExtend, kTuple, kList, lenT, seqOf, bYes, startT, one, pickG, selG, insOf, putT, flatT, Bool.false_xor, Bool.true_xor, List.all_cons, List.all_nil, Bool.and_self, T.int.injEq, T.bl.injEq, T.str.injEq, T.lst.injEq, T.tup.injEq, T.cell.injEq, T.ins.injEq, Cell.lst.injEq, Cell.ins.injEq, Prod.mk.injEq, List.cons.injEq, Option.some.injEq, List.map_cons, List.map_nil, List.length_cons, List.length_nil, List.cons_append, List.nil_append, List.append_nil, List.getElem?_cons_zero, List.getElem?_cons_succ, List.set_cons_zero, List.set_cons_succ, List.replicate_succ, List.replicate_zero, exists_eq_left, exists_eq_left', exists_and_left, and_true, true_and, and_self, and_assoc, Nat.sub_self, Nat.reduceAdd, Nat.reduceSub, Nat.zero_add, put_put, put_same, reduceIte, Bool.false_eq_true, Bool.true_eq_false, Bool.not_true, Bool.not_false, at_0, at_1, at_2, at_3, at_4, at_5, at_6, at_7, ix_1_0, ix_2_0, ix_2_1, ix_3_0, ix_3_1, ix_3_2, ix_4_0, ix_4_1, ix_4_2, ix_4_3]
          refine mk_grG g.1 g.2 fun u hu => ?_
          simp only [put_drop hu]
          exact kk
    | cr t w h k =>
      simp only [Wd.t]
      cases t with
      | false =>
        refine sSeq_i fun N hN => ?_
        simp only [sSeq, sAsg, sDrop, sRetN, sIf, sNext, sPar, sPar3, sFor, sRaise, sFldT, sNo, rNo, rVar, rFrz, rC, rBin, rTest, bAnd, bOr, bNot, bIf, vAnd, vOr, vNot, rIf, rNeg, aNil, aCons, rTup, rLst, rLstC, rArgs, gNameT, gNilT, gConsT, gTupT, gSubT, iSeq, iRng1T, iRng2T, rLc, rCall, rCallN, rCallS, rFld, rCon, rMake, rMakeN, rMakeP, rMeth, rMethK, rProp, rClsFn, rOpOwn, rSl, oNone, oSome, rFmt, kFmt, rJs, rLidx, kStrOwn, kAddC, rMut, kAdd, kI2, kI2n, kMul, kIx, kIn, kLen, kU, kA2, kDm, kStrI, kAll, kSl, kAppend, kExtend, kTuple, kList, lenT, seqOf, bYes, startT, one, pickG, selG, insOf, putT, flatT, Bool.false_xor, Bool.true_xor, List.all_cons, List.all_nil, Bool.and_self, T.int.injEq, T.bl.injEq, T.str.injEq, T.lst.injEq, T.tup.injEq, T.cell.injEq, T.ins.injEq, Cell.lst.injEq, Cell.ins.injEq, Prod.mk.injEq, List.cons.injEq, Option.some.injEq, List.map_cons, List.map_nil, List.length_cons, List.length_nil, List.cons_append, List.nil_append, List.append_nil, List.getElem?_cons_zero, List.getElem?_cons_succ, List.set_cons_zero, List.set_cons_succ, List.replicate_succ, List.replicate_zero, exists_eq_left, exists_eq_left', exists_and_left, and_true, true_and, and_self, and_assoc, Nat.sub_self, Nat.reduceAdd, Nat.reduceSub, Nat.zero_add, put_put, put_same, reduceIte, Bool.false_eq_true, Bool.true_eq_false, Bool.not_true, Bool.not_false, at_0, at_1, at_2, at_3, at_4, at_5, at_6, at_7, ix_1_0, ix_2_0, ix_2_1, ix_3_0, ix_3_1, ix_3_2, ix_4_0, ix_4_1, ix_4_2, ix_4_3]
        refine eqSt (v := false) (by decide +kernel) ⟨_, rfl, ?_⟩
        rw [if_neg (show ¬ (false ^^ false) = true by decide)]
        refine hN _ _ ?_
        refine sSeq_i fun N hN => ?_
        simp only [sSeq, sAsg, sDrop, sRetN, sIf, sNext, sPar, sPar3, sFor, sRaise, sFldT, sNo, rNo, rVar, rFrz, rC, rBin, rTest, bAnd, bOr, bNot, bIf, vAnd, vOr, vNot, rIf, rNeg, aNil, aCons, rTup, rLst, rLstC, rArgs, gNameT, gNilT, gConsT, gTupT, gSubT, iSeq, iRng1T, iRng2T, rLc, rCall, rCallN, rCallS, rFld, rCon, rMake, rMakeN, rMakeP, rMeth, rMethK, rProp, rClsFn, rOpOwn, rSl, oNone, oSome, rFmt, kFmt, rJs, rLidx, kStrOwn, kAddC, rMut, kAdd, kI2, kI2n, kMul, kIx, kIn, kLen, kU, kA2, kDm, kStrI, kAll, kSl, kAppend, kExtend, kTuple, kList, lenT, seqOf, bYes, startT, one, pickG, selG, insOf, putT, flatT, Bool.false_xor, Bool.true_xor, List.all_cons, List.all_nil, Bool.and_self, T.int.injEq, T.bl.injEq, T.str.injEq, T.lst.injEq, T.tup.injEq, T.cell.injEq, T.ins.injEq, Cell.lst.injEq, Cell.ins.injEq, Prod.mk.injEq, List.cons.injEq, Option.some.injEq, List.map_cons, List.map_nil, List.length_cons, List.length_nil, List.cons_append, List.nil_append, List.append_nil, List.getElem?_cons_zero, List.getElem?_cons_succ, List.set_cons_zero, List.set_cons_succ, List.replicate_succ, List.replicate_zero, exists_eq_left, exists_eq_left', exists_and_left, and_true, true_and, and_self, and_assoc, Nat.sub_self, Nat.reduceAdd, Nat.reduceSub, Nat.zero_add, put_put, put_same, reduceIte, Bool.false_eq_true, Bool.true_eq_false, Bool.not_true, Bool.not_false, at_0, at_1, at_2, at_3, at_4, at_5, at_6, at_7, ix_1_0, ix_2_0, ix_2_1, ix_3_0, ix_3_1, ix_3_2, ix_4_0, ix_4_1, ix_4_2, ix_4_3]
        refine eqSt (v := false) (by decide +kernel) ⟨_, rfl, ?_⟩
        rw [if_neg (show ¬ (false ^^ false) = true by decide)]
        refine hN _ _ ?_
        refine sSeq_i fun N hN => ?_
        simp only [sSeq, sAsg, sDrop, sRetN, sIf, sNext, sPar, sPar3, sFor, sRaise, sFldT, sNo, rNo, rVar, rFrz, rC, rBin, rTest, bAnd, bOr, bNot, bIf, vAnd, vOr, vNot, rIf, rNeg, aNil, aCons, rTup, rLst, rLstC, rArgs, gNameT, gNilT, gConsT, gTupT, gSubT, iSeq, iRng1T, iRng2T, rLc, rCall, rCallN, rCallS, rFld, rCon, rMake, rMakeN, rMakeP, rMeth, rMethK, rProp, rClsFn, rOpOwn, rSl, oNone, oSome, rFmt, kFmt, rJs, rLidx, kStrOwn, kAddC, rMut, kAdd, kI2, kI2n, kMul, kIx, kIn, kLen, kU, kA2, kDm, kStrI, kAll, kSl, kAppend, kExtend, kTuple, kList, lenT, seqOf, bYes, startT, one, pickG, selG, insOf, putT, flatT, Bool.false_xor, Bool.true_xor, List.all_cons, List.all_nil, Bool.and_self, T.int.injEq, T.bl.injEq, T.str.injEq, T.lst.injEq, T.tup.injEq, T.cell.injEq, T.ins.injEq, Cell.lst.injEq, Cell.ins.injEq, Prod.mk.injEq, List.cons.injEq, Option.some.injEq, List.map_cons, List.map_nil, List.length_cons, List.length_nil, List.cons_append, List.nil_append, List.append_nil, List.getElem?_cons_zero, List.getElem?_cons_succ, List.set_cons_zero, List.set_cons_succ, List.replicate_succ, List.replicate_zero, exists_eq_left, exists_eq_left', exists_and_left, and_true, true_and, and_self, and_assoc, Nat.sub_self, Nat.reduceAdd, Nat.reduceSub, Nat.zero_add, put_put, put_same, reduceIte, Bool.false_eq_true, Bool.true_eq_false, Bool.not_true, Bool.not_false, at_0, at_1, at_2, at_3, at_4, at_5, at_6, at_7, ix_1_0, ix_2_0, ix_2_1, ix_3_0, ix_3_1, ix_3_2, ix_4_0, ix_4_1, ix_4_2, ix_4_3]
        refine eqSt (v := true) (by decide +kernel) ⟨_, rfl, ?_⟩
        rw [if_pos (show (false ^^ true) = true by decide)]
        refine ret_l2 q (fun K2 kk => ?_) (fun K2 kk => ?_)
        · simp only [sSeq, sAsg, sDrop, sRet, sRetN, sIf, sNext, sPar, sPar3, sFor, sRaise, sFldT, sNo, rNo, rVar, rFrz, rC, rBin, rTest, bAnd, bOr, bNot, bIf, vAnd, vOr, vNot, rIf, rNeg, aNil, aCons, rTup, rLst, rLstC, rArgs, gNameT, gNilT, gConsT, gTupT, gSubT, iSeq, iRng1T, iRng2T, rLc, rCall, rCallN, rCallS, rFld, rCon, rMake, rMakeN, rMakeP, rMeth, rMethK, rProp, rClsFn, rOpOwn, rSl, oNone, oSome, rFmt, kFmt, rJs, rLidx, kStrOwn, kAddC, rMut, kAdd, kI2, kI2n, kMul, kIx, kIn, kLen, kU, kA2, kDm, kStrI, kAll, kSl, kAppend, kExtend, kTuple, kList, lenT, seqOf, bYes, startT, one, pickG, selG, insOf, putT, flatT, Bool.false_xor, Bool.true_xor, List.all_cons, List.all_nil, Bool.and_self, T.int.injEq, T.bl.injEq, T.str.injEq, T.lst.injEq, T.tup.injEq, T.cell.injEq, T.ins.injEq, Cell.lst.injEq, Cell.ins.injEq, Prod.mk.injEq, List.cons.injEq, Option.some.injEq, List.map_cons, List.map_nil, List.length_cons, List.length_nil, List.cons_append, List.nil_append, List.append_nil, List.getElem?_cons_zero, List.getElem?_cons_succ, List.set_cons_zero, List.set_cons_succ, List.replicate_succ, List.replicate_zero, exists_eq_left, exists_eq_left', exists_and_left, and_true, true_and, and_self, and_assoc, Nat.sub_self, Nat.reduceAdd, Nat.reduceSub, Nat.zero_add, put_put, put_same, reduceIte, Bool.false_eq_true, Bool.true_eq_false, Bool.not_true, Bool.not_false, at_0, at_1, at_2, at_3, at_4, at_5, at_6, at_7, ix_1_0, ix_2_0, ix_2_1, ix_3_0, ix_3_1, ix_3_2, ix_4_0, ix_4_1, ix_4_2, ix_4_3]
          refine mk_cwG g.1 g.2.1 g.2.2 fun u hu => ?_
          simp only [put_drop hu]
          exact kk
        · simp only [sSeq, sAsg, sDrop, sRet, sRetN, sIf, sNext, sPar, sPar3, sFor, sRaise, sFldT, sNo, rNo, rVar, rFrz, rC, rBin, rTest, bAnd, bOr, bNot, bIf, vAnd, vOr, vNot, rIf, rNeg, aNil, aCons, rTup, rLst, rLstC, rArgs, gNameT, gNilT, gConsT, gTupT, gSubT, iSeq, iRng1T, iRng2T, rLc, rCall, rCallN, rCallS, rFld, rCon, rMake, rMakeN, rMakeP, rMeth, rMethK, rProp, rClsFn, rOpOwn, rSl, oNone, oSome, rFmt, kFmt, rJs, rLidx, kStrOwn, kAddC, rMut, kAdd, kI2, kI2n, kMul, kIx, kIn, kLen, kU, kA2, kDm, kStrI, kAll, kSl, kAppend, kExtend, kTuple, kList, lenT, seqOf, bYes, startT, one, pickG, selG, insOf, putT, flatT, Bool.false_xor, Bool.true_xor, List.all_cons, List.all_nil, Bool.and_self, T.int.injEq, T.bl.injEq, T.str.injEq, T.lst.injEq, T.tup.injEq, T.cell.injEq, T.ins.injEq, Cell.lst.injEq, Cell.ins.injEq, Prod.mk.injEq, List.cons.injEq, Option.some.injEq, List.map_cons, List.map_nil, List.length_cons, List.length_nil, List.cons_append, List.nil_append, List.append_nil, List.getElem?_cons_zero, List.getElem?_cons_succ, List.set_cons_zero, List.set_cons_succ, List.replicate_succ, List.replicate_zero, exists_eq_left, exists_eq_left', exists_and_left, and_true, true_and, and_self, and_assoc, Nat.sub_self, Nat.reduceAdd, Nat.reduceSub, Nat.zero_add, put_put, put_same, reduceIte, Bool.false_eq_true, Bool.true_eq_false, Bool.not_true, Bool.not_false, at_0, at_1, at_2, at_3, at_4, at_5, at_6, at_7, ix_1_0, ix_2_0, ix_2_1, ix_3_0, ix_3_1, ix_3_2, ix_4_0, ix_4_1, ix_4_2, ix_4_3]
          refine mk_cwG g.1 g.2.1 g.2.2 fun u hu => ?_
          simp only [put_drop hu]
          exact kk
      | true =>
        refine sSeq_i fun N hN => ?_
        simp only [sSeq, sAsg, sDrop, sRetN, sIf, sNext, sPar, sPar3, sFor, sRaise, sFldT, sNo, rNo, rVar, rFrz, rC, rBin, rTest, bAnd, bOr, bNot, bIf, vAnd, vOr, vNot, rIf, rNeg, aNil, aCons, rTup, rLst, rLstC, rArgs, gNameT, gNilT, gConsT, gTupT, gSubT, iSeq, iRng1T, iRng2T, rLc, rCall, rCallN, rCallS, rFld, rCon, rMake, rMakeN, rMakeP, rMeth, rMethK, rProp, rClsFn, rOpOwn, rSl, oNone, oSome, rFmt, kFmt, rJs, rLidx, kStrOwn, kAddC, rMut, kAdd, kI2, kI2n, kMul, kIx, kIn, kLen, kU, kA2, kDm, kStrI, kAll, kSl, kAppend, kExtend, kTuple, kList, lenT, seqOf, bYes, startT, one, pickG, selG, insOf, putT, flatT, Bool.false_xor, Bool.true_xor, List.all_cons, List.all_nil, Bool.and_self, T.int.injEq, T.bl.injEq, T.str.injEq, T.lst.injEq, T.tup.injEq, T.cell.injEq, T.ins.injEq, Cell.lst.injEq, Cell.ins.injEq, Prod.mk.injEq, List.cons.injEq, Option.some.injEq, List.map_cons, List.map_nil, List.length_cons, List.length_nil, List.cons_append, List.nil_append, List.append_nil, List.getElem?_cons_zero, List.getElem?_cons_succ, List.set_cons_zero, List.set_cons_succ, List.replicate_succ, List.replicate_zero, exists_eq_left, exists_eq_left', exists_and_left, and_true, true_and, and_self, and_assoc, Nat.sub_self, Nat.reduceAdd, Nat.reduceSub, Nat.zero_add, put_put, put_same, reduceIte, Bool.false_eq_true, Bool.true_eq_false, Bool.not_true, Bool.not_false, at_0, at_1, at_2, at_3, at_4, at_5, at_6, at_7, ix_1_0, ix_2_0, ix_2_1, ix_3_0, ix_3_1, ix_3_2, ix_4_0, ix_4_1, ix_4_2, ix_4_3]
        refine eqSt (v := false) (by decide +kernel) ⟨_, rfl, ?_⟩
        rw [if_neg (show ¬ (false ^^ false) = true by decide)]
        refine hN _ _ ?_
        refine sSeq_i fun N hN => ?_
        simp only [sSeq, sAsg, sDrop, sRetN, sIf, sNext, sPar, sPar3, sFor, sRaise, sFldT, sNo, rNo, rVar, rFrz, rC, rBin, rTest, bAnd, bOr, bNot, bIf, vAnd, vOr, vNot, rIf, rNeg, aNil, aCons, rTup, rLst, rLstC, rArgs, gNameT, gNilT, gConsT, gTupT, gSubT, iSeq, iRng1T, iRng2T, rLc, rCall, rCallN, rCallS, rFld, rCon, rMake, rMakeN, rMakeP, rMeth, rMethK, rProp, rClsFn, rOpOwn, rSl, oNone, oSome, rFmt, kFmt, rJs, rLidx, kStrOwn, kAddC, rMut, kAdd, kI2, kI2n, kMul, kIx, kIn, kLen, kU, kA2, kDm, kStrI, kAll, kSl, kAppend, kExtend, kTuple, kList, lenT, seqOf, bYes, startT, one, pickG, selG, insOf, putT, flatT, Bool.false_xor, Bool.true_xor, List.all_cons, List.all_nil, Bool.and_self, T.int.injEq, T.bl.injEq, T.str.injEq, T.lst.injEq, T.tup.injEq, T.cell.injEq, T.ins.injEq, Cell.lst.injEq, Cell.ins.injEq, Prod.mk.injEq, List.cons.injEq, Option.some.injEq, List.map_cons, List.map_nil, List.length_cons, List.length_nil, List.cons_append, List.nil_append, List.append_nil, List.getElem?_cons_zero, List.getElem?_cons_succ, List.set_cons_zero, List.set_cons_succ, List.replicate_succ, List.replicate_zero, exists_eq_left, exists_eq_left', exists_and_left, and_true, true_and, and_self, and_assoc, Nat.sub_self, Nat.reduceAdd, Nat.reduceSub, Nat.zero_add, put_put, put_same, reduceIte, Bool.false_eq_true, Bool.true_eq_false, Bool.not_true, Bool.not_false, at_0, at_1, at_2, at_3, at_4, at_5, at_6, at_7, ix_1_0, ix_2_0, ix_2_1, ix_3_0, ix_3_1, ix_3_2, ix_4_0, ix_4_1, ix_4_2, ix_4_3]
        refine eqSt (v := false) (by decide +kernel) ⟨_, rfl, ?_⟩
        rw [if_neg (show ¬ (false ^^ false) = true by decide)]
        refine hN _ _ ?_
        refine sSeq_i fun N hN => ?_
        simp only [sSeq, sAsg, sDrop, sRetN, sIf, sNext, sPar, sPar3, sFor, sRaise, sFldT, sNo, rNo, rVar, rFrz, rC, rBin, rTest, bAnd, bOr, bNot, bIf, vAnd, vOr, vNot, rIf, rNeg, aNil, aCons, rTup, rLst, rLstC, rArgs, gNameT, gNilT, gConsT, gTupT, gSubT, iSeq, iRng1T, iRng2T, rLc, rCall, rCallN, rCallS, rFld, rCon, rMake, rMakeN, rMakeP, rMeth, rMethK, rProp, rClsFn, rOpOwn, rSl, oNone, oSome, rFmt, kFmt, rJs, rLidx, kStrOwn, kAddC, rMut, kAdd, kI2, kI2n, kMul, kIx, kIn, kLen, kU, kA2, kDm, kStrI, kAll, kSl, kAppend, kExtend, kTuple, kList, lenT, seqOf, bYes, startT, one, pickG, selG, insOf, putT, flatT, Bool.false_xor, Bool.true_xor, List.all_cons, List.all_nil, Bool.and_self, T.int.injEq, T.bl.injEq, T.str.injEq, T.lst.injEq, T.tup.injEq, T.cell.injEq, T.ins.injEq, Cell.lst.injEq, Cell.ins.injEq, Prod.mk.injEq, List.cons.injEq, Option.some.injEq, List.map_cons, List.map_nil, List.length_cons, List.length_nil, List.cons_append, List.nil_append, List.append_nil, List.getElem?_cons_zero, List.getElem?_cons_succ, List.set_cons_zero, List.set_cons_succ, List.replicate_succ, List.replicate_zero, exists_eq_left, exists_eq_left', exists_and_left, and_true, true_and, and_self, and_assoc, Nat.sub_self, Nat.reduceAdd, Nat.reduceSub, Nat.zero_add, put_put, put_same, reduceIte, Bool.false_eq_true, Bool.true_eq_false, Bool.not_true, Bool.not_false, at_0, at_1, at_2, at_3, at_4, at_5, at_6, at_7, ix_1_0, ix_2_0, ix_2_1, ix_3_0, ix_3_1, ix_3_2, ix_4_0, ix_4_1, ix_4_2, ix_4_3]
        refine eqSt (v := false) (by decide +kernel) ⟨_, rfl, ?_⟩
        rw [if_neg (show ¬ (false ^^ false) = true by decide)]
        refine hN _ _ ?_
        refine sSeq_i fun N hN => ?_
        simp only [sSeq, sAsg, sDrop, sRetN, sIf, sNext, sPar, sPar3, sFor, sRaise, sFldT, sNo, rNo, rVar, rFrz, rC, rBin, rTest, bAnd, bOr, bNot, bIf, vAnd, vOr, vNot, rIf, rNeg, aNil, aCons, rTup, rLst, rLstC, rArgs, gNameT, gNilT, gConsT, gTupT, gSubT, iSeq, iRng1T, iRng2T, rLc, rCall, rCallN, rCallS, rFld, rCon, rMake, rMakeN, rMakeP, rMeth, rMethK, rProp, rClsFn, rOpOwn, rSl, oNone, oSome, rFmt, kFmt, rJs, rLidx, kStrOwn, kAddC, rMut, kAdd, kI2, kI2n, kMul, kIx, kIn, kLen, kU, kA2, kDm, kStrI, kAll, kSl, kAppend, kExtend, kTuple, kList, lenT, seqOf, bYes, startT, one, pickG, selG, insOf, putT, flatT, Bool.false_xor, Bool.true_xor, List.all_cons, List.all_nil, Bool.and_self, T.int.injEq, T.bl.injEq, T.str.injEq, T.lst.injEq, T.tup.injEq, T.cell.injEq, T.ins.injEq, Cell.lst.injEq, Cell.ins.injEq, Prod.mk.injEq, List.cons.injEq, Option.some.injEq, List.map_cons, List.map_nil, List.length_cons, List.length_nil, List.cons_append, List.nil_append, List.append_nil, List.getElem?_cons_zero, List.getElem?_cons_succ, List.set_cons_zero, List.set_cons_succ, List.replicate_succ, List.replicate_zero, exists_eq_left, exists_eq_left', exists_and_left, and_true, true_and, and_self, and_assoc, Nat.sub_self, Nat.reduceAdd, Nat.reduceSub, Nat.zero_add, put_put, put_same, reduceIte, Bool.false_eq_true, Bool.true_eq_false, Bool.not_true, Bool.not_false, at_0, at_1, at_2, at_3, at_4, at_5, at_6, at_7, ix_1_0, ix_2_0, ix_2_1, ix_3_0, ix_3_1, ix_3_2, ix_4_0, ix_4_1, ix_4_2, ix_4_3]
        refine eqSt (v := true) (by decide +kernel) ⟨_, rfl, ?_⟩
        rw [if_pos (show (false ^^ true) = true by decide)]
        refine ret_l2 q (fun K2 kk => ?_) (fun K2 kk => ?_)
        · simp only [sSeq, sAsg, sDrop, sRet, sRetN, sIf, sNext, sPar, sPar3, sFor, sRaise, sFldT, sNo, rNo, rVar, rFrz, rC, rBin, rTest, bAnd, bOr, bNot, bIf, vAnd, vOr, vNot, rIf, rNeg, aNil, aCons, rTup, rLst, rLstC, rArgs, gNameT, gNilT, gConsT, gTupT, gSubT, iSeq, iRng1T, iRng2T, rLc, rCall, rCallN, rCallS, rFld, rCon, rMake, rMakeN, rMakeP, rMeth, rMethK, rProp, rClsFn, rOpOwn, rSl, oNone, oSome, rFmt, kFmt, rJs, rLidx, kStrOwn, kAddC, rMut, kAdd, kI2, kI2n, kMul, kIx, kIn, kLen, kU, kA2, kDm, kStrI, kAll, kSl, kAppend, kExtend, kTuple, kList, lenT, seqOf, bYes, startT, one, pickG, selG, insOf, putT, flatT, Bool.false_xor, Bool.true_xor, List.all_cons, List.all_nil, Bool.and_self, T.int.injEq, T.bl.injEq, T.str.injEq, T.lst.injEq, T.tup.injEq, T.cell.injEq, T.ins.injEq, Cell.lst.injEq, Cell.ins.injEq, Prod.mk.injEq, List.cons.injEq, Option.some.injEq, List.map_cons, List.map_nil, List.length_cons, List.length_nil, List.cons_append, List.nil_append, List.append_nil, List.getElem?_cons_zero, List.getElem?_cons_succ, List.set_cons_zero, List.set_cons_succ, List.replicate_succ, List.replicate_zero, exists_eq_left, exists_eq_left', exists_and_left, and_true, true_and, and_self, and_assoc, Nat.sub_self, Nat.reduceAdd, Nat.reduceSub, Nat.zero_add, put_put, put_same, reduceIte, Bool.false_eq_true, Bool.true_eq_false, Bool.not_true, Bool.not_false, at_0, at_1, at_2, at_3, at_4, at_5, at_6, at_7, ix_1_0, ix_2_0, ix_2_1, ix_3_0, ix_3_1, ix_3_2, ix_4_0, ix_4_1, ix_4_2, ix_4_3]
          refine mk_chG g.1 g.2.1 g.2.2 fun u hu => ?_
          simp only [put_drop hu]
          exact kk
        · simp only [sSeq, sAsg, sDrop, sRet, sRetN, sIf, sNext, sPar, sPar3, sFor, sRaise, sFldT, sNo, rNo, rVar, rFrz, rC, rBin, rTest, bAnd, bOr, bNot, bIf, vAnd, vOr, vNot, rIf, rNeg, aNil, aCons, rTup, rLst, rLstC, rArgs, gNameT, gNilT, gConsT, gTupT, gSubT, iSeq, iRng1T, iRng2T, rLc, rCall, rCallN, rCallS, rFld, rCon, rMake, rMakeN, rMakeP, rMeth, rMethK, rProp, rClsFn, rOpOwn, rSl, oNone, oSome, rFmt, kFmt, rJs, rLidx, kStrOwn, kAddC, rMut, kAdd, kI2, kI2n, kMul, kIx, kIn, kLen, kU, kA2, kDm, kStrI, kAll, kSl, kAppend, kExtend, kTuple, kList, lenT, seqOf, bYes, startT, one, pickG, selG, insOf, putT, flatT, Bool.false_xor, Bool.true_xor, List.all_cons, List.all_nil, Bool.and_self, T.int.injEq, T.bl.injEq, T.str.injEq, T.lst.injEq, T.tup.injEq, T.cell.injEq, T.ins.injEq, Cell.lst.injEq, Cell.ins.injEq, Prod.mk.injEq, List.cons.injEq, Option.some.injEq, List.map_cons, List.map_nil, List.length_cons, List.length_nil, List.cons_append, List.nil_append, List.append_nil, List.getElem?_cons_zero, List.getElem?_cons_succ, List.set_cons_zero, List.set_cons_succ, List.replicate_succ, List.replicate_zero, exists_eq_left, exists_eq_left', exists_and_left, and_true, true_and, and_self, and_assoc, Nat.sub_self, Nat.reduceAdd, Nat.reduceSub, Nat.zero_add, put_put, put_same, reduceIte, Bool.false_eq_true, Bool.true_eq_false, Bool.not_true, Bool.not_false, at_0, at_1, at_2, at_3, at_4, at_5, at_6, at_7, ix_1_0, ix_2_0, ix_2_1, ix_3_0, ix_3_1, ix_3_2, ix_4_0, ix_4_1, ix_4_2, ix_4_3]
          refine mk_chG g.1 g.2.1 g.2.2 fun u hu => ?_
          simp only [put_drop hu]
          exact kk
    | tu n =>
      simp only [Wd.t]
      refine sSeq_i fun N hN => ?_
      simp only [sSeq, sAsg, sDrop, sRetN, sIf, sNext, sPar, sPar3, sFor, sRaise, sFldT, sNo, rNo, rVar, rFrz, rC, rBin, rTest, bAnd, bOr, bNot, bIf, vAnd, vOr, vNot, rIf, rNeg, aNil, aCons, rTup, rLst, rLstC, rArgs, gNameT, gNilT, gConsT, gTupT, gSubT, iSeq, iRng1T, iRng2T, rLc, rCall, rCallN, rCallS, rFld, rCon, rMake, rMakeN, rMakeP, rMeth, rMethK, rProp, rClsFn, rOpOwn, rSl, oNone, oSome, rFmt, kFmt, rJs, rLidx, kStrOwn, kAddC, rMut, kAdd, kI2, kI2n, kMul, kIx, kIn, kLen, kU, kA2, kDm, kStrI, kAll, kSl, kAppend, kExtend, kTuple, kList, lenT, seqOf, bYes, startT, one, pickG, selG, insOf, putT, flatT, Bool.false_xor, Bool.true_xor, List.all_cons, List.all_nil, Bool.and_self, T.int.injEq, T.bl.injEq, T.str.injEq, T.lst.injEq, T.tup.injEq, T.cell.injEq, T.ins.injEq, Cell.lst.injEq, Cell.ins.injEq, Prod.mk.injEq, List.cons.injEq, Option.some.injEq, List.map_cons, List.map_nil, List.length_cons, List.length_nil, List.cons_append, List.nil_append, List.append_nil, List.getElem?_cons_zero, List.getElem?_cons_succ, List.set_cons_zero, List.set_cons_succ, List.replicate_succ, List.replicate_zero, exists_eq_left, exists_eq_left', exists_and_left, and_true, true_and, and_self, and_assoc, Nat.sub_self, Nat.reduceAdd, Nat.reduceSub, Nat.zero_add, put_put, put_same, reduceIte, Bool.false_eq_true, Bool.true_eq_false, Bool.not_true, Bool.not_false, at_0, at_1, at_2, at_3, at_4, at_5, at_6, at_7, ix_1_0, ix_2_0, ix_2_1, ix_3_0, ix_3_1, ix_3_2, ix_4_0, ix_4_1, ix_4_2, ix_4_3]
      refine eqSt (v := false) (by decide +kernel) ⟨_, rfl, ?_⟩
      rw [if_neg (show ¬ (false ^^ false) = true by decide)]
      refine hN _ _ ?_
      refine sSeq_i fun N hN => ?_
      simp only [sSeq, sAsg, sDrop, sRetN, sIf, sNext, sPar, sPar3, sFor, sRaise, sFldT, sNo, rNo, rVar, rFrz, rC, rBin, rTest, bAnd, bOr, bNot, bIf, vAnd, vOr, vNot, rIf, rNeg, aNil, aCons, rTup, rLst, rLstC, rArgs, gNameT, gNilT, gConsT, gTupT, gSubT, iSeq, iRng1T, iRng2T, rLc, rCall, rCallN, rCallS, rFld, rCon, rMake, rMakeN, rMakeP, rMeth, rMethK, rProp, rClsFn, rOpOwn, rSl, oNone, oSome, rFmt, kFmt, rJs, rLidx, kStrOwn, kAddC, rMut, kAdd, kI2, kI2n, kMul, kIx, kIn, kLen, kU, kA2, kDm, kStrI, kAll, kSl, kAppend, kExtend, kTuple, kList, lenT, seqOf, bYes, startT, one, pickG, selG, insOf, putT, flatT, Bool.false_xor, Bool.true_xor, List.all_cons, List.all_nil, Bool.and_self, T.int.injEq, T.bl.injEq, T.str.injEq, T.lst.injEq, T.tup.injEq, T.cell.injEq, T.ins.injEq, Cell.lst.injEq, Cell.ins.injEq, Prod.mk.injEq, List.cons.injEq, Option.some.injEq, List.map_cons, List.map_nil, List.length_cons, List.length_nil, List.cons_append, List.nil_append, List.append_nil, List.getElem?_cons_zero, List.getElem?_cons_succ, List.set_cons_zero, List.set_cons_succ, List.replicate_succ, List.replicate_zero, exists_eq_left, exists_eq_left', exists_and_left, and_true, true_and, and_self, and_assoc, Nat.sub_self, Nat.reduceAdd, Nat.reduceSub, Nat.zero_add, put_put, put_same, reduceIte, Bool.false_eq_true, Bool.true_eq_false, Bool.not_true, Bool.not_false, at_0, at_1, at_2, at_3, at_4, at_5, at_6, at_7, ix_1_0, ix_2_0, ix_2_1, ix_3_0, ix_3_1, ix_3_2, ix_4_0, ix_4_1, ix_4_2, ix_4_3]
      refine eqSt (v := false) (by decide +kernel) ⟨_, rfl, ?_⟩
      rw [if_neg (show ¬ (false ^^ false) = true by decide)]
      refine hN _ _ ?_
      refine sSeq_i fun N hN => ?_
      simp only [sSeq, sAsg, sDrop, sRetN, sIf, sNext, sPar, sPar3, sFor, sRaise, sFldT, sNo, rNo, rVar, rFrz, rC, rBin, rTest, bAnd, bOr, bNot, bIf, vAnd, vOr, vNot, rIf, rNeg, aNil, aCons, rTup, rLst, rLstC, rArgs, gNameT, gNilT, gConsT, gTupT, gSubT, iSeq, iRng1T, iRng2T, rLc, rCall, rCallN, rCallS, rFld, rCon, rMake, rMakeN, rMakeP, rMeth, rMethK, rProp, rClsFn, rOpOwn, rSl, oNone, oSome, rFmt, kFmt, rJs, rLidx, kStrOwn, kAddC, rMut, kAdd, kI2, kI2n, kMul, kIx, kIn, kLen, kU, kA2, kDm, kStrI, kAll, kSl, kAppend, kExtend, kTuple, kList, lenT, seqOf, bYes, startT, one, pickG, selG, insOf, putT, flatT, Bool.false_xor, Bool.true_xor, List.all_cons, List.all_nil, Bool.and_self, T.int.injEq, T.bl.injEq, T.str.injEq, T.lst.injEq, T.tup.injEq, T.cell.injEq, T.ins.injEq, Cell.lst.injEq, Cell.ins.injEq, Prod.mk.injEq, List.cons.injEq, Option.some.injEq, List.map_cons, List.map_nil, List.length_cons, List.length_nil, List.cons_append, List.nil_append, List.append_nil, List.getElem?_cons_zero, List.getElem?_cons_succ, List.set_cons_zero, List.set_cons_succ, List.replicate_succ, List.replicate_zero, exists_eq_left, exists_eq_left', exists_and_left, and_true, true_and, and_self, and_assoc, Nat.sub_self, Nat.reduceAdd, Nat.reduceSub, Nat.zero_add, put_put, put_same, reduceIte, Bool.false_eq_true, Bool.true_eq_false, Bool.not_true, Bool.not_false, at_0, at_1, at_2, at_3, at_4, at_5, at_6, at_7, ix_1_0, ix_2_0, ix_2_1, ix_3_0, ix_3_1, ix_3_2, ix_4_0, ix_4_1, ix_4_2, ix_4_3]
      refine eqSt (v := false) (by decide +kernel) ⟨_, rfl, ?_⟩
      rw [if_neg (show ¬ (false ^^ false) = true by decide)]
      refine hN _ _ ?_
      refine sSeq_i fun N hN => ?_
      simp only [sSeq, sAsg, sDrop, sRetN, sIf, sNext, sPar, sPar3, sFor, sRaise, sFldT, sNo, rNo, rVar, rFrz, rC, rBin, rTest, bAnd, bOr, bNot, bIf, vAnd, vOr, vNot, rIf, rNeg, aNil, aCons, rTup, rLst, rLstC, rArgs, gNameT, gNilT, gConsT, gTupT, gSubT, iSeq, iRng1T, iRng2T, rLc, rCall, rCallN, rCallS, rFld, rCon, rMake, rMakeN, rMakeP, rMeth, rMethK, rProp, rClsFn, rOpOwn, rSl, oNone, oSome, rFmt, kFmt, rJs, rLidx, kStrOwn, kAddC, rMut, kAdd, kI2, kI2n, kMul, kIx, kIn, kLen, kU, kA2, kDm, kStrI, kAll, kSl, kAppend, kExtend, kTuple, kList, lenT, seqOf, bYes, startT, one, pickG, selG, insOf, putT, flatT, Bool.false_xor, Bool.true_xor, List.all_cons, List.all_nil, Bool.and_self, T.int.injEq, T.bl.injEq, T.str.injEq, T.lst.injEq, T.tup.injEq, T.cell.injEq, T.ins.injEq, Cell.lst.injEq, Cell.ins.injEq, Prod.mk.injEq, List.cons.injEq, Option.some.injEq, List.map_cons, List.map_nil, List.length_cons, List.length_nil, List.cons_append, List.nil_append, List.append_nil, List.getElem?_cons_zero, List.getElem?_cons_succ, List.set_cons_zero, List.set_cons_succ, List.replicate_succ, List.replicate_zero, exists_eq_left, exists_eq_left', exists_and_left, and_true, true_and, and_self, and_assoc, Nat.sub_self, Nat.reduceAdd, Nat.reduceSub, Nat.zero_add, put_put, put_same, reduceIte, Bool.false_eq_true, Bool.true_eq_false, Bool.not_true, Bool.not_false, at_0, at_1, at_2, at_3, at_4, at_5, at_6, at_7, ix_1_0, ix_2_0, ix_2_1, ix_3_0, ix_3_1, ix_3_2, ix_4_0, ix_4_1, ix_4_2, ix_4_3]
      refine eqSt (v := false) (by decide +kernel) ⟨_, rfl, ?_⟩
      rw [if_neg (show ¬ (false ^^ false) = true by decide)]
      refine hN _ _ ?_
      refine sSeq_i fun N hN => ?_
      simp only [sSeq, sAsg, sDrop, sRetN, sIf, sNext, sPar, sPar3, sFor, sRaise, sFldT, sNo, rNo, rVar, rFrz, rC, rBin, rTest, bAnd, bOr, bNot, bIf, vAnd, vOr, vNot, rIf, rNeg, aNil, aCons, rTup, rLst, rLstC, rArgs, gNameT, gNilT, gConsT, gTupT, gSubT, iSeq, iRng1T, iRng2T, rLc, rCall, rCallN, rCallS, rFld, rCon, rMake, rMakeN, rMakeP, rMeth, rMethK, rProp, rClsFn, rOpOwn, rSl, oNone, oSome, rFmt, kFmt, rJs, rLidx, kStrOwn, kAddC, rMut, kAdd, kI2, kI2n, kMul, kIx, kIn, kLen, kU, kA2, kDm, kStrI, kAll, kSl, kAppend, kExtend, kTuple, kList, lenT, seqOf, bYes, startT, one, pickG, selG, insOf, putT, flatT, Bool.false_xor, Bool.true_xor, List.all_cons, List.all_nil, Bool.and_self, T.int.injEq, T.bl.injEq, T.str.injEq, T.lst.injEq, T.tup.injEq, T.cell.injEq, T.ins.injEq, Cell.lst.injEq, Cell.ins.injEq, Prod.mk.injEq, List.cons.injEq, Option.some.injEq, List.map_cons, List.map_nil, List.length_cons, List.length_nil, List.cons_append, List.nil_append, List.append_nil, List.getElem?_cons_zero, List.getElem?_cons_succ, List.set_cons_zero, List.set_cons_succ, List.replicate_succ, List.replicate_zero, exists_eq_left, exists_eq_left', exists_and_left, and_true, true_and, and_self, and_assoc, Nat.sub_self, Nat.reduceAdd, Nat.reduceSub, Nat.zero_add, put_put, put_same, reduceIte, Bool.false_eq_true, Bool.true_eq_false, Bool.not_true, Bool.not_false, at_0, at_1, at_2, at_3, at_4, at_5, at_6, at_7, ix_1_0, ix_2_0, ix_2_1, ix_3_0, ix_3_1, ix_3_2, ix_4_0, ix_4_1, ix_4_2, ix_4_3]
      refine eqSt (v := true) (by decide +kernel) ⟨_, rfl, ?_⟩
      rw [if_pos (show (false ^^ true) = true by decide)]
      refine ret_l2 q (fun K2 kk => ?_) (fun K2 kk => ?_)
      · simp only [sSeq, sAsg, sDrop, sRet, sRetN, sIf, sNext, sPar, sPar3, sFor, sRaise, sFldT, sNo, rNo, rVar, rFrz, rC, rBin, rTest, bAnd, bOr, bNot, bIf, vAnd, vOr, vNot, rIf, rNeg, aNil, aCons, rTup, rLst, rLstC, rArgs, gNameT, gNilT, gConsT, gTupT, gSubT, iSeq, iRng1T, iRng2T, rLc, rCall, rCallN, rCallS, rFld, rCon, rMake, rMakeN, rMakeP, rMeth, rMethK, rProp, rClsFn, rOpOwn, rSl, oNone, oSome, rFmt, kFmt, rJs, rLidx, kStrOwn, kAddC, rMut, kAdd, kI2, kI2n, kMul, kIx, kIn, kLen, kU, kA2, kDm, kStrI, kAll, kSl, kAppend, kExtend, kTuple, kList, lenT, seqOf, bYes, startT, one, pickG, selG, insOf, putT, flatT, Bool.false_xor, Bool.true_xor, List.all_cons, List.all_nil, Bool.and_self, T.int.injEq, T.bl.injEq, T.str.injEq, T.lst.injEq, T.tup.injEq, T.cell.injEq, T.ins.injEq, Cell.lst.injEq, Cell.ins.injEq, Prod.mk.injEq, List.cons.injEq, Option.some.injEq, List.map_cons, List.map_nil, List.length_cons, List.length_nil, List.cons_append, List.nil_append, List.append_nil, List.getElem?_cons_zero, List.getElem?_cons_succ, List.set_cons_zero, List.set_cons_succ, List.replicate_succ, List.replicate_zero, exists_eq_left, exists_eq_left', exists_and_left, and_true, true_and, and_self, and_assoc, Nat.sub_self, Nat.reduceAdd, Nat.reduceSub, Nat.zero_add, put_put, put_same, reduceIte, Bool.false_eq_true, Bool.true_eq_false, Bool.not_true, Bool.not_false, at_0, at_1, at_2, at_3, at_4, at_5, at_6, at_7, ix_1_0, ix_2_0, ix_2_1, ix_3_0, ix_3_1, ix_3_2, ix_4_0, ix_4_1, ix_4_2, ix_4_3]
        refine mk_tuG g.1 g.2 fun u hu => ?_
        simp only [put_drop hu]
        exact kk
      · simp only [sSeq, sAsg, sDrop, sRet, sRetN, sIf, sNext, sPar, sPar3, sFor, sRaise, sFldT, sNo, rNo, rVar, rFrz, rC, rBin, rTest, bAnd, bOr, bNot, bIf, vAnd, vOr, vNot, rIf, rNeg, aNil, aCons, rTup, rLst, rLstC, rArgs, gNameT, gNilT, gConsT, gTupT, gSubT, iSeq, iRng1T, iRng2T, rLc, rCall, rCallN, rCallS, rFld, rCon, rMake, rMakeN, rMakeP, rMeth, rMethK, rProp, rClsFn, rOpOwn, rSl, oNone, oSome, rFmt, kFmt, rJs, rLidx, kStrOwn, kAddC, rMut, kAdd, kI2, kI2n, kMul, kIx, kIn, kLen, kU, kA2, kDm, kStrI, kAll, kSl, kAppend, kExtend, kTuple, kList, lenT, seqOf, bYes, startT, one, pickG, selG, insOf, putT, flatT, Bool.false_xor, Bool.true_xor, List.all_cons, List.all_nil, Bool.and_self, T.int.injEq, T.bl.injEq, T.str.injEq, T.lst.injEq, T.tup.injEq, T.cell.injEq, T.ins.injEq, Cell.lst.injEq, Cell.ins.injEq, Prod.mk.injEq, List.cons.injEq, Option.some.injEq, List.map_cons, List.map_nil, List.length_cons, List.length_nil, List.cons_append, List.nil_append, List.append_nil, List.getElem?_cons_zero, List.getElem?_cons_succ, List.set_cons_zero, List.set_cons_succ, List.replicate_succ, List.replicate_zero, exists_eq_left, exists_eq_left', exists_and_left, and_true, true_and, and_self, and_assoc, Nat.sub_self, Nat.reduceAdd, Nat.reduceSub, Nat.zero_add, put_put, put_same, reduceIte, Bool.false_eq_true, Bool.true_eq_false, Bool.not_true, Bool.not_false, at_0, at_1, at_2, at_3, at_4, at_5, at_6, at_7, ix_1_0, ix_2_0, ix_2_1, ix_3_0, ix_3_1, ix_3_2, ix_4_0, ix_4_1, ix_4_2, ix_4_3]
        refine mk_tuG g.1 g.2 fun u hu => ?_
        simp only [put_drop hu]
        exact kk
    | ori p =>
      cases p with
      | false =>
        simp only [Wd.t]
        refine sSeq_i fun N hN => ?_
        simp only [sSeq, sAsg, sDrop, sRetN, sIf, sNext, sPar, sPar3, sFor, sRaise, sFldT, sNo, rNo, rVar, rFrz, rC, rBin, rTest, bAnd, bOr, bNot, bIf, vAnd, vOr, vNot, rIf, rNeg, aNil, aCons, rTup, rLst, rLstC, rArgs, gNameT, gNilT, gConsT, gTupT, gSubT, iSeq, iRng1T, iRng2T, rLc, rCall, rCallN, rCallS, rFld, rCon, rMake, rMakeN, rMakeP, rMeth, rMethK, rProp, rClsFn, rOpOwn, rSl, oNone, oSome, rFmt, kFmt, rJs, rLidx, kStrOwn, kAddC, rMut, kAdd, kI2, kI2n, kMul, kIx, kIn, kLen, kU, kA2, kDm, kStrI, kAll, kSl, kAppend, kExtend, kTuple, kList, lenT, seqOf, bYes, startT, one, pickG, selG, insOf, putT, flatT, Bool.false_xor, Bool.true_xor, List.all_cons, List.all_nil, Bool.and_self, T.int.injEq, T.bl.injEq, T.str.injEq, T.lst.injEq, T.tup.injEq, T.cell.injEq, T.ins.injEq, Cell.lst.injEq, Cell.ins.injEq, Prod.mk.injEq, List.cons.injEq, Option.some.injEq, List.map_cons, List.map_nil, List.length_cons, List.length_nil, List.cons_append, List.nil_append, List.append_nil, List.getElem?_cons_zero, List.getElem?_cons_succ, List.set_cons_zero, List.set_cons_succ, List.replicate_succ, List.replicate_zero, exists_eq_left, exists_eq_left', exists_and_left, and_true, true_and, and_self, and_assoc, Nat.sub_self, Nat.reduceAdd, Nat.reduceSub, Nat.zero_add, put_put, put_same, reduceIte, Bool.false_eq_true, Bool.true_eq_false, Bool.not_true, Bool.not_false, at_0, at_1, at_2, at_3, at_4, at_5, at_6, at_7, ix_1_0, ix_2_0, ix_2_1, ix_3_0, ix_3_1, ix_3_2, ix_4_0, ix_4_1, ix_4_2, ix_4_3]
        refine eqSt (v := false) (by decide +kernel) ⟨_, rfl, ?_⟩
        rw [if_neg (show ¬ (false ^^ false) = true by decide)]
        refine hN _ _ ?_
        refine sSeq_i fun N hN => ?_
        simp only [sSeq, sAsg, sDrop, sRetN, sIf, sNext, sPar, sPar3, sFor, sRaise, sFldT, sNo, rNo, rVar, rFrz, rC, rBin, rTest, bAnd, bOr, bNot, bIf, vAnd, vOr, vNot, rIf, rNeg, aNil, aCons, rTup, rLst, rLstC, rArgs, gNameT, gNilT, gConsT, gTupT, gSubT, iSeq, iRng1T, iRng2T, rLc, rCall, rCallN, rCallS, rFld, rCon, rMake, rMakeN, rMakeP, rMeth, rMethK, rProp, rClsFn, rOpOwn, rSl, oNone, oSome, rFmt, kFmt, rJs, rLidx, kStrOwn, kAddC, rMut, kAdd, kI2, kI2n, kMul, kIx, kIn, kLen, kU, kA2, kDm, kStrI, kAll, kSl, kAppend, kExtend, kTuple, kList, lenT, seqOf, bYes, startT, one, pickG, selG, insOf, putT, flatT, Bool.false_xor, Bool.true_xor, List.all_cons, List.all_nil, Bool.and_self, T.int.injEq, T.bl.injEq, T.str.injEq, T.lst.injEq, T.tup.injEq, T.cell.injEq, T.ins.injEq, Cell.lst.injEq, Cell.ins.injEq, Prod.mk.injEq, List.cons.injEq, Option.some.injEq, List.map_cons, List.map_nil, List.length_cons, List.length_nil, List.cons_append, List.nil_append, List.append_nil, List.getElem?_cons_zero, List.getElem?_cons_succ, List.set_cons_zero, List.set_cons_succ, List.replicate_succ, List.replicate_zero, exists_eq_left, exists_eq_left', exists_and_left, and_true, true_and, and_self, and_assoc, Nat.sub_self, Nat.reduceAdd, Nat.reduceSub, Nat.zero_add, put_put, put_same, reduceIte, Bool.false_eq_true, Bool.true_eq_false, Bool.not_true, Bool.not_false, at_0, at_1, at_2, at_3, at_4, at_5, at_6, at_7, ix_1_0, ix_2_0, ix_2_1, ix_3_0, ix_3_1, ix_3_2, ix_4_0, ix_4_1, ix_4_2, ix_4_3]
        refine eqSt (v := false) (by decide +kernel) ⟨_, rfl, ?_⟩
        rw [if_neg (show ¬ (false ^^ false) = true by decide)]
        refine hN _ _ ?_
        refine sSeq_i fun N hN => ?_
        simp only [sSeq, sAsg, sDrop, sRetN, sIf, sNext, sPar, sPar3, sFor, sRaise, sFldT, sNo, rNo, rVar, rFrz, rC, rBin, rTest, bAnd, bOr, bNot, bIf, vAnd, vOr, vNot, rIf, rNeg, aNil, aCons, rTup, rLst, rLstC, rArgs, gNameT, gNilT, gConsT, gTupT, gSubT, iSeq, iRng1T, iRng2T, rLc, rCall, rCallN, rCallS, rFld, rCon, rMake, rMakeN, rMakeP, rMeth, rMethK, rProp, rClsFn, rOpOwn, rSl, oNone, oSome, rFmt, kFmt, rJs, rLidx, kStrOwn, kAddC, rMut, kAdd, kI2, kI2n, kMul, kIx, kIn, kLen, kU, kA2, kDm, kStrI, kAll, kSl, kAppend, kExtend, kTuple, kList, lenT, seqOf, bYes, startT, one, pickG, selG, insOf, putT, flatT, Bool.false_xor, Bool.true_xor, List.all_cons, List.all_nil, Bool.and_self, T.int.injEq, T.bl.injEq, T.str.injEq, T.lst.injEq, T.tup.injEq, T.cell.injEq, T.ins.injEq, Cell.lst.injEq, Cell.ins.injEq, Prod.mk.injEq, List.cons.injEq, Option.some.injEq, List.map_cons, List.map_nil, List.length_cons, List.length_nil, List.cons_append, List.nil_append, List.append_nil, List.getElem?_cons_zero, List.getElem?_cons_succ, List.set_cons_zero, List.set_cons_succ, List.replicate_succ, List.replicate_zero, exists_eq_left, exists_eq_left', exists_and_left, and_true, true_and, and_self, and_assoc, Nat.sub_self, Nat.reduceAdd, Nat.reduceSub, Nat.zero_add, put_put, put_same, reduceIte, Bool.false_eq_true, Bool.true_eq_false, Bool.not_true, Bool.not_false, at_0, at_1, at_2, at_3, at_4, at_5, at_6, at_7, ix_1_0, ix_2_0, ix_2_1, ix_3_0, ix_3_1, ix_3_2, ix_4_0, ix_4_1, ix_4_2, ix_4_3]
        refine eqSt (v := false) (by decide +kernel) ⟨_, rfl, ?_⟩
        rw [if_neg (show ¬ (false ^^ false) = true by decide)]
        refine hN _ _ ?_
        refine sSeq_i fun N hN => ?_
        simp only [sSeq, sAsg, sDrop, sRetN, sIf, sNext, sPar, sPar3, sFor, sRaise, sFldT, sNo, rNo, rVar, rFrz, rC, rBin, rTest, bAnd, bOr, bNot, bIf, vAnd, vOr, vNot, rIf, rNeg, aNil, aCons, rTup, rLst, rLstC, rArgs, gNameT, gNilT, gConsT, gTupT, gSubT, iSeq, iRng1T, iRng2T, rLc, rCall, rCallN, rCallS, rFld, rCon, rMake, rMakeN, rMakeP, rMeth, rMethK, rProp, rClsFn, rOpOwn, rSl, oNone, oSome, rFmt, kFmt, rJs, rLidx, kStrOwn, kAddC, rMut, kAdd, kI2, kI2n, kMul, kIx, kIn, kLen, kU, kA2, kDm, kStrI, kAll, kSl, kAppend, kExtend, kTuple, kList, lenT, seqOf, bYes, startT, one, pickG, selG, insOf, putT, flatT, Bool.false_xor, Bool.true_xor, List.all_cons, List.all_nil, Bool.and_self, T.int.injEq, T.bl.injEq, T.str.injEq, T.lst.injEq, T.tup.injEq, T.cell.injEq, T.ins.injEq, Cell.lst.injEq, Cell.ins.injEq, Prod.mk.injEq, List.cons.injEq, Option.some.injEq, List.map_cons, List.map_nil, List.length_cons, List.length_nil, List.cons_append, List.nil_append, List.append_nil, List.getElem?_cons_zero, List.getElem?_cons_succ, List.set_cons_zero, List.set_cons_succ, List.replicate_succ, List.replicate_zero, exists_eq_left, exists_eq_left', exists_and_left, and_true, true_and, and_self, and_assoc, Nat.sub_self, Nat.reduceAdd, Nat.reduceSub, Nat.zero_add, put_put, put_same, reduceIte, Bool.false_eq_true, Bool.true_eq_false, Bool.not_true, Bool.not_false, at_0, at_1, at_2, at_3, at_4, at_5, at_6, at_7, ix_1_0, ix_2_0, ix_2_1, ix_3_0, ix_3_1, ix_3_2, ix_4_0, ix_4_1, ix_4_2, ix_4_3]
        refine eqSt (v := false) (by decide +kernel) ⟨_, rfl, ?_⟩
        rw [if_neg (show ¬ (false ^^ false) = true by decide)]
        refine hN _ _ ?_
        refine sSeq_i fun N hN => ?_
        simp only [sSeq, sAsg, sDrop, sRetN, sIf, sNext, sPar, sPar3, sFor, sRaise, sFldT, sNo, rNo, rVar, rFrz, rC, rBin, rTest, bAnd, bOr, bNot, bIf, vAnd, vOr, vNot, rIf, rNeg, aNil, aCons, rTup, rLst, rLstC, rArgs, gNameT, gNilT, gConsT, gTupT, gSubT, iSeq, iRng1T, iRng2T, rLc, rCall, rCallN, rCallS, rFld, rCon, rMake, rMakeN, rMakeP, rMeth, rMethK, rProp, rClsFn, rOpOwn, rSl, oNone, oSome, rFmt, kFmt, rJs, rLidx, kStrOwn, kAddC, rMut, kAdd, kI2, kI2n, kMul, kIx, kIn, kLen, kU, kA2, kDm, kStrI, kAll, kSl, kAppend, kExtend, kTuple, kList, lenT, seqOf, bYes, startT, one, pickG, selG, insOf, putT, flatT, Bool.false_xor, Bool.true_xor, List.all_cons, List.all_nil, Bool.and_self, T.int.injEq, T.bl.injEq, T.str.injEq, T.lst.injEq, T.tup.injEq, T.cell.injEq, T.ins.injEq, Cell.lst.injEq, Cell.ins.injEq, Prod.mk.injEq, List.cons.injEq, Option.some.injEq, List.map_cons, List.map_nil, List.length_cons, List.length_nil, List.cons_append, List.nil_append, List.append_nil, List.getElem?_cons_zero, List.getElem?_cons_succ, List.set_cons_zero, List.set_cons_succ, List.replicate_succ, List.replicate_zero, exists_eq_left, exists_eq_left', exists_and_left, and_true, true_and, and_self, and_assoc, Nat.sub_self, Nat.reduceAdd, Nat.reduceSub, Nat.zero_add, put_put, put_same, reduceIte, Bool.false_eq_true, Bool.true_eq_false, Bool.not_true, Bool.not_false, at_0, at_1, at_2, at_3, at_4, at_5, at_6, at_7, ix_1_0, ix_2_0, ix_2_1, ix_3_0, ix_3_1, ix_3_2, ix_4_0, ix_4_1, ix_4_2, ix_4_3]
        refine eqSt (v := false) (by decide +kernel) ⟨_, rfl, ?_⟩
        rw [if_neg (show ¬ (false ^^ false) = true by decide)]
        refine hN _ _ ?_
        simp only [sSeq, sAsg, sDrop, sRet, sRetN, sIf, sNext, sPar, sPar3, sFor, sRaise, sFldT, sNo, rNo, rVar, rFrz, rC, rBin, rTest, bAnd, bOr, bNot, bIf, vAnd, vOr, vNot, rIf, rNeg, aNil, aCons, rTup, rLst, rLstC, rArgs, gNameT, gNilT, gConsT, gTupT, gSubT, iSeq, iRng1T, iRng2T, rLc, rCall, rCallN, rCallS, rFld, rCon, rMake, rMakeN, rMakeP, rMeth, rMethK, rProp, rClsFn, rOpOwn, rSl, oNone, oSome, rFmt, kFmt, rJs, rLidx, kStrOwn, kAddC, rMut, kAdd, kI2, kI2n, kMul, kIx, kIn, kLen, kU, kA2, kDm, kStrI, kAll, kSl, kAppend, kExtend, kTuple, kList, lenT, seqOf, bYes, startT, one, pickG, selG, insOf, putT, flatT, Bool.false_xor, Bool.true_xor, List.all_cons, List.all_nil, Bool.and_self, T.int.injEq, T.bl.injEq, T.str.injEq, T.lst.injEq, T.tup.injEq, T.cell.injEq, T.ins.injEq, Cell.lst.injEq, Cell.ins.injEq, Prod.mk.injEq, List.cons.injEq, Option.some.injEq, List.map_cons, List.map_nil, List.length_cons, List.length_nil, List.cons_append, List.nil_append, List.append_nil, List.getElem?_cons_zero, List.getElem?_cons_succ, List.set_cons_zero, List.set_cons_succ, List.replicate_succ, List.replicate_zero, exists_eq_left, exists_eq_left', exists_and_left, and_true, true_and, and_self, and_assoc, Nat.sub_self, Nat.reduceAdd, Nat.reduceSub, Nat.zero_add, put_put, put_same, reduceIte, Bool.false_eq_true, Bool.true_eq_false, Bool.not_true, Bool.not_false, at_0, at_1, at_2, at_3, at_4, at_5, at_6, at_7, ix_1_0, ix_2_0, ix_2_1, ix_3_0, ix_3_1, ix_3_2, ix_4_0, ix_4_1, ix_4_2, ix_4_3]
        refine eqSt (v := true) (by decide +kernel) ⟨_, rfl, ?_⟩
        rw [if_pos (show (false ^^ true) = true by decide)]
        exact ⟨by decide, q⟩
      | true =>
        simp only [Wd.t]
        refine sSeq_i fun N hN => ?_
        simp only [sSeq, sAsg, sDrop, sRetN, sIf, sNext, sPar, sPar3, sFor, sRaise, sFldT, sNo, rNo, rVar, rFrz, rC, rBin, rTest, bAnd, bOr, bNot, bIf, vAnd, vOr, vNot, rIf, rNeg, aNil, aCons, rTup, rLst, rLstC, rArgs, gNameT, gNilT, gConsT, gTupT, gSubT, iSeq, iRng1T, iRng2T, rLc, rCall, rCallN, rCallS, rFld, rCon, rMake, rMakeN, rMakeP, rMeth, rMethK, rProp, rClsFn, rOpOwn, rSl, oNone, oSome, rFmt, kFmt, rJs, rLidx, kStrOwn, kAddC, rMut, kAdd, kI2, kI2n, kMul, kIx, kIn, kLen, kU, kA2, kDm, kStrI, kAll, kSl, kAppend, kExtend, kTuple, kList, lenT, seqOf, bYes, startT, one, pickG, selG, insOf, putT, flatT, Bool.false_xor, Bool.true_xor, List.all_cons, List.all_nil, Bool.and_self, T.int.injEq, T.bl.injEq, T.str.injEq, T.lst.injEq, T.tup.injEq, T.cell.injEq, T.ins.injEq, Cell.lst.injEq, Cell.ins.injEq, Prod.mk.injEq, List.cons.injEq, Option.some.injEq, List.map_cons, List.map_nil, List.length_cons, List.length_nil, List.cons_append, List.nil_append, List.append_nil, List.getElem?_cons_zero, List.getElem?_cons_succ, List.set_cons_zero, List.set_cons_succ, List.replicate_succ, List.replicate_zero, exists_eq_left, exists_eq_left', exists_and_left, and_true, true_and, and_self, and_assoc, Nat.sub_self, Nat.reduceAdd, Nat.reduceSub, Nat.zero_add, put_put, put_same, reduceIte, Bool.false_eq_true, Bool.true_eq_false, Bool.not_true, Bool.not_false, at_0, at_1, at_2, at_3, at_4, at_5, at_6, at_7, ix_1_0, ix_2_0, ix_2_1, ix_3_0, ix_3_1, ix_3_2, ix_4_0, ix_4_1, ix_4_2, ix_4_3]
        refine eqSt (v := false) (by decide +kernel) ⟨_, rfl, ?_⟩
        rw [if_neg (show ¬ (false ^^ false) = true by decide)]
        refine hN _ _ ?_
        refine sSeq_i fun N hN => ?_
        simp only [sSeq, sAsg, sDrop, sRetN, sIf, sNext, sPar, sPar3, sFor, sRaise, sFldT, sNo, rNo, rVar, rFrz, rC, rBin, rTest, bAnd, bOr, bNot, bIf, vAnd, vOr, vNot, rIf, rNeg, aNil, aCons, rTup, rLst, rLstC, rArgs, gNameT, gNilT, gConsT, gTupT, gSubT, iSeq, iRng1T, iRng2T, rLc, rCall, rCallN, rCallS, rFld, rCon, rMake, rMakeN, rMakeP, rMeth, rMethK, rProp, rClsFn, rOpOwn, rSl, oNone, oSome, rFmt, kFmt, rJs, rLidx, kStrOwn, kAddC, rMut, kAdd, kI2, kI2n, kMul, kIx, kIn, kLen, kU, kA2, kDm, kStrI, kAll, kSl, kAppend, kExtend, kTuple, kList, lenT, seqOf, bYes, startT, one, pickG, selG, insOf, putT, flatT, Bool.false_xor, Bool.true_xor, List.all_cons, List.all_nil, Bool.and_self, T.int.injEq, T.bl.injEq, T.str.injEq, T.lst.injEq, T.tup.injEq, T.cell.injEq, T.ins.injEq, Cell.lst.injEq, Cell.ins.injEq, Prod.mk.injEq, List.cons.injEq, Option.some.injEq, List.map_cons, List.map_nil, List.length_cons, List.length_nil, List.cons_append, List.nil_append, List.append_nil, List.getElem?_cons_zero, List.getElem?_cons_succ, List.set_cons_zero, List.set_cons_succ, List.replicate_succ, List.replicate_zero, exists_eq_left, exists_eq_left', exists_and_left, and_true, true_and, and_self, and_assoc, Nat.sub_self, Nat.reduceAdd, Nat.reduceSub, Nat.zero_add, put_put, put_same, reduceIte, Bool.false_eq_true, Bool.true_eq_false, Bool.not_true, Bool.not_false, at_0, at_1, at_2, at_3, at_4, at_5, at_6, at_7, ix_1_0, ix_2_0, ix_2_1, ix_3_0, ix_3_1, ix_3_2, ix_4_0, ix_4_1, ix_4_2, ix_4_3]
        refine eqSt (v := false) (by decide +kernel) ⟨_, rfl, ?_⟩
        rw [if_neg (show ¬ (false ^^ false) = true by decide)]
        refine hN _ _ ?_
        refine sSeq_i fun N hN => ?_
        simp only [sSeq, sAsg, sDrop, sRetN, sIf, sNext, sPar, sPar3, sFor, sRaise, sFldT, sNo, rNo, rVar, rFrz, rC, rBin, rTest, bAnd, bOr, bNot, bIf, vAnd, vOr, vNot, rIf, rNeg, aNil, aCons, rTup, rLst, rLstC, rArgs, gNameT, gNilT, gConsT, gTupT, gSubT, iSeq, iRng1T, iRng2T, rLc, rCall, rCallN, rCallS, rFld, rCon, rMake, rMakeN, rMakeP, rMeth, rMethK, rProp, rClsFn, rOpOwn, rSl, oNone, oSome, rFmt, kFmt, rJs, rLidx, kStrOwn, kAddC, rMut, kAdd, kI2, kI2n, kMul, kIx, kIn, kLen, kU, kA2, kDm, kStrI, kAll, kSl, kAppend, kExtend, kTuple, kList, lenT, seqOf, bYes, startT, one, pickG, selG, insOf, putT, flatT, Bool.false_xor, Bool.true_xor, List.all_cons, List.all_nil, Bool.and_self, T.int.injEq, T.bl.injEq, T.str.injEq, T.lst.injEq, T.tup.injEq, T.cell.injEq, T.ins.injEq, Cell.lst.injEq, Cell.ins.injEq, Prod.mk.injEq, List.cons.injEq, Option.some.injEq, List.map_cons, List.map_nil, List.length_cons, List.length_nil, List.cons_append, List.nil_append, List.append_nil, List.getElem?_cons_zero, List.getElem?_cons_succ, List.set_cons_zero, List.set_cons_succ, List.replicate_succ, List.replicate_zero, exists_eq_left, exists_eq_left', exists_and_left, and_true, true_and, and_self, and_assoc, Nat.sub_self, Nat.reduceAdd, Nat.reduceSub, Nat.zero_add, put_put, put_same, reduceIte, Bool.false_eq_true, Bool.true_eq_false, Bool.not_true, Bool.not_false, at_0, at_1, at_2, at_3, at_4, at_5, at_6, at_7, ix_1_0, ix_2_0, ix_2_1, ix_3_0, ix_3_1, ix_3_2, ix_4_0, ix_4_1, ix_4_2, ix_4_3]
        refine eqSt (v := false) (by decide +kernel) ⟨_, rfl, ?_⟩
        rw [if_neg (show ¬ (false ^^ false) = true by decide)]
        refine hN _ _ ?_
        refine sSeq_i fun N hN => ?_
        simp only [sSeq, sAsg, sDrop, sRetN, sIf, sNext, sPar, sPar3, sFor, sRaise, sFldT, sNo, rNo, rVar, rFrz, rC, rBin, rTest, bAnd, bOr, bNot, bIf, vAnd, vOr, vNot, rIf, rNeg, aNil, aCons, rTup, rLst, rLstC, rArgs, gNameT, gNilT, gConsT, gTupT, gSubT, iSeq, iRng1T, iRng2T, rLc, rCall, rCallN, rCallS, rFld, rCon, rMake, rMakeN, rMakeP, rMeth, rMethK, rProp, rClsFn, rOpOwn, rSl, oNone, oSome, rFmt, kFmt, rJs, rLidx, kStrOwn, kAddC, rMut, kAdd, kI2, kI2n, kMul, kIx, kIn, kLen, kU, kA2, kDm, kStrI, kAll, kSl, kAppend, kExtend, kTuple, kList, lenT, seqOf, bYes, startT, one, pickG, selG, insOf, putT, flatT, Bool.false_xor, Bool.true_xor, List.all_cons, List.all_nil, Bool.and_self, T.int.injEq, T.bl.injEq, T.str.injEq, T.lst.injEq, T.tup.injEq, T.cell.injEq, T.ins.injEq, Cell.lst.injEq, Cell.ins.injEq, Prod.mk.injEq, List.cons.injEq, Option.some.injEq, List.map_cons, List.map_nil, List.length_cons, List.length_nil, List.cons_append, List.nil_append, List.append_nil, List.getElem?_cons_zero, List.getElem?_cons_succ, List.set_cons_zero, List.set_cons_succ, List.replicate_succ, List.replicate_zero, exists_eq_left, exists_eq_left', exists_and_left, and_true, true_and, and_self, and_assoc, Nat.sub_self, Nat.reduceAdd, Nat.reduceSub, Nat.zero_add, put_put, put_same, reduceIte, Bool.false_eq_true, Bool.true_eq_false, Bool.not_true, Bool.not_false, at_0, at_1, at_2, at_3, at_4, at_5, at_6, at_7, ix_1_0, ix_2_0, ix_2_1, ix_3_0, ix_3_1, ix_3_2, ix_4_0, ix_4_1, ix_4_2, ix_4_3]
        refine eqSt (v := false) (by decide +kernel) ⟨_, rfl, ?_⟩
        rw [if_neg (show ¬ (false ^^ false) = true by decide)]
        refine hN _ _ ?_
        refine sSeq_i fun N hN => ?_
        simp only [sSeq, sAsg, sDrop, sRetN, sIf, sNext, sPar, sPar3, sFor, sRaise, sFldT, sNo, rNo, rVar, rFrz, rC, rBin, rTest, bAnd, bOr, bNot, bIf, vAnd, vOr, vNot, rIf, rNeg, aNil, aCons, rTup, rLst, rLstC, rArgs, gNameT, gNilT, gConsT, gTupT, gSubT, iSeq, iRng1T, iRng2T, rLc, rCall, rCallN, rCallS, rFld, rCon, rMake, rMakeN, rMakeP, rMeth, rMethK, rProp, rClsFn, rOpOwn, rSl, oNone, oSome, rFmt, kFmt, rJs, rLidx, kStrOwn, kAddC, rMut, kAdd, kI2, kI2n, kMul, kIx, kIn, kLen, kU, kA2, kDm, kStrI, kAll, kSl, kAppend, kExtend, kTuple, kList, lenT, seqOf, bYes, startT, one, pickG, selG, insOf, putT, flatT, Bool.false_xor, Bool.true_xor, List.all_cons, List.all_nil, Bool.and_self, T.int.injEq, T.bl.injEq, T.str.injEq, T.lst.injEq, T.tup.injEq, T.cell.injEq, T.ins.injEq, Cell.lst.injEq, Cell.ins.injEq, Prod.mk.injEq, List.cons.injEq, Option.some.injEq, List.map_cons, List.map_nil, List.length_cons, List.length_nil, List.cons_append, List.nil_append, List.append_nil, List.getElem?_cons_zero, List.getElem?_cons_succ, List.set_cons_zero, List.set_cons_succ, List.replicate_succ, List.replicate_zero, exists_eq_left, exists_eq_left', exists_and_left, and_true, true_and, and_self, and_assoc, Nat.sub_self, Nat.reduceAdd, Nat.reduceSub, Nat.zero_add, put_put, put_same, reduceIte, Bool.false_eq_true, Bool.true_eq_false, Bool.not_true, Bool.not_false, at_0, at_1, at_2, at_3, at_4, at_5, at_6, at_7, ix_1_0, ix_2_0, ix_2_1, ix_3_0, ix_3_1, ix_3_2, ix_4_0, ix_4_1, ix_4_2, ix_4_3]
        refine eqSt (v := false) (by decide +kernel) ⟨_, rfl, ?_⟩
        rw [if_neg (show ¬ (false ^^ false) = true by decide)]
        refine hN _ _ ?_
        simp only [sSeq, sAsg, sDrop, sRet, sRetN, sIf, sNext, sPar, sPar3, sFor, sRaise, sFldT, sNo, rNo, rVar, rFrz, rC, rBin, rTest, bAnd, bOr, bNot, bIf, vAnd, vOr, vNot, rIf, rNeg, aNil, aCons, rTup, rLst, rLstC, rArgs, gNameT, gNilT, gConsT, gTupT, gSubT, iSeq, iRng1T, iRng2T, rLc, rCall, rCallN, rCallS, rFld, rCon, rMake, rMakeN, rMakeP, rMeth, rMethK, rProp, rClsFn, rOpOwn, rSl, oNone, oSome, rFmt, kFmt, rJs, rLidx, kStrOwn, kAddC, rMut, kAdd, kI2, kI2n, kMul, kIx, kIn, kLen, kU, kA2, kDm, kStrI, kAll, kSl, kAppend, kExtend, kTuple, kList, lenT, seqOf, bYes, startT, one, pickG, selG, insOf, putT, flatT, Bool.false_xor, Bool.true_xor, List.all_cons, List.all_nil, Bool.and_self, T.int.injEq, T.bl.injEq, T.str.injEq, T.lst.injEq, T.tup.injEq, T.cell.injEq, T.ins.injEq, Cell.lst.injEq, Cell.ins.injEq, Prod.mk.injEq, List.cons.injEq, Option.some.injEq, List.map_cons, List.map_nil, List.length_cons, List.length_nil, List.cons_append, List.nil_append, List.append_nil, List.getElem?_cons_zero, List.getElem?_cons_succ, List.set_cons_zero, List.set_cons_succ, List.replicate_succ, List.replicate_zero, exists_eq_left, exists_eq_left', exists_and_left, and_true, true_and, and_self, and_assoc, Nat.sub_self, Nat.reduceAdd, Nat.reduceSub, Nat.zero_add, put_put, put_same, reduceIte, Bool.false_eq_true, Bool.true_eq_false, Bool.not_true, Bool.not_false, at_0, at_1, at_2, at_3, at_4, at_5, at_6, at_7, ix_1_0, ix_2_0, ix_2_1, ix_3_0, ix_3_1, ix_3_2, ix_4_0, ix_4_1, ix_4_2, ix_4_3]
        refine eqSt (v := false) (by decide +kernel) ⟨_, rfl, ?_⟩
        rw [if_neg (show ¬ (false ^^ false) = true by decide)]
        exact ⟨by decide, q⟩
  · exact h.elim
def Wd.ix : Wd → Nat
  | .sc g _ _ _ => if g = true then 1 else 0
  | .cr t _ _ _ => if t = true then 3 else 2
  | .tu _ => 4
  | .ori p => if p = true then 6 else 5
def Wd.cls (d : Wd) : List Bool := [d.ix == 0, d.ix == 1, d.ix == 2, d.ix == 3, d.ix == 4, d.ix == 5, d.ix == 6, decide (d.ix < 2), d.ix == 2 || d.ix == 3, true]
/-- what isinstance says of a step -/
structure KTb (K : PySem.W.Frag) (C : Addr) (D : Addr) (b : Bool) : Prop where
  is_ : InsC K C
  kt : PySem.W.kitOne K (.ref C) (.ref D) = some b
theorem isi_st {K : PySem.W.Frag} {C D : Addr} {gs : List (Str × T)} {b : Bool} (h : InsC K C) (kt : PySem.W.kitOne K (.ref C) (.ref D) = some b) {S : Store} {R : T → Store → Prop} {RE : XT} (q : R (.bl b) S) : kIsi K [.ins C gs, .st D] S R RE :=
  ⟨_, _, .ref C, .ref D, b, rfl, .st D, .ins h, kt, q⟩
theorem sc_l_classes : FnScope ["_law_made", "_law_found"] ["_law_made"] (defScope s_l_classes) := ⟨rfl, rfl, rfl, by decide +kernel, rfl, by decide +kernel, by decide +kernel⟩
def sp_l_classes (CS CG CW CH CT CL CP : Addr) : SpT := fun ts S R _ => match ts with
  | [x] => ∃ d : Wd, d.good ∧ x = d.st CS CG CW CH CT CL CP ∧ R (.lst (d.cls.map T.bl)) S
  | _ => False
set_option maxHeartbeats 6400000 in
theorem ok_l_classes {P : Program} {w : World} {K : PySem.W.Frag} {mg : Str → Option Value} {base : Heap} {f : Addr} {fd : FuncData} {C_Step C_Crop C_Scaling C_Portrait C_Landscape C_Turn C_CropHeight C_CropWidth C_Grow C_Shrink : Addr}  (F : Fun K "_law_classes" "_law_classes" s_l_classes f fd)
    (n_isinstance : mg "isinstance" = none)
    (m_Step : mg "Step" = some (.ref C_Step))
    (m_Crop : mg "Crop" = some (.ref C_Crop))
    (m_Scaling : mg "Scaling" = some (.ref C_Scaling))
    (m_Portrait : mg "Portrait" = some (.ref C_Portrait))
    (m_Landscape : mg "Landscape" = some (.ref C_Landscape))
    (m_Turn : mg "Turn" = some (.ref C_Turn))
    (m_CropHeight : mg "CropHeight" = some (.ref C_CropHeight))
    (m_CropWidth : mg "CropWidth" = some (.ref C_CropWidth))
    (m_Grow : mg "Grow" = some (.ref C_Grow))
    (m_Shrink : mg "Shrink" = some (.ref C_Shrink))
    (is_Shrink : InsC K C_Shrink)
    (kt_Shrink_Shrink : PySem.W.kitOne K (.ref C_Shrink) (.ref C_Shrink) = some true)
    (kt_Shrink_Grow : PySem.W.kitOne K (.ref C_Shrink) (.ref C_Grow) = some false)
    (kt_Shrink_CropWidth : PySem.W.kitOne K (.ref C_Shrink) (.ref C_CropWidth) = some false)
    (kt_Shrink_CropHeight : PySem.W.kitOne K (.ref C_Shrink) (.ref C_CropHeight) = some false)
    (kt_Shrink_Turn : PySem.W.kitOne K (.ref C_Shrink) (.ref C_Turn) = some false)
    (kt_Shrink_Landscape : PySem.W.kitOne K (.ref C_Shrink) (.ref C_Landscape) = some false)
    (kt_Shrink_Portrait : PySem.W.kitOne K (.ref C_Shrink) (.ref C_Portrait) = some false)
    (kt_Shrink_Scaling : PySem.W.kitOne K (.ref C_Shrink) (.ref C_Scaling) = some true)
    (kt_Shrink_Crop : PySem.W.kitOne K (.ref C_Shrink) (.ref C_Crop) = some false)
    (kt_Shrink_Step : PySem.W.kitOne K (.ref C_Shrink) (.ref C_Step) = some true)
    (is_Grow : InsC K C_Grow)
    (kt_Grow_Shrink : PySem.W.kitOne K (.ref C_Grow) (.ref C_Shrink) = some false)
    (kt_Grow_Grow : PySem.W.kitOne K (.ref C_Grow) (.ref C_Grow) = some true)
    (kt_Grow_CropWidth : PySem.W.kitOne K (.ref C_Grow) (.ref C_CropWidth) = some false)
    (kt_Grow_CropHeight : PySem.W.kitOne K (.ref C_Grow) (.ref C_CropHeight) = some false)
    (kt_Grow_Turn : PySem.W.kitOne K (.ref C_Grow) (.ref C_Turn) = some false)
    (kt_Grow_Landscape : PySem.W.kitOne K (.ref C_Grow) (.ref C_Landscape) = some false)
    (kt_Grow_Portrait : PySem.W.kitOne K (.ref C_Grow) (.ref C_Portrait) = some false)
    (kt_Grow_Scaling : PySem.W.kitOne K (.ref C_Grow) (.ref C_Scaling) = some true)
    (kt_Grow_Crop : PySem.W.kitOne K (.ref C_Grow) (.ref C_Crop) = some false)
    (kt_Grow_Step : PySem.W.kitOne K (.ref C_Grow) (.ref C_Step) = some true)
    (is_CropWidth : InsC K C_CropWidth)
    (kt_CropWidth_Shrink : PySem.W.kitOne K (.ref C_CropWidth) (.ref C_Shrink) = some false)
    (kt_CropWidth_Grow : PySem.W.kitOne K (.ref C_CropWidth) (.ref C_Grow) = some false)
    (kt_CropWidth_CropWidth : PySem.W.kitOne K (.ref C_CropWidth) (.ref C_CropWidth) = some true)
    (kt_CropWidth_CropHeight : PySem.W.kitOne K (.ref C_CropWidth) (.ref C_CropHeight) = some false)
    (kt_CropWidth_Turn : PySem.W.kitOne K (.ref C_CropWidth) (.ref C_Turn) = some false)
    (kt_CropWidth_Landscape : PySem.W.kitOne K (.ref C_CropWidth) (.ref C_Landscape) = some false)
    (kt_CropWidth_Portrait : PySem.W.kitOne K (.ref C_CropWidth) (.ref C_Portrait) = some false)
    (kt_CropWidth_Scaling : PySem.W.kitOne K (.ref C_CropWidth) (.ref C_Scaling) = some false)
    (kt_CropWidth_Crop : PySem.W.kitOne K (.ref C_CropWidth) (.ref C_Crop) = some true)
    (kt_CropWidth_Step : PySem.W.kitOne K (.ref C_CropWidth) (.ref C_Step) = some true)
    (is_CropHeight : InsC K C_CropHeight)
    (kt_CropHeight_Shrink : PySem.W.kitOne K (.ref C_CropHeight) (.ref C_Shrink) = some false)
    (kt_CropHeight_Grow : PySem.W.kitOne K (.ref C_CropHeight) (.ref C_Grow) = some false)
    (kt_CropHeight_CropWidth : PySem.W.kitOne K (.ref C_CropHeight) (.ref C_CropWidth) = some false)
    (kt_CropHeight_CropHeight : PySem.W.kitOne K (.ref C_CropHeight) (.ref C_CropHeight) = some true)
    (kt_CropHeight_Turn : PySem.W.kitOne K (.ref C_CropHeight) (.ref C_Turn) = some false)
    (kt_CropHeight_Landscape : PySem.W.kitOne K (.ref C_CropHeight) (.ref C_Landscape) = some false)
    (kt_CropHeight_Portrait : PySem.W.kitOne K (.ref C_CropHeight) (.ref C_Portrait) = some false)
    (kt_CropHeight_Scaling : PySem.W.kitOne K (.ref C_CropHeight) (.ref C_Scaling) = some false)
    (kt_CropHeight_Crop : PySem.W.kitOne K (.ref C_CropHeight) (.ref C_Crop) = some true)
    (kt_CropHeight_Step : PySem.W.kitOne K (.ref C_CropHeight) (.ref C_Step) = some true)
    (is_Turn : InsC K C_Turn)
    (kt_Turn_Shrink : PySem.W.kitOne K (.ref C_Turn) (.ref C_Shrink) = some false)
    (kt_Turn_Grow : PySem.W.kitOne K (.ref C_Turn) (.ref C_Grow) = some false)
    (kt_Turn_CropWidth : PySem.W.kitOne K (.ref C_Turn) (.ref C_CropWidth) = some false)
    (kt_Turn_CropHeight : PySem.W.kitOne K (.ref C_Turn) (.ref C_CropHeight) = some false)
    (kt_Turn_Turn : PySem.W.kitOne K (.ref C_Turn) (.ref C_Turn) = some true)
    (kt_Turn_Landscape : PySem.W.kitOne K (.ref C_Turn) (.ref C_Landscape) = some false)
    (kt_Turn_Portrait : PySem.W.kitOne K (.ref C_Turn) (.ref C_Portrait) = some false)
    (kt_Turn_Scaling : PySem.W.kitOne K (.ref C_Turn) (.ref C_Scaling) = some false)
    (kt_Turn_Crop : PySem.W.kitOne K (.ref C_Turn) (.ref C_Crop) = some false)
    (kt_Turn_Step : PySem.W.kitOne K (.ref C_Turn) (.ref C_Step) = some true)
    (is_Landscape : InsC K C_Landscape)
    (kt_Landscape_Shrink : PySem.W.kitOne K (.ref C_Landscape) (.ref C_Shrink) = some false)
    (kt_Landscape_Grow : PySem.W.kitOne K (.ref C_Landscape) (.ref C_Grow) = some false)
    (kt_Landscape_CropWidth : PySem.W.kitOne K (.ref C_Landscape) (.ref C_CropWidth) = some false)
    (kt_Landscape_CropHeight : PySem.W.kitOne K (.ref C_Landscape) (.ref C_CropHeight) = some false)
    (kt_Landscape_Turn : PySem.W.kitOne K (.ref C_Landscape) (.ref C_Turn) = some false)
    (kt_Landscape_Landscape : PySem.W.kitOne K (.ref C_Landscape) (.ref C_Landscape) = some true)
    (kt_Landscape_Portrait : PySem.W.kitOne K (.ref C_Landscape) (.ref C_Portrait) = some false)
    (kt_Landscape_Scaling : PySem.W.kitOne K (.ref C_Landscape) (.ref C_Scaling) = some false)
    (kt_Landscape_Crop : PySem.W.kitOne K (.ref C_Landscape) (.ref C_Crop) = some false)
    (kt_Landscape_Step : PySem.W.kitOne K (.ref C_Landscape) (.ref C_Step) = some true)
    (is_Portrait : InsC K C_Portrait)
    (kt_Portrait_Shrink : PySem.W.kitOne K (.ref C_Portrait) (.ref C_Shrink) = some false)
    (kt_Portrait_Grow : PySem.W.kitOne K (.ref C_Portrait) (.ref C_Grow) = some false)
    (kt_Portrait_CropWidth : PySem.W.kitOne K (.ref C_Portrait) (.ref C_CropWidth) = some false)
    (kt_Portrait_CropHeight : PySem.W.kitOne K (.ref C_Portrait) (.ref C_CropHeight) = some false)
    (kt_Portrait_Turn : PySem.W.kitOne K (.ref C_Portrait) (.ref C_Turn) = some false)
    (kt_Portrait_Landscape : PySem.W.kitOne K (.ref C_Portrait) (.ref C_Landscape) = some false)
    (kt_Portrait_Portrait : PySem.W.kitOne K (.ref C_Portrait) (.ref C_Portrait) = some true)
    (kt_Portrait_Scaling : PySem.W.kitOne K (.ref C_Portrait) (.ref C_Scaling) = some false)
    (kt_Portrait_Crop : PySem.W.kitOne K (.ref C_Portrait) (.ref C_Crop) = some false)
    (kt_Portrait_Step : PySem.W.kitOne K (.ref C_Portrait) (.ref C_Step) = some true)
    : FnT P w K mg base 1 f fd ["_law_made"] (sp_l_classes C_Shrink C_Grow C_CropWidth C_CropHeight C_Turn C_Landscape C_Portrait) := by
  refine okT F sc_l_classes (by intro ts S R RE h; unfold sp_l_classes at h; split at h <;> first | rfl | exact h.elim) (fun cdv A out s H E hg hr => (bs_cons (ss_set (i := 1) sc_l_classes.nd rfl (by first | exact Or.inl rfl | exact Or.inr rfl) (et_lst (at_cons (et_blt call_isi (cv_isi (K := K)) (by rfl) n_isinstance PyProof.Rows.boot_isinstance (at_cons (et_var (pv 0)) (at_cons (et_glob (by rfl) m_Shrink) at_nil))) (at_cons (et_blt call_isi (cv_isi (K := K)) (by rfl) n_isinstance PyProof.Rows.boot_isinstance (at_cons (et_var (pv 0)) (at_cons (et_glob (by rfl) m_Grow) at_nil))) (at_cons (et_blt call_isi (cv_isi (K := K)) (by rfl) n_isinstance PyProof.Rows.boot_isinstance (at_cons (et_var (pv 0)) (at_cons (et_glob (by rfl) m_CropWidth) at_nil))) at_nil)))))
    (bs_cons (ss_set (i := 1) sc_l_classes.nd rfl (by first | exact Or.inl rfl | exact Or.inr rfl) (et_op op_cat cv_addC (et_var (pv 1)) (et_lst (at_cons (et_blt call_isi (cv_isi (K := K)) (by rfl) n_isinstance PyProof.Rows.boot_isinstance (at_cons (et_var (pv 0)) (at_cons (et_glob (by rfl) m_CropHeight) at_nil))) (at_cons (et_blt call_isi (cv_isi (K := K)) (by rfl) n_isinstance PyProof.Rows.boot_isinstance (at_cons (et_var (pv 0)) (at_cons (et_glob (by rfl) m_Turn) at_nil))) (at_cons (et_blt call_isi (cv_isi (K := K)) (by rfl) n_isinstance PyProof.Rows.boot_isinstance (at_cons (et_var (pv 0)) (at_cons (et_glob (by rfl) m_Landscape) at_nil))) at_nil))))))
    (bs_cons (ss_expr (et_mut PySem.F.slot_list_append PySem.F.type_list_append mt_append cv_append (et_var (pv 1)) (at_cons (et_blt call_isi (cv_isi (K := K)) (by rfl) n_isinstance PyProof.Rows.boot_isinstance (at_cons (et_var (pv 0)) (at_cons (et_glob (by rfl) m_Portrait) at_nil))) at_nil)))
    (bs_one (ss_ret (et_op op_addG cv_add (et_frz (pv 1)) (et_lst (at_cons (et_blt call_isi (cv_isi (K := K)) (by rfl) n_isinstance PyProof.Rows.boot_isinstance (at_cons (et_var (pv 0)) (at_cons (et_glob (by rfl) m_Scaling) at_nil))) (at_cons (et_blt call_isi (cv_isi (K := K)) (by rfl) n_isinstance PyProof.Rows.boot_isinstance (at_cons (et_var (pv 0)) (at_cons (et_glob (by rfl) m_Crop) at_nil))) (at_cons (et_blt call_isi (cv_isi (K := K)) (by rfl) n_isinstance PyProof.Rows.boot_isinstance (at_cons (et_var (pv 0)) (at_cons (et_glob (by rfl) m_Step) at_nil))) at_nil))))))))))) ?_
  intro ts S R RE h
  unfold sp_l_classes at h
  split at h
  · rename_i x
    obtain ⟨d, g, rfl, q⟩ := h
    cases d with
    | sc b w h c =>
      cases b with
      | false =>
        simp only [Wd.st, scC]
        refine sSeq_i fun N hN => ?_
        simp only [sSeq, sAsg, sDrop, sRet, sRetN, sIf, sNext, sPar, sPar3, sFor, sRaise, sFldT, sNo, rNo, rVar, rFrz, rC, rBin, rTest, bAnd, bOr, bNot, bIf, vAnd, vOr, vNot, rIf, rNeg, aNil, aCons, rTup, rLst, rLstC, rArgs, gNameT, gNilT, gConsT, gTupT, gSubT, iSeq, iRng1T, iRng2T, rLc, rCall, rCallN, rCallS, rFld, rCon, rMake, rMakeN, rMakeP, rMeth, rMethK, rProp, rClsFn, rOpOwn, rSl, oNone, oSome, rFmt, kFmt, rJs, rLidx, kStrOwn, kAddC, rMut, kAdd, kI2, kI2n, kMul, kIx, kIn, kLen, kU, kA2, kDm, kStrI, kAll, kSl, kAppend, kExtend, kTuple, kList, lenT, seqOf, bYes, startT, one, pickG, selG, insOf, putT, flatT, Bool.false_xor, Bool.true_xor, List.all_cons, List.all_nil, Bool.and_self, T.int.injEq, T.bl.injEq, T.str.injEq, T.lst.injEq, T.tup.injEq, T.cell.injEq, T.ins.injEq, Cell.lst.injEq, Cell.ins.injEq, Prod.mk.injEq, List.cons.injEq, Option.some.injEq, List.map_cons, List.map_nil, List.length_cons, List.length_nil, List.cons_append, List.nil_append, List.append_nil, List.getElem?_cons_zero, List.getElem?_cons_succ, List.set_cons_zero, List.set_cons_succ, List.replicate_succ, List.replicate_zero, exists_eq_left, exists_eq_left', exists_and_left, and_true, true_and, and_self, and_assoc, Nat.sub_self, Nat.reduceAdd, Nat.reduceSub, Nat.zero_add, put_put, put_same, reduceIte, Bool.false_eq_true, Bool.true_eq_false, Bool.not_true, Bool.not_false, at_0, at_1, at_2, at_3, at_4, at_5, at_6, at_7, ix_1_0, ix_2_0, ix_2_1, ix_3_0, ix_3_1, ix_3_2, ix_4_0, ix_4_1, ix_4_2, ix_4_3]
        refine isi_st is_Shrink kt_Shrink_Shrink (isi_st is_Shrink kt_Shrink_Grow (isi_st is_Shrink kt_Shrink_CropWidth ⟨by decide, hN _ _ ?_⟩))
        refine sSeq_i fun N hN => ?_
        simp only [sSeq, sAsg, sDrop, sRet, sRetN, sIf, sNext, sPar, sPar3, sFor, sRaise, sFldT, sNo, rNo, rVar, rFrz, rC, rBin, rTest, bAnd, bOr, bNot, bIf, vAnd, vOr, vNot, rIf, rNeg, aNil, aCons, rTup, rLst, rLstC, rArgs, gNameT, gNilT, gConsT, gTupT, gSubT, iSeq, iRng1T, iRng2T, rLc, rCall, rCallN, rCallS, rFld, rCon, rMake, rMakeN, rMakeP, rMeth, rMethK, rProp, rClsFn, rOpOwn, rSl, oNone, oSome, rFmt, kFmt, rJs, rLidx, kStrOwn, kAddC, rMut, kAdd, kI2, kI2n, kMul, kIx, kIn, kLen, kU, kA2, kDm, kStrI, kAll, kSl, kAppend, kExtend, kTuple, kList, lenT, seqOf, bYes, startT, one, pickG, selG, insOf, putT, flatT, Bool.false_xor, Bool.true_xor, List.all_cons, List.all_nil, Bool.and_self, T.int.injEq, T.bl.injEq, T.str.injEq, T.lst.injEq, T.tup.injEq, T.cell.injEq, T.ins.injEq, Cell.lst.injEq, Cell.ins.injEq, Prod.mk.injEq, List.cons.injEq, Option.some.injEq, List.map_cons, List.map_nil, List.length_cons, List.length_nil, List.cons_append, List.nil_append, List.append_nil, List.getElem?_cons_zero, List.getElem?_cons_succ, List.set_cons_zero, List.set_cons_succ, List.replicate_succ, List.replicate_zero, exists_eq_left, exists_eq_left', exists_and_left, and_true, true_and, and_self, and_assoc, Nat.sub_self, Nat.reduceAdd, Nat.reduceSub, Nat.zero_add, put_put, put_same, reduceIte, Bool.false_eq_true, Bool.true_eq_false, Bool.not_true, Bool.not_false, at_0, at_1, at_2, at_3, at_4, at_5, at_6, at_7, ix_1_0, ix_2_0, ix_2_1, ix_3_0, ix_3_1, ix_3_2, ix_4_0, ix_4_1, ix_4_2, ix_4_3]
        refine isi_st is_Shrink kt_Shrink_CropHeight (isi_st is_Shrink kt_Shrink_Turn (isi_st is_Shrink kt_Shrink_Landscape ⟨by decide, by decide, fun p hp => hN _ _ ?_⟩))
        refine sSeq_i fun N hN => ?_
        simp only [put_same, sSeq, sAsg, sDrop, sRet, sRetN, sIf, sNext, sPar, sPar3, sFor, sRaise, sFldT, sNo, rNo, rVar, rFrz, rC, rBin, rTest, bAnd, bOr, bNot, bIf, vAnd, vOr, vNot, rIf, rNeg, aNil, aCons, rTup, rLst, rLstC, rArgs, gNameT, gNilT, gConsT, gTupT, gSubT, iSeq, iRng1T, iRng2T, rLc, rCall, rCallN, rCallS, rFld, rCon, rMake, rMakeN, rMakeP, rMeth, rMethK, rProp, rClsFn, rOpOwn, rSl, oNone, oSome, rFmt, kFmt, rJs, rLidx, kStrOwn, kAddC, rMut, kAdd, kI2, kI2n, kMul, kIx, kIn, kLen, kU, kA2, kDm, kStrI, kAll, kSl, kAppend, kExtend, kTuple, kList, lenT, seqOf, bYes, startT, one, pickG, selG, insOf, putT, flatT, Bool.false_xor, Bool.true_xor, List.all_cons, List.all_nil, Bool.and_self, T.int.injEq, T.bl.injEq, T.str.injEq, T.lst.injEq, T.tup.injEq, T.cell.injEq, T.ins.injEq, Cell.lst.injEq, Cell.ins.injEq, Prod.mk.injEq, List.cons.injEq, Option.some.injEq, List.map_cons, List.map_nil, List.length_cons, List.length_nil, List.cons_append, List.nil_append, List.append_nil, List.getElem?_cons_zero, List.getElem?_cons_succ, List.set_cons_zero, List.set_cons_succ, List.replicate_succ, List.replicate_zero, exists_eq_left, exists_eq_left', exists_and_left, and_true, true_and, and_self, and_assoc, Nat.sub_self, Nat.reduceAdd, Nat.reduceSub, Nat.zero_add, put_put, put_same, reduceIte, Bool.false_eq_true, Bool.true_eq_false, Bool.not_true, Bool.not_false, at_0, at_1, at_2, at_3, at_4, at_5, at_6, at_7, ix_1_0, ix_2_0, ix_2_1, ix_3_0, ix_3_1, ix_3_2, ix_4_0, ix_4_1, ix_4_2, ix_4_3]
        refine ⟨⟨_, rfl⟩, isi_st is_Shrink kt_Shrink_Portrait ⟨_, put_same, by decide, ?_⟩⟩
        refine hN _ _ ?_
        simp only [put_same, put_put, put_drop hp, sSeq, sAsg, sDrop, sRet, sRetN, sIf, sNext, sPar, sPar3, sFor, sRaise, sFldT, sNo, rNo, rVar, rFrz, rC, rBin, rTest, bAnd, bOr, bNot, bIf, vAnd, vOr, vNot, rIf, rNeg, aNil, aCons, rTup, rLst, rLstC, rArgs, gNameT, gNilT, gConsT, gTupT, gSubT, iSeq, iRng1T, iRng2T, rLc, rCall, rCallN, rCallS, rFld, rCon, rMake, rMakeN, rMakeP, rMeth, rMethK, rProp, rClsFn, rOpOwn, rSl, oNone, oSome, rFmt, kFmt, rJs, rLidx, kStrOwn, kAddC, rMut, kAdd, kI2, kI2n, kMul, kIx, kIn, kLen, kU, kA2, kDm, kStrI, kAll, kSl, kAppend, kExtend, kTuple, kList, lenT, seqOf, bYes, startT, one, pickG, selG, insOf, putT, flatT, Bool.false_xor, Bool.true_xor, List.all_cons, List.all_nil, Bool.and_self, T.int.injEq, T.bl.injEq, T.str.injEq, T.lst.injEq, T.tup.injEq, T.cell.injEq, T.ins.injEq, Cell.lst.injEq, Cell.ins.injEq, Prod.mk.injEq, List.cons.injEq, Option.some.injEq, List.map_cons, List.map_nil, List.length_cons, List.length_nil, List.cons_append, List.nil_append, List.append_nil, List.getElem?_cons_zero, List.getElem?_cons_succ, List.set_cons_zero, List.set_cons_succ, List.replicate_succ, List.replicate_zero, exists_eq_left, exists_eq_left', exists_and_left, and_true, true_and, and_self, and_assoc, Nat.sub_self, Nat.reduceAdd, Nat.reduceSub, Nat.zero_add, put_put, put_same, reduceIte, Bool.false_eq_true, Bool.true_eq_false, Bool.not_true, Bool.not_false, at_0, at_1, at_2, at_3, at_4, at_5, at_6, at_7, ix_1_0, ix_2_0, ix_2_1, ix_3_0, ix_3_1, ix_3_2, ix_4_0, ix_4_1, ix_4_2, ix_4_3]
        refine isi_st is_Shrink kt_Shrink_Scaling (isi_st is_Shrink kt_Shrink_Crop (isi_st is_Shrink kt_Shrink_Step ⟨by decide, by decide, ?_⟩))
        exact q
      | true =>
        simp only [Wd.st, scC]
        refine sSeq_i fun N hN => ?_
        simp only [sSeq, sAsg, sDrop, sRet, sRetN, sIf, sNext, sPar, sPar3, sFor, sRaise, sFldT, sNo, rNo, rVar, rFrz, rC, rBin, rTest, bAnd, bOr, bNot, bIf, vAnd, vOr, vNot, rIf, rNeg, aNil, aCons, rTup, rLst, rLstC, rArgs, gNameT, gNilT, gConsT, gTupT, gSubT, iSeq, iRng1T, iRng2T, rLc, rCall, rCallN, rCallS, rFld, rCon, rMake, rMakeN, rMakeP, rMeth, rMethK, rProp, rClsFn, rOpOwn, rSl, oNone, oSome, rFmt, kFmt, rJs, rLidx, kStrOwn, kAddC, rMut, kAdd, kI2, kI2n, kMul, kIx, kIn, kLen, kU, kA2, kDm, kStrI, kAll, kSl, kAppend, kExtend, kTuple, kList, lenT, seqOf, bYes, startT, one, pickG, selG, insOf, putT, flatT, Bool.false_xor, Bool.true_xor, List.all_cons, List.all_nil, Bool.and_self, T.int.injEq, T.bl.injEq, T.str.injEq, T.lst.injEq, T.tup.injEq, T.cell.injEq, T.ins.injEq, Cell.lst.injEq, Cell.ins.injEq, Prod.mk.injEq, List.cons.injEq, Option.some.injEq, List.map_cons, List.map_nil, List.length_cons, List.length_nil, List.cons_append, List.nil_append, List.append_nil, List.getElem?_cons_zero, List.getElem?_cons_succ, List.set_cons_zero, List.set_cons_succ, List.replicate_succ, List.replicate_zero, exists_eq_left, exists_eq_left', exists_and_left, and_true, true_and, and_self, and_assoc, Nat.sub_self, Nat.reduceAdd, Nat.reduceSub, Nat.zero_add, put_put, put_same, reduceIte, Bool.false_eq_true, Bool.true_eq_false, Bool.not_true, Bool.not_false, at_0, at_1, at_2, at_3, at_4, at_5, at_6, at_7, ix_1_0, ix_2_0, ix_2_1, ix_3_0, ix_3_1, ix_3_2, ix_4_0, ix_4_1, ix_4_2, ix_4_3]
        refine isi_st is_Grow kt_Grow_Shrink (isi_st is_Grow kt_Grow_Grow (isi_st is_Grow kt_Grow_CropWidth ⟨by decide, hN _ _ ?_⟩))
        refine sSeq_i fun N hN => ?_
        simp only [sSeq, sAsg, sDrop, sRet, sRetN, sIf, sNext, sPar, sPar3, sFor, sRaise, sFldT, sNo, rNo, rVar, rFrz, rC, rBin, rTest, bAnd, bOr, bNot, bIf, vAnd, vOr, vNot, rIf, rNeg, aNil, aCons, rTup, rLst, rLstC, rArgs, gNameT, gNilT, gConsT, gTupT, gSubT, iSeq, iRng1T, iRng2T, rLc, rCall, rCallN, rCallS, rFld, rCon, rMake, rMakeN, rMakeP, rMeth, rMethK, rProp, rClsFn, rOpOwn, rSl, oNone, oSome, rFmt, kFmt, rJs, rLidx, kStrOwn, kAddC, rMut, kAdd, kI2, kI2n, kMul, kIx, kIn, kLen, kU, kA2, kDm, kStrI, kAll, kSl, kAppend, kExtend, kTuple, kList, lenT, seqOf, bYes, startT, one, pickG, selG, insOf, putT, flatT, Bool.false_xor, Bool.true_xor, List.all_cons, List.all_nil, Bool.and_self, T.int.injEq, T.bl.injEq, T.str.injEq, T.lst.injEq, T.tup.injEq, T.cell.injEq, T.ins.injEq, Cell.lst.injEq, Cell.ins.injEq, Prod.mk.injEq, List.cons.injEq, Option.some.injEq, List.map_cons, List.map_nil, List.length_cons, List.length_nil, List.cons_append, List.nil_append, List.append_nil, List.getElem?_cons_zero, List.getElem?_cons_succ, List.set_cons_zero, List.set_cons_succ, List.replicate_succ, List.replicate_zero, exists_eq_left, exists_eq_left', exists_and_left, and_true, true_and, and_self, and_assoc, Nat.sub_self, Nat.reduceAdd, Nat.reduceSub, Nat.zero_add, put_put, put_same, reduceIte, Bool.false_eq_true, Bool.true_eq_false, Bool.not_true, Bool.not_false, at_0, at_1, at_2, at_3, at_4, at_5, at_6, at_7, ix_1_0, ix_2_0, ix_2_1, ix_3_0, ix_3_1, ix_3_2, ix_4_0, ix_4_1, ix_4_2, ix_4_3]
        refine isi_st is_Grow kt_Grow_CropHeight (isi_st is_Grow kt_Grow_Turn (isi_st is_Grow kt_Grow_Landscape ⟨by decide, by decide, fun p hp => hN _ _ ?_⟩))
        refine sSeq_i fun N hN => ?_
        simp only [put_same, sSeq, sAsg, sDrop, sRet, sRetN, sIf, sNext, sPar, sPar3, sFor, sRaise, sFldT, sNo, rNo, rVar, rFrz, rC, rBin, rTest, bAnd, bOr, bNot, bIf, vAnd, vOr, vNot, rIf, rNeg, aNil, aCons, rTup, rLst, rLstC, rArgs, gNameT, gNilT, gConsT, gTupT, gSubT, iSeq, iRng1T, iRng2T, rLc, rCall, rCallN, rCallS, rFld, rCon, rMake, rMakeN, rMakeP, rMeth, rMethK, rProp, rClsFn, rOpOwn, rSl, oNone, oSome, rFmt, kFmt, rJs, rLidx, kStrOwn, kAddC, rMut, kAdd, kI2, kI2n, kMul, kIx, kIn, kLen, kU, kA2, kDm, kStrI, kAll, kSl, kAppend, kExtend, kTuple, kList, lenT, seqOf, bYes, startT, one, pickG, selG, insOf, putT, flatT, Bool.false_xor, Bool.true_xor, List.all_cons, List.all_nil, Bool.and_self, T.int.injEq, T.bl.injEq, T.str.injEq, T.lst.injEq, T.tup.injEq, T.cell.injEq, T.ins.injEq, Cell.lst.injEq, Cell.ins.injEq, Prod.mk.injEq, List.cons.injEq, Option.some.injEq, List.map_cons, List.map_nil, List.length_cons, List.length_nil, List.cons_append, List.nil_append, List.append_nil, List.getElem?_cons_zero, List.getElem?_cons_succ, List.set_cons_zero, List.set_cons_succ, List.replicate_succ, List.replicate_zero, exists_eq_left, exists_eq_left', exists_and_left, and_true, true_and, and_self, and_assoc, Nat.sub_self, Nat.reduceAdd, Nat.reduceSub, Nat.zero_add, put_put, put_same, reduceIte, Bool.false_eq_true, Bool.true_eq_false, Bool.not_true, Bool.not_false, at_0, at_1, at_2, at_3, at_4, at_5, at_6, at_7, ix_1_0, ix_2_0, ix_2_1, ix_3_0, ix_3_1, ix_3_2, ix_4_0, ix_4_1, ix_4_2, ix_4_3]
        refine ⟨⟨_, rfl⟩, isi_st is_Grow kt_Grow_Portrait ⟨_, put_same, by decide, ?_⟩⟩
        refine hN _ _ ?_
        simp only [put_same, put_put, put_drop hp, sSeq, sAsg, sDrop, sRet, sRetN, sIf, sNext, sPar, sPar3, sFor, sRaise, sFldT, sNo, rNo, rVar, rFrz, rC, rBin, rTest, bAnd, bOr, bNot, bIf, vAnd, vOr, vNot, rIf, rNeg, aNil, aCons, rTup, rLst, rLstC, rArgs, gNameT, gNilT, gConsT, gTupT, gSubT, iSeq, iRng1T, iRng2T, rLc, rCall, rCallN, rCallS, rFld, rCon, rMake, rMakeN, rMakeP, rMeth, rMethK, rProp, rClsFn, rOpOwn, rSl, oNone, oSome, rFmt, kFmt, rJs, rLidx, kStrOwn, kAddC, rMut, kAdd, kI2, kI2n, kMul, kIx, kIn, kLen, kU, kA2, kDm, kStrI, kAll, kSl, kAppend, kExtend, kTuple, kList, lenT, seqOf, bYes, startT, one, pickG, selG, insOf, putT, flatT, Bool.false_xor, Bool.true_xor, List.all_cons, List.all_nil, Bool.and_self, T.int.injEq, T.bl.injEq, T.str.injEq, T.lst.injEq, T.tup.injEq, T.cell.injEq, T.ins.injEq, Cell.lst.injEq, Cell.ins.injEq, Prod.mk.injEq, List.cons.injEq, Option.some.injEq, List.map_cons, List.map_nil, List.length_cons, List.length_nil, List.cons_append, List.nil_append, List.append_nil, List.getElem?_cons_zero, List.getElem?_cons_succ, List.set_cons_zero, List.set_cons_succ, List.replicate_succ, List.replicate_zero, exists_eq_left, exists_eq_left', exists_and_left, and_true, true_and, and_self, and_assoc, Nat.sub_self, Nat.reduceAdd, Nat.reduceSub, Nat.zero_add, put_put, put_same, reduceIte, Bool.false_eq_true, Bool.true_eq_false, Bool.not_true, Bool.not_false, at_0, at_1, at_2, at_3, at_4, at_5, at_6, at_7, ix_1_0, ix_2_0, ix_2_1, ix_3_0, ix_3_1, ix_3_2, ix_4_0, ix_4_1, ix_4_2, ix_4_3]
        refine isi_st is_Grow kt_Grow_Scaling (isi_st is_Grow kt_Grow_Crop (isi_st is_Grow kt_Grow_Step ⟨by decide, by decide, ?_⟩))
        exact q
    | cr t w h k =>
      cases t with
      | false =>
        simp only [Wd.st]
        refine sSeq_i fun N hN => ?_
        simp only [sSeq, sAsg, sDrop, sRet, sRetN, sIf, sNext, sPar, sPar3, sFor, sRaise, sFldT, sNo, rNo, rVar, rFrz, rC, rBin, rTest, bAnd, bOr, bNot, bIf, vAnd, vOr, vNot, rIf, rNeg, aNil, aCons, rTup, rLst, rLstC, rArgs, gNameT, gNilT, gConsT, gTupT, gSubT, iSeq, iRng1T, iRng2T, rLc, rCall, rCallN, rCallS, rFld, rCon, rMake, rMakeN, rMakeP, rMeth, rMethK, rProp, rClsFn, rOpOwn, rSl, oNone, oSome, rFmt, kFmt, rJs, rLidx, kStrOwn, kAddC, rMut, kAdd, kI2, kI2n, kMul, kIx, kIn, kLen, kU, kA2, kDm, kStrI, kAll, kSl, kAppend, kExtend, kTuple, kList, lenT, seqOf, bYes, startT, one, pickG, selG, insOf, putT, flatT, Bool.false_xor, Bool.true_xor, List.all_cons, List.all_nil, Bool.and_self, T.int.injEq, T.bl.injEq, T.str.injEq, T.lst.injEq, T.tup.injEq, T.cell.injEq, T.ins.injEq, Cell.lst.injEq, Cell.ins.injEq, Prod.mk.injEq, List.cons.injEq, Option.some.injEq, List.map_cons, List.map_nil, List.length_cons, List.length_nil, List.cons_append, List.nil_append, List.append_nil, List.getElem?_cons_zero, List.getElem?_cons_succ, List.set_cons_zero, List.set_cons_succ, List.replicate_succ, List.replicate_zero, exists_eq_left, exists_eq_left', exists_and_left, and_true, true_and, and_self, and_assoc, Nat.sub_self, Nat.reduceAdd, Nat.reduceSub, Nat.zero_add, put_put, put_same, reduceIte, Bool.false_eq_true, Bool.true_eq_false, Bool.not_true, Bool.not_false, at_0, at_1, at_2, at_3, at_4, at_5, at_6, at_7, ix_1_0, ix_2_0, ix_2_1, ix_3_0, ix_3_1, ix_3_2, ix_4_0, ix_4_1, ix_4_2, ix_4_3]
        refine isi_st is_CropWidth kt_CropWidth_Shrink (isi_st is_CropWidth kt_CropWidth_Grow (isi_st is_CropWidth kt_CropWidth_CropWidth ⟨by decide, hN _ _ ?_⟩))
        refine sSeq_i fun N hN => ?_
        simp only [sSeq, sAsg, sDrop, sRet, sRetN, sIf, sNext, sPar, sPar3, sFor, sRaise, sFldT, sNo, rNo, rVar, rFrz, rC, rBin, rTest, bAnd, bOr, bNot, bIf, vAnd, vOr, vNot, rIf, rNeg, aNil, aCons, rTup, rLst, rLstC, rArgs, gNameT, gNilT, gConsT, gTupT, gSubT, iSeq, iRng1T, iRng2T, rLc, rCall, rCallN, rCallS, rFld, rCon, rMake, rMakeN, rMakeP, rMeth, rMethK, rProp, rClsFn, rOpOwn, rSl, oNone, oSome, rFmt, kFmt, rJs, rLidx, kStrOwn, kAddC, rMut, kAdd, kI2, kI2n, kMul, kIx, kIn, kLen, kU, kA2, kDm, kStrI, kAll, kSl, kAppend, kExtend, kTuple, kList, lenT, seqOf, bYes, startT, one, pickG, selG, insOf, putT, flatT, Bool.false_xor, Bool.true_xor, List.all_cons, List.all_nil, Bool.and_self, T.int.injEq, T.bl.injEq, T.str.injEq, T.lst.injEq, T.tup.injEq, T.cell.injEq, T.ins.injEq, Cell.lst.injEq, Cell.ins.injEq, Prod.mk.injEq, List.cons.injEq, Option.some.injEq, List.map_cons, List.map_nil, List.length_cons, List.length_nil, List.cons_append, List.nil_append, List.append_nil, List.getElem?_cons_zero, List.getElem?_cons_succ, List.set_cons_zero, List.set_cons_succ, List.replicate_succ, List.replicate_zero, exists_eq_left, exists_eq_left', exists_and_left, and_true, true_and, and_self, and_assoc, Nat.sub_self, Nat.reduceAdd, Nat.reduceSub, Nat.zero_add, put_put, put_same, reduceIte, Bool.false_eq_true, Bool.true_eq_false, Bool.not_true, Bool.not_false, at_0, at_1, at_2, at_3, at_4, at_5, at_6, at_7, ix_1_0, ix_2_0, ix_2_1, ix_3_0, ix_3_1, ix_3_2, ix_4_0, ix_4_1, ix_4_2, ix_4_3]
        refine isi_st is_CropWidth kt_CropWidth_CropHeight (isi_st is_CropWidth kt_CropWidth_Turn (isi_st is_CropWidth kt_CropWidth_Landscape ⟨by decide, by decide, fun p hp => hN _ _ ?_⟩))
        refine sSeq_i fun N hN => ?_
        simp only [put_same, sSeq, sAsg, sDrop, sRet, sRetN, sIf, sNext, sPar, sPar3, sFor, sRaise, sFldT, sNo, rNo, rVar, rFrz, rC, rBin, rTest, bAnd, bOr, bNot, bIf, vAnd, vOr, vNot, rIf, rNeg, aNil, aCons, rTup, rLst, rLstC, rArgs, gNameT, gNilT, gConsT, gTupT, gSubT, iSeq, iRng1T, iRng2T, rLc, rCall, rCallN, rCallS, rFld, rCon, rMake, rMakeN, rMakeP, rMeth, rMethK, rProp, rClsFn, rOpOwn, rSl, oNone, oSome, rFmt, kFmt, rJs, rLidx, kStrOwn, kAddC, rMut, kAdd, kI2, kI2n, kMul, kIx, kIn, kLen, kU, kA2, kDm, kStrI, kAll, kSl, kAppend, kExtend, kTuple, kList, lenT, seqOf, bYes, startT, one, pickG, selG, insOf, putT, flatT, Bool.false_xor, Bool.true_xor, List.all_cons, List.all_nil, Bool.and_self, T.int.injEq, T.bl.injEq, T.str.injEq, T.lst.injEq, T.tup.injEq, T.cell.injEq, T.ins.injEq, Cell.lst.injEq, Cell.ins.injEq, Prod.mk.injEq, List.cons.injEq, Option.some.injEq, List.map_cons, List.map_nil, List.length_cons, List.length_nil, List.cons_append, List.nil_append, List.append_nil, List.getElem?_cons_zero, List.getElem?_cons_succ, List.set_cons_zero, List.set_cons_succ, List.replicate_succ, List.replicate_zero, exists_eq_left, exists_eq_left', exists_and_left, and_true, true_and, and_self, and_assoc, Nat.sub_self, Nat.reduceAdd, Nat.reduceSub, Nat.zero_add, put_put, put_same, reduceIte, Bool.false_eq_true, Bool.true_eq_false, Bool.not_true, Bool.not_false, at_0, at_1, at_2, at_3, at_4, at_5, at_6, at_7, ix_1_0, ix_2_0, ix_2_1, ix_3_0, ix_3_1, ix_3_2, ix_4_0, ix_4_1, ix_4_2, ix_4_3]
        refine ⟨⟨_, rfl⟩, isi_st is_CropWidth kt_CropWidth_Portrait ⟨_, put_same, by decide, ?_⟩⟩
        refine hN _ _ ?_
        simp only [put_same, put_put, put_drop hp, sSeq, sAsg, sDrop, sRet, sRetN, sIf, sNext, sPar, sPar3, sFor, sRaise, sFldT, sNo, rNo, rVar, rFrz, rC, rBin, rTest, bAnd, bOr, bNot, bIf, vAnd, vOr, vNot, rIf, rNeg, aNil, aCons, rTup, rLst, rLstC, rArgs, gNameT, gNilT, gConsT, gTupT, gSubT, iSeq, iRng1T, iRng2T, rLc, rCall, rCallN, rCallS, rFld, rCon, rMake, rMakeN, rMakeP, rMeth, rMethK, rProp, rClsFn, rOpOwn, rSl, oNone, oSome, rFmt, kFmt, rJs, rLidx, kStrOwn, kAddC, rMut, kAdd, kI2, kI2n, kMul, kIx, kIn, kLen, kU, kA2, kDm, kStrI, kAll, kSl, kAppend, kExtend, kTuple, kList, lenT, seqOf, bYes, startT, one, pickG, selG, insOf, putT, flatT, Bool.false_xor, Bool.true_xor, List.all_cons, List.all_nil, Bool.and_self, T.int.injEq, T.bl.injEq, T.str.injEq, T.lst.injEq, T.tup.injEq, T.cell.injEq, T.ins.injEq, Cell.lst.injEq, Cell.ins.injEq, Prod.mk.injEq, List.cons.injEq, Option.some.injEq, List.map_cons, List.map_nil, List.length_cons, List.length_nil, List.cons_append, List.nil_append, List.append_nil, List.getElem?_cons_zero, List.getElem?_cons_succ, List.set_cons_zero, List.set_cons_succ, List.replicate_succ, List.replicate_zero, exists_eq_left, exists_eq_left', exists_and_left, and_true, true_and, and_self, and_assoc, Nat.sub_self, Nat.reduceAdd, Nat.reduceSub, Nat.zero_add, put_put, put_same, reduceIte, Bool.false_eq_true, Bool.true_eq_false, Bool.not_true, Bool.not_false, at_0, at_1, at_2, at_3, at_4, at_5, at_6, at_7, ix_1_0, ix_2_0, ix_2_1, ix_3_0, ix_3_1, ix_3_2, ix_4_0, ix_4_1, ix_4_2, ix_4_3]
        refine isi_st is_CropWidth kt_CropWidth_Scaling (isi_st is_CropWidth kt_CropWidth_Crop (isi_st is_CropWidth kt_CropWidth_Step ⟨by decide, by decide, ?_⟩))
        exact q
      | true =>
        simp only [Wd.st]
        refine sSeq_i fun N hN => ?_
        simp only [sSeq, sAsg, sDrop, sRet, sRetN, sIf, sNext, sPar, sPar3, sFor, sRaise, sFldT, sNo, rNo, rVar, rFrz, rC, rBin, rTest, bAnd, bOr, bNot, bIf, vAnd, vOr, vNot, rIf, rNeg, aNil, aCons, rTup, rLst, rLstC, rArgs, gNameT, gNilT, gConsT, gTupT, gSubT, iSeq, iRng1T, iRng2T, rLc, rCall, rCallN, rCallS, rFld, rCon, rMake, rMakeN, rMakeP, rMeth, rMethK, rProp, rClsFn, rOpOwn, rSl, oNone, oSome, rFmt, kFmt, rJs, rLidx, kStrOwn, kAddC, rMut, kAdd, kI2, kI2n, kMul, kIx, kIn, kLen, kU, kA2, kDm, kStrI, kAll, kSl, kAppend, kExtend, kTuple, kList, lenT, seqOf, bYes, startT, one, pickG, selG, insOf, putT, flatT, Bool.false_xor, Bool.true_xor, List.all_cons, List.all_nil, Bool.and_self, T.int.injEq, T.bl.injEq, T.str.injEq, T.lst.injEq, T.tup.injEq, T.cell.injEq, T.ins.injEq, Cell.lst.injEq, Cell.ins.injEq, Prod.mk.injEq, List.cons.injEq, Option.some.injEq, List.map_cons, List.map_nil, List.length_cons, List.length_nil, List.cons_append, List.nil_append, List.append_nil, List.getElem?_cons_zero, List.getElem?_cons_succ, List.set_cons_zero, List.set_cons_succ, List.replicate_succ, List.replicate_zero, exists_eq_left, exists_eq_left', exists_and_left, and_true, true_and, and_self, and_assoc, Nat.sub_self, Nat.reduceAdd, Nat.reduceSub, Nat.zero_add, put_put, put_same, reduceIte, Bool.false_eq_true, Bool.true_eq_false, Bool.not_true, Bool.not_false, at_0, at_1, at_2, at_3, at_4, at_5, at_6, at_7, ix_1_0, ix_2_0, ix_2_1, ix_3_0, ix_3_1, ix_3_2, ix_4_0, ix_4_1, ix_4_2, ix_4_3]
        refine isi_st is_CropHeight kt_CropHeight_Shrink (isi_st is_CropHeight kt_CropHeight_Grow (isi_st is_CropHeight kt_CropHeight_CropWidth ⟨by decide, hN _ _ ?_⟩))
        refine sSeq_i fun N hN => ?_
        simp only [sSeq, sAsg, sDrop, sRet, sRetN, sIf, sNext, sPar, sPar3, sFor, sRaise, sFldT, sNo, rNo, rVar, rFrz, rC, rBin, rTest, bAnd, bOr, bNot, bIf, vAnd, vOr, vNot, rIf, rNeg, aNil, aCons, rTup, rLst, rLstC, rArgs, gNameT, gNilT, gConsT, gTupT, gSubT, iSeq, iRng1T, iRng2T, rLc, rCall, rCallN, rCallS, rFld, rCon, rMake, rMakeN, rMakeP, rMeth, rMethK, rProp, rClsFn, rOpOwn, rSl, oNone, oSome, rFmt, kFmt, rJs, rLidx, kStrOwn, kAddC, rMut, kAdd, kI2, kI2n, kMul, kIx, kIn, kLen, kU, kA2, kDm, kStrI, kAll, kSl, kAppend, kExtend, kTuple, kList, lenT, seqOf, bYes, startT, one, pickG, selG, insOf, putT, flatT, Bool.false_xor, Bool.true_xor, List.all_cons, List.all_nil, Bool.and_self, T.int.injEq, T.bl.injEq, T.str.injEq, T.lst.injEq, T.tup.injEq, T.cell.injEq, T.ins.injEq, Cell.lst.injEq, Cell.ins.injEq, Prod.mk.injEq, List.cons.injEq, Option.some.injEq, List.map_cons, List.map_nil, List.length_cons, List.length_nil, List.cons_append, List.nil_append, List.append_nil, List.getElem?_cons_zero, List.getElem?_cons_succ, List.set_cons_zero, List.set_cons_succ, List.replicate_succ, List.replicate_zero, exists_eq_left, exists_eq_left', exists_and_left, and_true, true_and, and_self, and_assoc, Nat.sub_self, Nat.reduceAdd, Nat.reduceSub, Nat.zero_add, put_put, put_same, reduceIte, Bool.false_eq_true, Bool.true_eq_false, Bool.not_true, Bool.not_false, at_0, at_1, at_2, at_3, at_4, at_5, at_6, at_7, ix_1_0, ix_2_0, ix_2_1, ix_3_0, ix_3_1, ix_3_2, ix_4_0, ix_4_1, ix_4_2, ix_4_3]
        refine isi_st is_CropHeight kt_CropHeight_CropHeight (isi_st is_CropHeight kt_CropHeight_Turn (isi_st is_CropHeight kt_CropHeight_Landscape ⟨by decide, by decide, fun p hp => hN _ _ ?_⟩))
        refine sSeq_i fun N hN => ?_
        simp only [put_same, sSeq, sAsg, sDrop, sRet, sRetN, sIf, sNext, sPar, sPar3, sFor, sRaise, sFldT, sNo, rNo, rVar, rFrz, rC, rBin, rTest, bAnd, bOr, bNot, bIf, vAnd, vOr, vNot, rIf, rNeg, aNil, aCons, rTup, rLst, rLstC, rArgs, gNameT, gNilT, gConsT, gTupT, gSubT, iSeq, iRng1T, iRng2T, rLc, rCall, rCallN, rCallS, rFld, rCon, rMake, rMakeN, rMakeP, rMeth, rMethK, rProp, rClsFn, rOpOwn, rSl, oNone, oSome, rFmt, kFmt, rJs, rLidx, kStrOwn, kAddC, rMut, kAdd, kI2, kI2n, kMul, kIx, kIn, kLen, kU, kA2, kDm, kStrI, kAll, kSl, kAppend, kExtend, kTuple, kList, lenT, seqOf, bYes, startT, one, pickG, selG, insOf, putT, flatT, Bool.false_xor, Bool.true_xor, List.all_cons, List.all_nil, Bool.and_self, T.int.injEq, T.bl.injEq, T.str.injEq, T.lst.injEq, T.tup.injEq, T.cell.injEq, T.ins.injEq, Cell.lst.injEq, Cell.ins.injEq, Prod.mk.injEq, List.cons.injEq, Option.some.injEq, List.map_cons, List.map_nil, List.length_cons, List.length_nil, List.cons_append, List.nil_append, List.append_nil, List.getElem?_cons_zero, List.getElem?_cons_succ, List.set_cons_zero, List.set_cons_succ, List.replicate_succ, List.replicate_zero, exists_eq_left, exists_eq_left', exists_and_left, and_true, true_and, and_self, and_assoc, Nat.sub_self, Nat.reduceAdd, Nat.reduceSub, Nat.zero_add, put_put, put_same, reduceIte, Bool.false_eq_true, Bool.true_eq_false, Bool.not_true, Bool.not_false, at_0, at_1, at_2, at_3, at_4, at_5, at_6, at_7, ix_1_0, ix_2_0, ix_2_1, ix_3_0, ix_3_1, ix_3_2, ix_4_0, ix_4_1, ix_4_2, ix_4_3]
        refine ⟨⟨_, rfl⟩, isi_st is_CropHeight kt_CropHeight_Portrait ⟨_, put_same, by decide, ?_⟩⟩
        refine hN _ _ ?_
        simp only [put_same, put_put, put_drop hp, sSeq, sAsg, sDrop, sRet, sRetN, sIf, sNext, sPar, sPar3, sFor, sRaise, sFldT, sNo, rNo, rVar, rFrz, rC, rBin, rTest, bAnd, bOr, bNot, bIf, vAnd, vOr, vNot, rIf, rNeg, aNil, aCons, rTup, rLst, rLstC, rArgs, gNameT, gNilT, gConsT, gTupT, gSubT, iSeq, iRng1T, iRng2T, rLc, rCall, rCallN, rCallS, rFld, rCon, rMake, rMakeN, rMakeP, rMeth, rMethK, rProp, rClsFn, rOpOwn, rSl, oNone, oSome, rFmt, kFmt, rJs, rLidx, kStrOwn, kAddC, rMut, kAdd, kI2, kI2n, kMul, kIx, kIn, kLen, kU, kA2, kDm, kStrI, kAll, kSl, kAppend, kExtend, kTuple, kList, lenT, seqOf, bYes, startT, one, pickG, selG, insOf, putT, flatT, Bool.false_xor, Bool.true_xor, List.all_cons, List.all_nil, Bool.and_self, T.int.injEq, T.bl.injEq, T.str.injEq, T.lst.injEq, T.tup.injEq, T.cell.injEq, T.ins.injEq, Cell.lst.injEq, Cell.ins.injEq, Prod.mk.injEq, List.cons.injEq, Option.some.injEq, List.map_cons, List.map_nil, List.length_cons, List.length_nil, List.cons_append, List.nil_append, List.append_nil, List.getElem?_cons_zero, List.getElem?_cons_succ, List.set_cons_zero, List.set_cons_succ, List.replicate_succ, List.replicate_zero, exists_eq_left, exists_eq_left', exists_and_left, and_true, true_and, and_self, and_assoc, Nat.sub_self, Nat.reduceAdd, Nat.reduceSub, Nat.zero_add, put_put, put_same, reduceIte, Bool.false_eq_true, Bool.true_eq_false, Bool.not_true, Bool.not_false, at_0, at_1, at_2, at_3, at_4, at_5, at_6, at_7, ix_1_0, ix_2_0, ix_2_1, ix_3_0, ix_3_1, ix_3_2, ix_4_0, ix_4_1, ix_4_2, ix_4_3]
        refine isi_st is_CropHeight kt_CropHeight_Scaling (isi_st is_CropHeight kt_CropHeight_Crop (isi_st is_CropHeight kt_CropHeight_Step ⟨by decide, by decide, ?_⟩))
        exact q
    | tu n =>
      simp only [Wd.st]
      refine sSeq_i fun N hN => ?_
      simp only [sSeq, sAsg, sDrop, sRet, sRetN, sIf, sNext, sPar, sPar3, sFor, sRaise, sFldT, sNo, rNo, rVar, rFrz, rC, rBin, rTest, bAnd, bOr, bNot, bIf, vAnd, vOr, vNot, rIf, rNeg, aNil, aCons, rTup, rLst, rLstC, rArgs, gNameT, gNilT, gConsT, gTupT, gSubT, iSeq, iRng1T, iRng2T, rLc, rCall, rCallN, rCallS, rFld, rCon, rMake, rMakeN, rMakeP, rMeth, rMethK, rProp, rClsFn, rOpOwn, rSl, oNone, oSome, rFmt, kFmt, rJs, rLidx, kStrOwn, kAddC, rMut, kAdd, kI2, kI2n, kMul, kIx, kIn, kLen, kU, kA2, kDm, kStrI, kAll, kSl, kAppend, kExtend, kTuple, kList, lenT, seqOf, bYes, startT, one, pickG, selG, insOf, putT, flatT, Bool.false_xor, Bool.true_xor, List.all_cons, List.all_nil, Bool.and_self, T.int.injEq, T.bl.injEq, T.str.injEq, T.lst.injEq, T.tup.injEq, T.cell.injEq, T.ins.injEq, Cell.lst.injEq, Cell.ins.injEq, Prod.mk.injEq, List.cons.injEq, Option.some.injEq, List.map_cons, List.map_nil, List.length_cons, List.length_nil, List.cons_append, List.nil_append, List.append_nil, List.getElem?_cons_zero, List.getElem?_cons_succ, List.set_cons_zero, List.set_cons_succ, List.replicate_succ, List.replicate_zero, exists_eq_left, exists_eq_left', exists_and_left, and_true, true_and, and_self, and_assoc, Nat.sub_self, Nat.reduceAdd, Nat.reduceSub, Nat.zero_add, put_put, put_same, reduceIte, Bool.false_eq_true, Bool.true_eq_false, Bool.not_true, Bool.not_false, at_0, at_1, at_2, at_3, at_4, at_5, at_6, at_7, ix_1_0, ix_2_0, ix_2_1, ix_3_0, ix_3_1, ix_3_2, ix_4_0, ix_4_1, ix_4_2, ix_4_3]
      refine isi_st is_Turn kt_Turn_Shrink (isi_st is_Turn kt_Turn_Grow (isi_st is_Turn kt_Turn_CropWidth ⟨by decide, hN _ _ ?_⟩))
      refine sSeq_i fun N hN => ?_
      simp only [sSeq, sAsg, sDrop, sRet, sRetN, sIf, sNext, sPar, sPar3, sFor, sRaise, sFldT, sNo, rNo, rVar, rFrz, rC, rBin, rTest, bAnd, bOr, bNot, bIf, vAnd, vOr, vNot, rIf, rNeg, aNil, aCons, rTup, rLst, rLstC, rArgs, gNameT, gNilT, gConsT, gTupT, gSubT, iSeq, iRng1T, iRng2T, rLc, rCall, rCallN, rCallS, rFld, rCon, rMake, rMakeN, rMakeP, rMeth, rMethK, rProp, rClsFn, rOpOwn, rSl, oNone, oSome, rFmt, kFmt, rJs, rLidx, kStrOwn, kAddC, rMut, kAdd, kI2, kI2n, kMul, kIx, kIn, kLen, kU, kA2, kDm, kStrI, kAll, kSl, kAppend, kExtend, kTuple, kList, lenT, seqOf, bYes, startT, one, pickG, selG, insOf, putT, flatT, Bool.false_xor, Bool.true_xor, List.all_cons, List.all_nil, Bool.and_self, T.int.injEq, T.bl.injEq, T.str.injEq, T.lst.injEq, T.tup.injEq, T.cell.injEq, T.ins.injEq, Cell.lst.injEq, Cell.ins.injEq, Prod.mk.injEq, List.cons.injEq, Option.some.injEq, List.map_cons, List.map_nil, List.length_cons, List.length_nil, List.cons_append, List.nil_append, List.append_nil, List.getElem?_cons_zero, List.getElem?_cons_succ, List.set_cons_zero, List.set_cons_succ, List.replicate_succ, List.replicate_zero, exists_eq_left, exists_eq_left', exists_and_left, and_true, true_and, and_self, and_assoc, Nat.sub_self, Nat.reduceAdd, Nat.reduceSub, Nat.zero_add, put_put, put_same, reduceIte, Bool.false_eq_true, Bool.true_eq_false, Bool.not_true, Bool.not_false, at_0, at_1, at_2, at_3, at_4, at_5, at_6, at_7, ix_1_0, ix_2_0, ix_2_1, ix_3_0, ix_3_1, ix_3_2, ix_4_0, ix_4_1, ix_4_2, ix_4_3]
      refine isi_st is_Turn kt_Turn_CropHeight (isi_st is_Turn kt_Turn_Turn (isi_st is_Turn kt_Turn_Landscape ⟨by decide, by decide, fun p hp => hN _ _ ?_⟩))
      refine sSeq_i fun N hN => ?_
      simp only [put_same, sSeq, sAsg, sDrop, sRet, sRetN, sIf, sNext, sPar, sPar3, sFor, sRaise, sFldT, sNo, rNo, rVar, rFrz, rC, rBin, rTest, bAnd, bOr, bNot, bIf, vAnd, vOr, vNot, rIf, rNeg, aNil, aCons, rTup, rLst, rLstC, rArgs, gNameT, gNilT, gConsT, gTupT, gSubT, iSeq, iRng1T, iRng2T, rLc, rCall, rCallN, rCallS, rFld, rCon, rMake, rMakeN, rMakeP, rMeth, rMethK, rProp, rClsFn, rOpOwn, rSl, oNone, oSome, rFmt, kFmt, rJs, rLidx, kStrOwn, kAddC, rMut, kAdd, kI2, kI2n, kMul, kIx, kIn, kLen, kU, kA2, kDm, kStrI, kAll, kSl, kAppend, kExtend, kTuple, kList, lenT, seqOf, bYes, startT, one, pickG, selG, insOf, putT, flatT, Bool.false_xor, Bool.true_xor, List.all_cons, List.all_nil, Bool.and_self, T.int.injEq, T.bl.injEq, T.str.injEq, T.lst.injEq, T.tup.injEq, T.cell.injEq, T.ins.injEq, Cell.lst.injEq, Cell.ins.injEq, Prod.mk.injEq, List.cons.injEq, Option.some.injEq, List.map_cons, List.map_nil, List.length_cons, List.length_nil, List.cons_append, List.nil_append, List.append_nil, List.getElem?_cons_zero, List.getElem?_cons_succ, List.set_cons_zero, List.set_cons_succ, List.replicate_succ, List.replicate_zero, exists_eq_left, exists_eq_left', exists_and_left, and_true, true_and, and_self, and_assoc, Nat.sub_self, Nat.reduceAdd, Nat.reduceSub, Nat.zero_add, put_put, put_same, reduceIte, Bool.false_eq_true, Bool.true_eq_false, Bool.not_true, Bool.not_false, at_0, at_1, at_2, at_3, at_4, at_5, at_6, at_7, ix_1_0, ix_2_0, ix_2_1, ix_3_0, ix_3_1, ix_3_2, ix_4_0, ix_4_1, ix_4_2, ix_4_3]
      refine ⟨⟨_, rfl⟩, isi_st is_Turn kt_Turn_Portrait ⟨_, put_same, by decide, ?_⟩⟩
      refine hN _ _ ?_
      simp only [put_same, put_put, put_drop hp, sSeq, sAsg, sDrop, sRet, sRetN, sIf, sNext, sPar, sPar3, sFor, sRaise, sFldT, sNo, rNo, rVar, rFrz, rC, rBin, rTest, bAnd, bOr, bNot, bIf, vAnd, vOr, vNot, rIf, rNeg, aNil, aCons, rTup, rLst, rLstC, rArgs, gNameT, gNilT, gConsT, gTupT, gSubT, iSeq, iRng1T, iRng2T, rLc, rCall, rCallN, rCallS, rFld, rCon, rMake, rMakeN, rMakeP, rMeth, rMethK, rProp, rClsFn, rOpOwn, rSl, oNone, oSome, rFmt, kFmt, rJs, rLidx, kStrOwn, kAddC, rMut, kAdd, kI2, kI2n, kMul, kIx, kIn, kLen, kU, kA2, kDm, kStrI, kAll, kSl, kAppend, kExtend, kTuple, kList, lenT, seqOf, bYes, startT, one, pickG, selG, insOf, putT, flatT, Bool.false_xor, Bool.true_xor, List.all_cons, List.all_nil, Bool.and_self, T.int.injEq, T.bl.injEq, T.str.injEq, T.lst.injEq, T.tup.injEq, T.cell.injEq, T.ins.injEq, Cell.lst.injEq, Cell.ins.injEq, Prod.mk.injEq, List.cons.injEq, Option.some.injEq, List.map_cons, List.map_nil, List.length_cons, List.length_nil, List.cons_append, List.nil_append, List.append_nil, List.getElem?_cons_zero, List.getElem?_cons_succ, List.set_cons_zero, List.set_cons_succ, List.replicate_succ, List.replicate_zero, exists_eq_left, exists_eq_left', exists_and_left, and_true, true_and, and_self, and_assoc, Nat.sub_self, Nat.reduceAdd, Nat.reduceSub, Nat.zero_add, put_put, put_same, reduceIte, Bool.false_eq_true, Bool.true_eq_false, Bool.not_true, Bool.not_false, at_0, at_1, at_2, at_3, at_4, at_5, at_6, at_7, ix_1_0, ix_2_0, ix_2_1, ix_3_0, ix_3_1, ix_3_2, ix_4_0, ix_4_1, ix_4_2, ix_4_3]
      refine isi_st is_Turn kt_Turn_Scaling (isi_st is_Turn kt_Turn_Crop (isi_st is_Turn kt_Turn_Step ⟨by decide, by decide, ?_⟩))
      exact q
    | ori pp =>
      cases pp with
      | false =>
        simp only [Wd.st]
        refine sSeq_i fun N hN => ?_
        simp only [sSeq, sAsg, sDrop, sRet, sRetN, sIf, sNext, sPar, sPar3, sFor, sRaise, sFldT, sNo, rNo, rVar, rFrz, rC, rBin, rTest, bAnd, bOr, bNot, bIf, vAnd, vOr, vNot, rIf, rNeg, aNil, aCons, rTup, rLst, rLstC, rArgs, gNameT, gNilT, gConsT, gTupT, gSubT, iSeq, iRng1T, iRng2T, rLc, rCall, rCallN, rCallS, rFld, rCon, rMake, rMakeN, rMakeP, rMeth, rMethK, rProp, rClsFn, rOpOwn, rSl, oNone, oSome, rFmt, kFmt, rJs, rLidx, kStrOwn, kAddC, rMut, kAdd, kI2, kI2n, kMul, kIx, kIn, kLen, kU, kA2, kDm, kStrI, kAll, kSl, kAppend, kExtend, kTuple, kList, lenT, seqOf, bYes, startT, one, pickG, selG, insOf, putT, flatT, Bool.false_xor, Bool.true_xor, List.all_cons, List.all_nil, Bool.and_self, T.int.injEq, T.bl.injEq, T.str.injEq, T.lst.injEq, T.tup.injEq, T.cell.injEq, T.ins.injEq, Cell.lst.injEq, Cell.ins.injEq, Prod.mk.injEq, List.cons.injEq, Option.some.injEq, List.map_cons, List.map_nil, List.length_cons, List.length_nil, List.cons_append, List.nil_append, List.append_nil, List.getElem?_cons_zero, List.getElem?_cons_succ, List.set_cons_zero, List.set_cons_succ, List.replicate_succ, List.replicate_zero, exists_eq_left, exists_eq_left', exists_and_left, and_true, true_and, and_self, and_assoc, Nat.sub_self, Nat.reduceAdd, Nat.reduceSub, Nat.zero_add, put_put, put_same, reduceIte, Bool.false_eq_true, Bool.true_eq_false, Bool.not_true, Bool.not_false, at_0, at_1, at_2, at_3, at_4, at_5, at_6, at_7, ix_1_0, ix_2_0, ix_2_1, ix_3_0, ix_3_1, ix_3_2, ix_4_0, ix_4_1, ix_4_2, ix_4_3]
        refine isi_st is_Landscape kt_Landscape_Shrink (isi_st is_Landscape kt_Landscape_Grow (isi_st is_Landscape kt_Landscape_CropWidth ⟨by decide, hN _ _ ?_⟩))
        refine sSeq_i fun N hN => ?_
        simp only [sSeq, sAsg, sDrop, sRet, sRetN, sIf, sNext, sPar, sPar3, sFor, sRaise, sFldT, sNo, rNo, rVar, rFrz, rC, rBin, rTest, bAnd, bOr, bNot, bIf, vAnd, vOr, vNot, rIf, rNeg, aNil, aCons, rTup, rLst, rLstC, rArgs, gNameT, gNilT, gConsT, gTupT, gSubT, iSeq, iRng1T, iRng2T, rLc, rCall, rCallN, rCallS, rFld, rCon, rMake, rMakeN, rMakeP, rMeth, rMethK, rProp, rClsFn, rOpOwn, rSl, oNone, oSome, rFmt, kFmt, rJs, rLidx, kStrOwn, kAddC, rMut, kAdd, kI2, kI2n, kMul, kIx, kIn, kLen, kU, kA2, kDm, kStrI, kAll, kSl, kAppend, kExtend, kTuple, kList, lenT, seqOf, bYes, startT, one, pickG, selG, insOf, putT, flatT, Bool.false_xor, Bool.true_xor, List.all_cons, List.all_nil, Bool.and_self, T.int.injEq, T.bl.injEq, T.str.injEq, T.lst.injEq, T.tup.injEq, T.cell.injEq, T.ins.injEq, Cell.lst.injEq, Cell.ins.injEq, Prod.mk.injEq, List.cons.injEq, Option.some.injEq, List.map_cons, List.map_nil, List.length_cons, List.length_nil, List.cons_append, List.nil_append, List.append_nil, List.getElem?_cons_zero, List.getElem?_cons_succ, List.set_cons_zero, List.set_cons_succ, List.replicate_succ, List.replicate_zero, exists_eq_left, exists_eq_left', exists_and_left, and_true, true_and, and_self, and_assoc, Nat.sub_self, Nat.reduceAdd, Nat.reduceSub, Nat.zero_add, put_put, put_same, reduceIte, Bool.false_eq_true, Bool.true_eq_false, Bool.not_true, Bool.not_false, at_0, at_1, at_2, at_3, at_4, at_5, at_6, at_7, ix_1_0, ix_2_0, ix_2_1, ix_3_0, ix_3_1, ix_3_2, ix_4_0, ix_4_1, ix_4_2, ix_4_3]
        refine isi_st is_Landscape kt_Landscape_CropHeight (isi_st is_Landscape kt_Landscape_Turn (isi_st is_Landscape kt_Landscape_Landscape ⟨by decide, by decide, fun p hp => hN _ _ ?_⟩))
        refine sSeq_i fun N hN => ?_
        simp only [put_same, sSeq, sAsg, sDrop, sRet, sRetN, sIf, sNext, sPar, sPar3, sFor, sRaise, sFldT, sNo, rNo, rVar, rFrz, rC, rBin, rTest, bAnd, bOr, bNot, bIf, vAnd, vOr, vNot, rIf, rNeg, aNil, aCons, rTup, rLst, rLstC, rArgs, gNameT, gNilT, gConsT, gTupT, gSubT, iSeq, iRng1T, iRng2T, rLc, rCall, rCallN, rCallS, rFld, rCon, rMake, rMakeN, rMakeP, rMeth, rMethK, rProp, rClsFn, rOpOwn, rSl, oNone, oSome, rFmt, kFmt, rJs, rLidx, kStrOwn, kAddC, rMut, kAdd, kI2, kI2n, kMul, kIx, kIn, kLen, kU, kA2, kDm, kStrI, kAll, kSl, kAppend, kExtend, kTuple, kList, lenT, seqOf, bYes, startT, one, pickG, selG, insOf, putT, flatT, Bool.false_xor, Bool.true_xor, List.all_cons, List.all_nil, Bool.and_self, T.int.injEq, T.bl.injEq, T.str.injEq, T.lst.injEq, T.tup.injEq, T.cell.injEq, T.ins.injEq, Cell.lst.injEq, Cell.ins.injEq, Prod.mk.injEq, List.cons.injEq, Option.some.injEq, List.map_cons, List.map_nil, List.length_cons, List.length_nil, List.cons_append, List.nil_append, List.append_nil, List.getElem?_cons_zero, List.getElem?_cons_succ, List.set_cons_zero, List.set_cons_succ, List.replicate_succ, List.replicate_zero, exists_eq_left, exists_eq_left', exists_and_left, and_true, true_and, and_self, and_assoc, Nat.sub_self, Nat.reduceAdd, Nat.reduceSub, Nat.zero_add, put_put, put_same, reduceIte, Bool.false_eq_true, Bool.true_eq_false, Bool.not_true, Bool.not_false, at_0, at_1, at_2, at_3, at_4, at_5, at_6, at_7, ix_1_0, ix_2_0, ix_2_1, ix_3_0, ix_3_1, ix_3_2, ix_4_0, ix_4_1, ix_4_2, ix_4_3]
        refine ⟨⟨_, rfl⟩, isi_st is_Landscape kt_Landscape_Portrait ⟨_, put_same, by decide, ?_⟩⟩
        refine hN _ _ ?_
        simp only [put_same, put_put, put_drop hp, sSeq, sAsg, sDrop, sRet, sRetN, sIf, sNext, sPar, sPar3, sFor, sRaise, sFldT, sNo, rNo, rVar, rFrz, rC, rBin, rTest, bAnd, bOr, bNot, bIf, vAnd, vOr, vNot, rIf, rNeg, aNil, aCons, rTup, rLst, rLstC, rArgs, gNameT, gNilT, gConsT, gTupT, gSubT, iSeq, iRng1T, iRng2T, rLc, rCall, rCallN, rCallS, rFld, rCon, rMake, rMakeN, rMakeP, rMeth, rMethK, rProp, rClsFn, rOpOwn, rSl, oNone, oSome, rFmt, kFmt, rJs, rLidx, kStrOwn, kAddC, rMut, kAdd, kI2, kI2n, kMul, kIx, kIn, kLen, kU, kA2, kDm, kStrI, kAll, kSl, kAppend, kExtend, kTuple, kList, lenT, seqOf, bYes, startT, one, pickG, selG, insOf, putT, flatT, Bool.false_xor, Bool.true_xor, List.all_cons, List.all_nil, Bool.and_self, T.int.injEq, T.bl.injEq, T.str.injEq, T.lst.injEq, T.tup.injEq, T.cell.injEq, T.ins.injEq, Cell.lst.injEq, Cell.ins.injEq, Prod.mk.injEq, List.cons.injEq, Option.some.injEq, List.map_cons, List.map_nil, List.length_cons, List.length_nil, List.cons_append, List.nil_append, List.append_nil, List.getElem?_cons_zero, List.getElem?_cons_succ, List.set_cons_zero, List.set_cons_succ, List.replicate_succ, List.replicate_zero, exists_eq_left, exists_eq_left', exists_and_left, and_true, true_and, and_self, and_assoc, Nat.sub_self, Nat.reduceAdd, Nat.reduceSub, Nat.zero_add, put_put, put_same, reduceIte, Bool.false_eq_true, Bool.true_eq_false, Bool.not_true, Bool.not_false, at_0, at_1, at_2, at_3, at_4, at_5, at_6, at_7, ix_1_0, ix_2_0, ix_2_1, ix_3_0, ix_3_1, ix_3_2, ix_4_0, ix_4_1, ix_4_2, ix_4_3]
        refine isi_st is_Landscape kt_Landscape_Scaling (isi_st is_Landscape kt_Landscape_Crop (isi_st is_Landscape kt_Landscape_Step ⟨by decide, by decide, ?_⟩))
        exact q
      | true =>
        simp only [Wd.st]
        refine sSeq_i fun N hN => ?_
        simp only [sSeq, sAsg, sDrop, sRet, sRetN, sIf, sNext, sPar, sPar3, sFor, sRaise, sFldT, sNo, rNo, rVar, rFrz, rC, rBin, rTest, bAnd, bOr, bNot, bIf, vAnd, vOr, vNot, rIf, rNeg, aNil, aCons, rTup, rLst, rLstC, rArgs, gNameT, gNilT, gConsT, gTupT, gSubT, iSeq, iRng1T, iRng2T, rLc, rCall, rCallN, rCallS, rFld, rCon, rMake, rMakeN, rMakeP, rMeth, rMethK, rProp, rClsFn, rOpOwn, rSl, oNone, oSome, rFmt, kFmt, rJs, rLidx, kStrOwn, kAddC, rMut, kAdd, kI2, kI2n, kMul, kIx, kIn, kLen, kU, kA2, kDm, kStrI, kAll, kSl, kAppend, kExtend, kTuple, kList, lenT, seqOf, bYes, startT, one, pickG, selG, insOf, putT, flatT, Bool.false_xor, Bool.true_xor, List.all_cons, List.all_nil, Bool.and_self, T.int.injEq, T.bl.injEq, T.str.injEq, T.lst.injEq, T.tup.injEq, T.cell.injEq, T.ins.injEq, Cell.lst.injEq, Cell.ins.injEq, Prod.mk.injEq, List.cons.injEq, Option.some.injEq, List.map_cons, List.map_nil, List.length_cons, List.length_nil, List.cons_append, List.nil_append, List.append_nil, List.getElem?_cons_zero, List.getElem?_cons_succ, List.set_cons_zero, List.set_cons_succ, List.replicate_succ, List.replicate_zero, exists_eq_left, exists_eq_left', exists_and_left, and_true, true_and, and_self, and_assoc, Nat.sub_self, Nat.reduceAdd, Nat.reduceSub, Nat.zero_add, put_put, put_same, reduceIte, Bool.false_eq_true, Bool.true_eq_false, Bool.not_true, Bool.not_false, at_0, at_1, at_2, at_3, at_4, at_5, at_6, at_7, ix_1_0, ix_2_0, ix_2_1, ix_3_0, ix_3_1, ix_3_2, ix_4_0, ix_4_1, ix_4_2, ix_4_3]
        refine isi_st is_Portrait kt_Portrait_Shrink (isi_st is_Portrait kt_Portrait_Grow (isi_st is_Portrait kt_Portrait_CropWidth ⟨by decide, hN _ _ ?_⟩))
        refine sSeq_i fun N hN => ?_
        simp only [sSeq, sAsg, sDrop, sRet, sRetN, sIf, sNext, sPar, sPar3, sFor, sRaise, sFldT, sNo, rNo, rVar, rFrz, rC, rBin, rTest, bAnd, bOr, bNot, bIf, vAnd, vOr, vNot, rIf, rNeg, aNil, aCons, rTup, rLst, rLstC, rArgs, gNameT, gNilT, gConsT, gTupT, gSubT, iSeq, iRng1T, iRng2T, rLc, rCall, rCallN, rCallS, rFld, rCon, rMake, rMakeN, rMakeP, rMeth, rMethK, rProp, rClsFn, rOpOwn, rSl, oNone, oSome, rFmt, kFmt, rJs, rLidx, kStrOwn, kAddC, rMut, kAdd, kI2, kI2n, kMul, kIx, kIn, kLen, kU, kA2, kDm, kStrI, kAll, kSl, kAppend, kExtend, kTuple, kList, lenT, seqOf, bYes, startT, one, pickG, selG, insOf, putT, flatT, Bool.false_xor, Bool.true_xor, List.all_cons, List.all_nil, Bool.and_self, T.int.injEq, T.bl.injEq, T.str.injEq, T.lst.injEq, T.tup.injEq, T.cell.injEq, T.ins.injEq, Cell.lst.injEq, Cell.ins.injEq, Prod.mk.injEq, List.cons.injEq, Option.some.injEq, List.map_cons, List.map_nil, List.length_cons, List.length_nil, List.cons_append, List.nil_append, List.append_nil, List.getElem?_cons_zero, List.getElem?_cons_succ, List.set_cons_zero, List.set_cons_succ, List.replicate_succ, List.replicate_zero, exists_eq_left, exists_eq_left', exists_and_left, and_true, true_and, and_self, and_assoc, Nat.sub_self, Nat.reduceAdd, Nat.reduceSub, Nat.zero_add, put_put, put_same, reduceIte, Bool.false_eq_true, Bool.true_eq_false, Bool.not_true, Bool.not_false, at_0, at_1, at_2, at_3, at_4, at_5, at_6, at_7, ix_1_0, ix_2_0, ix_2_1, ix_3_0, ix_3_1, ix_3_2, ix_4_0, ix_4_1, ix_4_2, ix_4_3]
        refine isi_st is_Portrait kt_Portrait_CropHeight (isi_st is_Portrait kt_Portrait_Turn (isi_st is_Portrait kt_Portrait_Landscape ⟨by decide, by decide, fun p hp => hN _ _ ?_⟩))
        refine sSeq_i fun N hN => ?_
        simp only [put_same, sSeq, sAsg, sDrop, sRet, sRetN, sIf, sNext, sPar, sPar3, sFor, sRaise, sFldT, sNo, rNo, rVar, rFrz, rC, rBin, rTest, bAnd, bOr, bNot, bIf, vAnd, vOr, vNot, rIf, rNeg, aNil, aCons, rTup, rLst, rLstC, rArgs, gNameT, gNilT, gConsT, gTupT, gSubT, iSeq, iRng1T, iRng2T, rLc, rCall, rCallN, rCallS, rFld, rCon, rMake, rMakeN, rMakeP, rMeth, rMethK, rProp, rClsFn, rOpOwn, rSl, oNone, oSome, rFmt, kFmt, rJs, rLidx, kStrOwn, kAddC, rMut, kAdd, kI2, kI2n, kMul, kIx, kIn, kLen, kU, kA2, kDm, kStrI, kAll, kSl, kAppend, kExtend, kTuple, kList, lenT, seqOf, bYes, startT, one, pickG, selG, insOf, putT, flatT, Bool.false_xor, Bool.true_xor, List.all_cons, List.all_nil, Bool.and_self, T.int.injEq, T.bl.injEq, T.str.injEq, T.lst.injEq, T.tup.injEq, T.cell.injEq, T.ins.injEq, Cell.lst.injEq, Cell.ins.injEq, Prod.mk.injEq, List.cons.injEq, Option.some.injEq, List.map_cons, List.map_nil, List.length_cons, List.length_nil, List.cons_append, List.nil_append, List.append_nil, List.getElem?_cons_zero, List.getElem?_cons_succ, List.set_cons_zero, List.set_cons_succ, List.replicate_succ, List.replicate_zero, exists_eq_left, exists_eq_left', exists_and_left, and_true, true_and, and_self, and_assoc, Nat.sub_self, Nat.reduceAdd, Nat.reduceSub, Nat.zero_add, put_put, put_same, reduceIte, Bool.false_eq_true, Bool.true_eq_false, Bool.not_true, Bool.not_false, at_0, at_1, at_2, at_3, at_4, at_5, at_6, at_7, ix_1_0, ix_2_0, ix_2_1, ix_3_0, ix_3_1, ix_3_2, ix_4_0, ix_4_1, ix_4_2, ix_4_3]
        refine ⟨⟨_, rfl⟩, isi_st is_Portrait kt_Portrait_Portrait ⟨_, put_same, by decide, ?_⟩⟩
        refine hN _ _ ?_
        simp only [put_same, put_put, put_drop hp, sSeq, sAsg, sDrop, sRet, sRetN, sIf, sNext, sPar, sPar3, sFor, sRaise, sFldT, sNo, rNo, rVar, rFrz, rC, rBin, rTest, bAnd, bOr, bNot, bIf, vAnd, vOr, vNot, rIf, rNeg, aNil, aCons, rTup, rLst, rLstC, rArgs, gNameT, gNilT, gConsT, gTupT, gSubT, iSeq, iRng1T, iRng2T, rLc, rCall, rCallN, rCallS, rFld, rCon, rMake, rMakeN, rMakeP, rMeth, rMethK, rProp, rClsFn, rOpOwn, rSl, oNone, oSome, rFmt, kFmt, rJs, rLidx, kStrOwn, kAddC, rMut, kAdd, kI2, kI2n, kMul, kIx, kIn, kLen, kU, kA2, kDm, kStrI, kAll, kSl, kAppend, kExtend, kTuple, kList, lenT, seqOf, bYes, startT, one, pickG, selG, insOf, putT, flatT, Bool.false_xor, Bool.true_xor, List.all_cons, List.all_nil, Bool.and_self, T.int.injEq, T.bl.injEq, T.str.injEq, T.lst.injEq, T.tup.injEq, T.cell.injEq, T.ins.injEq, Cell.lst.injEq, Cell.ins.injEq, Prod.mk.injEq, List.cons.injEq, Option.some.injEq, List.map_cons, List.map_nil, List.length_cons, List.length_nil, List.cons_append, List.nil_append, List.append_nil, List.getElem?_cons_zero, List.getElem?_cons_succ, List.set_cons_zero, List.set_cons_succ, List.replicate_succ, List.replicate_zero, exists_eq_left, exists_eq_left', exists_and_left, and_true, true_and, and_self, and_assoc, Nat.sub_self, Nat.reduceAdd, Nat.reduceSub, Nat.zero_add, put_put, put_same, reduceIte, Bool.false_eq_true, Bool.true_eq_false, Bool.not_true, Bool.not_false, at_0, at_1, at_2, at_3, at_4, at_5, at_6, at_7, ix_1_0, ix_2_0, ix_2_1, ix_3_0, ix_3_1, ix_3_2, ix_4_0, ix_4_1, ix_4_2, ix_4_3]
        refine isi_st is_Portrait kt_Portrait_Scaling (isi_st is_Portrait kt_Portrait_Crop (isi_st is_Portrait kt_Portrait_Step ⟨by decide, by decide, ?_⟩))
        exact q
  · exact h.elim
def Wd.prts : Wd → List T
  | .sc _ w h c => [.int w, .int h, .bl c]
  | .cr _ w h k => [.int w, .int h, .str k]
  | .tu n => [.int n]
  | .ori _ => []
theorem Wd.prts_more (d : Wd) : d.prts = d.more := by cases d <;> rfl
theorem sc_l_parts : FnScope ["_law_spec", "_law_made"] ["_law_spec", "_law_made"] (defScope s_l_parts) := ⟨rfl, rfl, rfl, by decide +kernel, rfl, by decide +kernel, by decide +kernel⟩
def sp_l_parts (CS CG CW CH CT CL CP : Addr) : SpT := fun ts S R _ => match ts with
  | [x, y] => ∃ d : Wd, d.good ∧ x = d.t ∧ y = d.st CS CG CW CH CT CL CP ∧ R (.lst d.more) S
  | _ => False
set_option maxHeartbeats 3200000 in
theorem ok_l_parts {P : Program} {w : World} {K : PySem.W.Frag} {mg : Str → Option Value} {base : Heap} {f : Addr} {fd : FuncData} {C_Shrink C_Grow C_CropWidth C_CropHeight C_Turn C_Landscape C_Portrait : Addr}  (F : Fun K "_law_parts" "_law_parts" s_l_parts f fd)
    (nf_Shrink_width : InF K C_Shrink "width")
    (nf_Shrink_height : InF K C_Shrink "height")
    (nf_Shrink_cover : InF K C_Shrink "cover")
    (nf_Grow_width : InF K C_Grow "width")
    (nf_Grow_height : InF K C_Grow "height")
    (nf_Grow_cover : InF K C_Grow "cover")
    (nf_CropWidth_width : InF K C_CropWidth "width")
    (nf_CropWidth_height : InF K C_CropWidth "height")
    (nf_CropWidth_keep : InF K C_CropWidth "keep")
    (nf_CropHeight_width : InF K C_CropHeight "width")
    (nf_CropHeight_height : InF K C_CropHeight "height")
    (nf_CropHeight_keep : InF K C_CropHeight "keep")
    (nf_Turn_times : InF K C_Turn "times")
    (ic_Landscape_WORD : InC K C_Landscape "WORD" (.str "landscape"))
    (ic_Portrait_WORD : InC K C_Portrait "WORD" (.str "portrait"))
    : FnT P w K mg base 1 f fd ["_law_spec", "_law_made"] (sp_l_parts C_Shrink C_Grow C_CropWidth C_CropHeight C_Turn C_Landscape C_Portrait) := by
  refine okT F sc_l_parts (by intro ts S R RE h; unfold sp_l_parts at h; split at h <;> first | rfl | exact h.elim) (fun cdv A out s H E hg hr => (bs_cons (ss_if (tt_cmp op_inG cv_in (et_ix ix_seq cv_ix (et_var (pv 0)) et_int (fun _ _ => rfl)) (et_tup (at_cons et_str (at_cons et_str at_nil))) (by rfl)) (bs_one (ss_ret (et_lst (at_cons (et_fldK K rfl (et_var (pv 1))) (at_cons (et_fldK K rfl (et_var (pv 1))) (at_cons (et_fldK K rfl (et_var (pv 1))) at_nil)))))) bs_nil)
    (bs_cons (ss_if (tt_cmp op_inG cv_in (et_ix ix_seq cv_ix (et_var (pv 0)) et_int (fun _ _ => rfl)) (et_tup (at_cons et_str (at_cons et_str at_nil))) (by rfl)) (bs_one (ss_ret (et_lst (at_cons (et_fldK K rfl (et_var (pv 1))) (at_cons (et_fldK K rfl (et_var (pv 1))) (at_cons (et_fldK K rfl (et_var (pv 1))) at_nil)))))) bs_nil)
    (bs_one (ss_ret (et_if (tt_cmp (op_eqG hr.units) cv_eq (et_ix ix_seq cv_ix (et_var (pv 0)) et_int (fun _ _ => rfl)) et_str (nomark _)) (et_lst (at_cons (et_fldK K rfl (et_var (pv 1))) at_nil)) (et_lst at_nil))))))) ?_
  intro ts S R RE h
  unfold sp_l_parts at h
  split at h
  · rename_i x y
    obtain ⟨d, g, rfl, rfl, q⟩ := h
    refine sSeq_i fun N hN => ?_
    simp only [Wd.t_eq, Wd.in_sc, sSeq, sAsg, sDrop, sRet, sRetN, sIf, sNext, sPar, sPar3, sFor, sRaise, sFldT, sNo, rNo, rVar, rFrz, rC, rBin, rTest, bAnd, bOr, bNot, bIf, vAnd, vOr, vNot, rIf, rNeg, aNil, aCons, rTup, rLst, rLstC, rArgs, gNameT, gNilT, gConsT, gTupT, gSubT, iSeq, iRng1T, iRng2T, rLc, rCall, rCallN, rCallS, rFld, rCon, rMake, rMakeN, rMakeP, rMeth, rMethK, rProp, rClsFn, rOpOwn, rSl, oNone, oSome, rFmt, kFmt, rJs, rLidx, kStrOwn, kAddC, rMut, kAdd, kI2, kI2n, kMul, kIx, kIn, kLen, kU, kA2, kDm, kStrI, kAll, kSl, kAppend, kExtend, kTuple, kList, lenT, seqOf, bYes, startT, one, pickG, selG, insOf, putT, flatT, Bool.false_xor, Bool.true_xor, List.all_cons, List.all_nil, Bool.and_self, T.int.injEq, T.bl.injEq, T.str.injEq, T.lst.injEq, T.tup.injEq, T.cell.injEq, T.ins.injEq, Cell.lst.injEq, Cell.ins.injEq, Prod.mk.injEq, List.cons.injEq, Option.some.injEq, List.map_cons, List.map_nil, List.length_cons, List.length_nil, List.cons_append, List.nil_append, List.append_nil, List.getElem?_cons_zero, List.getElem?_cons_succ, List.set_cons_zero, List.set_cons_succ, List.replicate_succ, List.replicate_zero, exists_eq_left, exists_eq_left', exists_and_left, and_true, true_and, and_self, and_assoc, Nat.sub_self, Nat.reduceAdd, Nat.reduceSub, Nat.zero_add, put_put, put_same, reduceIte, Bool.false_eq_true, Bool.true_eq_false, Bool.not_true, Bool.not_false, at_0, at_1, at_2, at_3, at_4, at_5, at_6, at_7, ix_1_0, ix_2_0, ix_2_1, ix_3_0, ix_3_1, ix_3_2, ix_4_0, ix_4_1, ix_4_2, ix_4_3]
    refine ⟨by decide, ?_⟩
    cases e : d.isSc with
    | true =>
      rw [if_pos rfl]
      cases d with
      | sc b w h c =>
        cases b with
        | false =>
          simp only [Wd.st, scC, nf_Shrink_width, nf_Shrink_height, nf_Shrink_cover, stF_w, stF_h, stF_c, sSeq, sAsg, sDrop, sRet, sRetN, sIf, sNext, sPar, sPar3, sFor, sRaise, sFldT, sNo, rNo, rVar, rFrz, rC, rBin, rTest, bAnd, bOr, bNot, bIf, vAnd, vOr, vNot, rIf, rNeg, aNil, aCons, rTup, rLst, rLstC, rArgs, gNameT, gNilT, gConsT, gTupT, gSubT, iSeq, iRng1T, iRng2T, rLc, rCall, rCallN, rCallS, rFld, rCon, rMake, rMakeN, rMakeP, rMeth, rMethK, rProp, rClsFn, rOpOwn, rSl, oNone, oSome, rFmt, kFmt, rJs, rLidx, kStrOwn, kAddC, rMut, kAdd, kI2, kI2n, kMul, kIx, kIn, kLen, kU, kA2, kDm, kStrI, kAll, kSl, kAppend, kExtend, kTuple, kList, lenT, seqOf, bYes, startT, one, pickG, selG, insOf, putT, flatT, Bool.false_xor, Bool.true_xor, List.all_cons, List.all_nil, Bool.and_self, T.int.injEq, T.bl.injEq, T.str.injEq, T.lst.injEq, T.tup.injEq, T.cell.injEq, T.ins.injEq, Cell.lst.injEq, Cell.ins.injEq, Prod.mk.injEq, List.cons.injEq, Option.some.injEq, List.map_cons, List.map_nil, List.length_cons, List.length_nil, List.cons_append, List.nil_append, List.append_nil, List.getElem?_cons_zero, List.getElem?_cons_succ, List.set_cons_zero, List.set_cons_succ, List.replicate_succ, List.replicate_zero, exists_eq_left, exists_eq_left', exists_and_left, and_true, true_and, and_self, and_assoc, Nat.sub_self, Nat.reduceAdd, Nat.reduceSub, Nat.zero_add, put_put, put_same, reduceIte, Bool.false_eq_true, Bool.true_eq_false, Bool.not_true, Bool.not_false, at_0, at_1, at_2, at_3, at_4, at_5, at_6, at_7, ix_1_0, ix_2_0, ix_2_1, ix_3_0, ix_3_1, ix_3_2, ix_4_0, ix_4_1, ix_4_2, ix_4_3]
          exact ⟨by decide, q⟩
        | true =>
          simp only [Wd.st, scC, nf_Grow_width, nf_Grow_height, nf_Grow_cover, stF_w, stF_h, stF_c, sSeq, sAsg, sDrop, sRet, sRetN, sIf, sNext, sPar, sPar3, sFor, sRaise, sFldT, sNo, rNo, rVar, rFrz, rC, rBin, rTest, bAnd, bOr, bNot, bIf, vAnd, vOr, vNot, rIf, rNeg, aNil, aCons, rTup, rLst, rLstC, rArgs, gNameT, gNilT, gConsT, gTupT, gSubT, iSeq, iRng1T, iRng2T, rLc, rCall, rCallN, rCallS, rFld, rCon, rMake, rMakeN, rMakeP, rMeth, rMethK, rProp, rClsFn, rOpOwn, rSl, oNone, oSome, rFmt, kFmt, rJs, rLidx, kStrOwn, kAddC, rMut, kAdd, kI2, kI2n, kMul, kIx, kIn, kLen, kU, kA2, kDm, kStrI, kAll, kSl, kAppend, kExtend, kTuple, kList, lenT, seqOf, bYes, startT, one, pickG, selG, insOf, putT, flatT, Bool.false_xor, Bool.true_xor, List.all_cons, List.all_nil, Bool.and_self, T.int.injEq, T.bl.injEq, T.str.injEq, T.lst.injEq, T.tup.injEq, T.cell.injEq, T.ins.injEq, Cell.lst.injEq, Cell.ins.injEq, Prod.mk.injEq, List.cons.injEq, Option.some.injEq, List.map_cons, List.map_nil, List.length_cons, List.length_nil, List.cons_append, List.nil_append, List.append_nil, List.getElem?_cons_zero, List.getElem?_cons_succ, List.set_cons_zero, List.set_cons_succ, List.replicate_succ, List.replicate_zero, exists_eq_left, exists_eq_left', exists_and_left, and_true, true_and, and_self, and_assoc, Nat.sub_self, Nat.reduceAdd, Nat.reduceSub, Nat.zero_add, put_put, put_same, reduceIte, Bool.false_eq_true, Bool.true_eq_false, Bool.not_true, Bool.not_false, at_0, at_1, at_2, at_3, at_4, at_5, at_6, at_7, ix_1_0, ix_2_0, ix_2_1, ix_3_0, ix_3_1, ix_3_2, ix_4_0, ix_4_1, ix_4_2, ix_4_3]
          exact ⟨by decide, q⟩
      | cr t w h k => cases e
      | tu n => cases e
      | ori p => cases e
    | false =>
      rw [if_neg Bool.false_ne_true]
      refine hN _ _ ?_
      refine sSeq_i fun N hN => ?_
      simp only [Wd.in_cr, sSeq, sAsg, sDrop, sRet, sRetN, sIf, sNext, sPar, sPar3, sFor, sRaise, sFldT, sNo, rNo, rVar, rFrz, rC, rBin, rTest, bAnd, bOr, bNot, bIf, vAnd, vOr, vNot, rIf, rNeg, aNil, aCons, rTup, rLst, rLstC, rArgs, gNameT, gNilT, gConsT, gTupT, gSubT, iSeq, iRng1T, iRng2T, rLc, rCall, rCallN, rCallS, rFld, rCon, rMake, rMakeN, rMakeP, rMeth, rMethK, rProp, rClsFn, rOpOwn, rSl, oNone, oSome, rFmt, kFmt, rJs, rLidx, kStrOwn, kAddC, rMut, kAdd, kI2, kI2n, kMul, kIx, kIn, kLen, kU, kA2, kDm, kStrI, kAll, kSl, kAppend, kExtend, kTuple, kList, lenT, seqOf, bYes, startT, one, pickG, selG, insOf, putT, flatT, Bool.false_xor, Bool.true_xor, List.all_cons, List.all_nil, Bool.and_self, T.int.injEq, T.bl.injEq, T.str.injEq, T.lst.injEq, T.tup.injEq, T.cell.injEq, T.ins.injEq, Cell.lst.injEq, Cell.ins.injEq, Prod.mk.injEq, List.cons.injEq, Option.some.injEq, List.map_cons, List.map_nil, List.length_cons, List.length_nil, List.cons_append, List.nil_append, List.append_nil, List.getElem?_cons_zero, List.getElem?_cons_succ, List.set_cons_zero, List.set_cons_succ, List.replicate_succ, List.replicate_zero, exists_eq_left, exists_eq_left', exists_and_left, and_true, true_and, and_self, and_assoc, Nat.sub_self, Nat.reduceAdd, Nat.reduceSub, Nat.zero_add, put_put, put_same, reduceIte, Bool.false_eq_true, Bool.true_eq_false, Bool.not_true, Bool.not_false, at_0, at_1, at_2, at_3, at_4, at_5, at_6, at_7, ix_1_0, ix_2_0, ix_2_1, ix_3_0, ix_3_1, ix_3_2, ix_4_0, ix_4_1, ix_4_2, ix_4_3]
      refine ⟨by decide, ?_⟩
      cases e3 : d.isCr with
      | true =>
        rw [if_pos rfl]
        cases d with
        | cr t w h k =>
          cases t with
          | false => exact ⟨_, _, rfl, nf_CropWidth_width, _, crF_w, _, _, rfl, nf_CropWidth_height, _, crF_h, _, _, rfl, nf_CropWidth_keep, _, crF_k, by decide, q⟩
          | true => exact ⟨_, _, rfl, nf_CropHeight_width, _, crF_w, _, _, rfl, nf_CropHeight_height, _, crF_h, _, _, rfl, nf_CropHeight_keep, _, crF_k, by decide, q⟩
        | sc b w h c => cases e3
        | tu n => cases e3
        | ori p => cases e3
      | false =>
        rw [if_neg Bool.false_ne_true]
        refine hN _ _ ?_
        cases d with
        | sc b w h c => cases e
        | cr t w h k => cases e3
        | tu n =>
          simp only [Wd.word, Wd.more, Wd.st, nf_Turn_times, tuF_t, sSeq, sAsg, sDrop, sRet, sRetN, sIf, sNext, sPar, sPar3, sFor, sRaise, sFldT, sNo, rNo, rVar, rFrz, rC, rBin, rTest, bAnd, bOr, bNot, bIf, vAnd, vOr, vNot, rIf, rNeg, aNil, aCons, rTup, rLst, rLstC, rArgs, gNameT, gNilT, gConsT, gTupT, gSubT, iSeq, iRng1T, iRng2T, rLc, rCall, rCallN, rCallS, rFld, rCon, rMake, rMakeN, rMakeP, rMeth, rMethK, rProp, rClsFn, rOpOwn, rSl, oNone, oSome, rFmt, kFmt, rJs, rLidx, kStrOwn, kAddC, rMut, kAdd, kI2, kI2n, kMul, kIx, kIn, kLen, kU, kA2, kDm, kStrI, kAll, kSl, kAppend, kExtend, kTuple, kList, lenT, seqOf, bYes, startT, one, pickG, selG, insOf, putT, flatT, Bool.false_xor, Bool.true_xor, List.all_cons, List.all_nil, Bool.and_self, T.int.injEq, T.bl.injEq, T.str.injEq, T.lst.injEq, T.tup.injEq, T.cell.injEq, T.ins.injEq, Cell.lst.injEq, Cell.ins.injEq, Prod.mk.injEq, List.cons.injEq, Option.some.injEq, List.map_cons, List.map_nil, List.length_cons, List.length_nil, List.cons_append, List.nil_append, List.append_nil, List.getElem?_cons_zero, List.getElem?_cons_succ, List.set_cons_zero, List.set_cons_succ, List.replicate_succ, List.replicate_zero, exists_eq_left, exists_eq_left', exists_and_left, and_true, true_and, and_self, and_assoc, Nat.sub_self, Nat.reduceAdd, Nat.reduceSub, Nat.zero_add, put_put, put_same, reduceIte, Bool.false_eq_true, Bool.true_eq_false, Bool.not_true, Bool.not_false, at_0, at_1, at_2, at_3, at_4, at_5, at_6, at_7, ix_1_0, ix_2_0, ix_2_1, ix_3_0, ix_3_1, ix_3_2, ix_4_0, ix_4_1, ix_4_2, ix_4_3]
          refine eqSt (v := true) (by decide +kernel) ⟨_, rfl, ?_⟩
          rw [if_pos (show (false ^^ true) = true by decide)]
          exact ⟨by decide, q⟩
        | ori p =>
          cases p with
          | false =>
            simp only [Wd.word, Wd.more, sSeq, sAsg, sDrop, sRet, sRetN, sIf, sNext, sPar, sPar3, sFor, sRaise, sFldT, sNo, rNo, rVar, rFrz, rC, rBin, rTest, bAnd, bOr, bNot, bIf, vAnd, vOr, vNot, rIf, rNeg, aNil, aCons, rTup, rLst, rLstC, rArgs, gNameT, gNilT, gConsT, gTupT, gSubT, iSeq, iRng1T, iRng2T, rLc, rCall, rCallN, rCallS, rFld, rCon, rMake, rMakeN, rMakeP, rMeth, rMethK, rProp, rClsFn, rOpOwn, rSl, oNone, oSome, rFmt, kFmt, rJs, rLidx, kStrOwn, kAddC, rMut, kAdd, kI2, kI2n, kMul, kIx, kIn, kLen, kU, kA2, kDm, kStrI, kAll, kSl, kAppend, kExtend, kTuple, kList, lenT, seqOf, bYes, startT, one, pickG, selG, insOf, putT, flatT, Bool.false_xor, Bool.true_xor, List.all_cons, List.all_nil, Bool.and_self, T.int.injEq, T.bl.injEq, T.str.injEq, T.lst.injEq, T.tup.injEq, T.cell.injEq, T.ins.injEq, Cell.lst.injEq, Cell.ins.injEq, Prod.mk.injEq, List.cons.injEq, Option.some.injEq, List.map_cons, List.map_nil, List.length_cons, List.length_nil, List.cons_append, List.nil_append, List.append_nil, List.getElem?_cons_zero, List.getElem?_cons_succ, List.set_cons_zero, List.set_cons_succ, List.replicate_succ, List.replicate_zero, exists_eq_left, exists_eq_left', exists_and_left, and_true, true_and, and_self, and_assoc, Nat.sub_self, Nat.reduceAdd, Nat.reduceSub, Nat.zero_add, put_put, put_same, reduceIte, Bool.false_eq_true, Bool.true_eq_false, Bool.not_true, Bool.not_false, at_0, at_1, at_2, at_3, at_4, at_5, at_6, at_7, ix_1_0, ix_2_0, ix_2_1, ix_3_0, ix_3_1, ix_3_2, ix_4_0, ix_4_1, ix_4_2, ix_4_3]
            refine eqSt (v := false) (by decide +kernel) ⟨_, rfl, ?_⟩
            rw [if_neg (show ¬ (false ^^ false) = true by decide)]
            exact ⟨by decide, q⟩
          | true =>
            simp only [Wd.word, Wd.more, sSeq, sAsg, sDrop, sRet, sRetN, sIf, sNext, sPar, sPar3, sFor, sRaise, sFldT, sNo, rNo, rVar, rFrz, rC, rBin, rTest, bAnd, bOr, bNot, bIf, vAnd, vOr, vNot, rIf, rNeg, aNil, aCons, rTup, rLst, rLstC, rArgs, gNameT, gNilT, gConsT, gTupT, gSubT, iSeq, iRng1T, iRng2T, rLc, rCall, rCallN, rCallS, rFld, rCon, rMake, rMakeN, rMakeP, rMeth, rMethK, rProp, rClsFn, rOpOwn, rSl, oNone, oSome, rFmt, kFmt, rJs, rLidx, kStrOwn, kAddC, rMut, kAdd, kI2, kI2n, kMul, kIx, kIn, kLen, kU, kA2, kDm, kStrI, kAll, kSl, kAppend, kExtend, kTuple, kList, lenT, seqOf, bYes, startT, one, pickG, selG, insOf, putT, flatT, Bool.false_xor, Bool.true_xor, List.all_cons, List.all_nil, Bool.and_self, T.int.injEq, T.bl.injEq, T.str.injEq, T.lst.injEq, T.tup.injEq, T.cell.injEq, T.ins.injEq, Cell.lst.injEq, Cell.ins.injEq, Prod.mk.injEq, List.cons.injEq, Option.some.injEq, List.map_cons, List.map_nil, List.length_cons, List.length_nil, List.cons_append, List.nil_append, List.append_nil, List.getElem?_cons_zero, List.getElem?_cons_succ, List.set_cons_zero, List.set_cons_succ, List.replicate_succ, List.replicate_zero, exists_eq_left, exists_eq_left', exists_and_left, and_true, true_and, and_self, and_assoc, Nat.sub_self, Nat.reduceAdd, Nat.reduceSub, Nat.zero_add, put_put, put_same, reduceIte, Bool.false_eq_true, Bool.true_eq_false, Bool.not_true, Bool.not_false, at_0, at_1, at_2, at_3, at_4, at_5, at_6, at_7, ix_1_0, ix_2_0, ix_2_1, ix_3_0, ix_3_1, ix_3_2, ix_4_0, ix_4_1, ix_4_2, ix_4_3]
            refine eqSt (v := false) (by decide +kernel) ⟨_, rfl, ?_⟩
            rw [if_neg (show ¬ (false ^^ false) = true by decide)]
            exact ⟨by decide, q⟩
  · exact h.elim
abbrev words7 : List T := [.str "shrink", .str "grow", .str "width", .str "height", .str "turn", .str "landscape", .str "portrait"]
theorem Wd.idx (d : Wd) : idxT (.str d.word) words7 = some d.ix := by
  cases d with
  | sc b w h c =>
    cases b
    · exact (by decide +kernel : idxT (.str "shrink") words7 = some 0)
    · exact (by decide +kernel : idxT (.str "grow") words7 = some 1)
  | cr t w h k =>
    cases t
    · exact (by decide +kernel : idxT (.str "width") words7 = some 2)
    · exact (by decide +kernel : idxT (.str "height") words7 = some 3)
  | tu n => exact (by decide +kernel : idxT (.str "turn") words7 = some 4)
  | ori p =>
    cases p
    · exact (by decide +kernel : idxT (.str "landscape") words7 = some 5)
    · exact (by decide +kernel : idxT (.str "portrait") words7 = some 6)
theorem Wd.ix_lt (d : Wd) : d.ix < 7 := by
  cases d with
  | sc b w h c => cases b <;> simp [Wd.ix]
  | cr t w h k => cases t <;> simp [Wd.ix]
  | tu n => simp [Wd.ix]
  | ori p => cases p <;> simp [Wd.ix]
def clsN (i : Nat) : List Bool := [i == 0, i == 1, i == 2, i == 3, i == 4, i == 5, i == 6, decide (i < 2), i == 2 || i == 3, true]
theorem Wd.cls_n (d : Wd) : d.cls = clsN d.ix := rfl
theorem ne_bls {bs : List Bool} {S : Store} {R : T → Store → Prop} {RE : XT} (h : (PyData.eqv (.list (bs.map .bool)) (.list (bs.map .bool)) && SeqAt.shaped (.list (bs.map .bool))) = true) (q : R (.bl false) S) : kEqG true (.lst (bs.map .bl)) (.lst (bs.map .bl)) S R RE := by
  rw [Bool.and_eq_true] at h
  have e : ∀ bs : List Bool, T.datL (bs.map .bl) = some (bs.map .bool) := fun bs => by
    induction bs with
    | nil => rw [List.map_nil, T.datL]; rfl
    | cons b bs ih => rw [List.map_cons, T.datL, ih, T.dat]; rfl
  have e2 : (T.lst (bs.map .bl)).dat = some (.list (bs.map .bool)) := by rw [T.dat, e]; rfl
  exact .inr ⟨_, _, e2, e2, h.2, h.2, by rw [h.1]; exact q⟩
theorem range7 : rangeT 0 7 = [.int 0, .int 1, .int 2, .int 3, .int 4, .int 5, .int 6] := by rfl
theorem sl_tl0 {a : T} {l : List T} {S : Store} {R : T → Store → Prop} (q : R (.tup l) S) : kSl (.tup (a :: l)) (some 1) none S R := by
  have e1 : HT.sIx (a :: l).length 0 (some 1) = 1 := by
    have := HT.sIx_nat (a :: l).length 0 1
    have m : min 1 (a :: l).length = 1 := by simp
    rw [m] at this
    exact this
  have e2 : HT.sIx (a :: l).length (a :: l).length none = (a :: l).length := rfl
  refine ⟨by rw [e1]; omega, ?_⟩
  have : cutT (a :: l) (some 1) none = l := by
    unfold cutT
    rw [e1, e2]
    simp
  rw [this]
  exact q
theorem cut0 {a : T} {l : List T} : cutT (a :: l) (some 1) none = l := by
  have e1 : HT.sIx (a :: l).length 0 (some 1) = 1 := by
    have := HT.sIx_nat (a :: l).length 0 1
    have m : min 1 (a :: l).length = 1 := by simp
    rw [m] at this
    exact this
  have e2 : HT.sIx (a :: l).length (a :: l).length none = (a :: l).length := rfl
  unfold cutT
  rw [e1, e2]
  simp
theorem sIx1 {n : Nat} : HT.sIx (n + 1) 0 (some 1) = 1 := by
  have := HT.sIx_nat (n + 1) 0 1
  have m : min 1 (n + 1) = 1 := by omega
  rw [m] at this
  exact this
theorem SmT.word {k : Str} (h : (reprText k).length ≤ 100) : SmT 1 100 (.str k) :=
  ⟨.str k, by rw [T.dat], by simp only [PyData.showable], by simp only [PyData.hasDict], by simp only [PyData.depth]; omega, by rw [PyData.shown_str]; exact h⟩
theorem keep_repr {t : Bool} {k : Str} (h : inT (.str k) (if t = true then keepsH else keepsW) = true) : (reprText k).length ≤ 100 := by
  have g : ∀ (l : List T), (∀ y ∈ l, ∃ z : Str, y = .str z ∧ (reprText z).length ≤ 100) → inT (.str k) l = true → (reprText k).length ≤ 100 := fun l hl h => by
    unfold inT at h
    obtain ⟨y, m, e⟩ := List.any_eq_true.mp h
    obtain ⟨z, rfl, lz⟩ := hl y m
    have : z = k := by simpa [eqT] using e
    rw [← this]; exact lz
  cases t
  · refine g keepsW (fun y m => ?_) h
    simp only [keepsW, List.mem_cons, List.not_mem_nil, or_false] at m
    rcases m with rfl | rfl | rfl <;> exact ⟨_, rfl, by decide +kernel⟩
  · refine g keepsH (fun y m => ?_) h
    simp only [keepsH, List.mem_cons, List.not_mem_nil, or_false] at m
    rcases m with rfl | rfl | rfl <;> exact ⟨_, rfl, by decide +kernel⟩
theorem Bx.sm {w : Int} (h : Bx w) : SmT 1 601 (.int w) := SmT.int (h.pn.up (m := 1900) (by decide)).lt
theorem Wd.sm {d : Wd} (g : d.good) : SmT 2 3000 (.lst d.more) := by
  cases d with
  | sc b w h c => exact (SmT.lst (SmL.cons g.1.sm (SmL.cons g.2.sm (SmL.cons ((SmT.bool c).up (by decide) (by decide : 5 ≤ 5)) SmL.nil)))).up (by decide) (by decide)
  | cr t w h k => exact (SmT.lst (SmL.cons g.1.sm (SmL.cons g.2.1.sm (SmL.cons (SmT.word (keep_repr g.2.2)) SmL.nil)))).up (by decide) (by decide)
  | tu n => exact (SmT.lst (SmL.cons (Bx.tu g).sm SmL.nil)).up (by decide) (by decide)
  | ori p => exact (SmT.lst (SmL.nil (k := 1))).up (by decide) (by decide)
theorem wd7 {K : PySem.W.Frag} {CS CG CW CH CT CL CP : Addr} {d : Wd} (i1 : InC K CS "WORD" (.str "shrink")) (i2 : InC K CG "WORD" (.str "grow")) (i3 : InC K CW "WORD" (.str "width")) (i4 : InC K CH "WORD" (.str "height")) (i5 : InC K CT "WORD" (.str "turn")) (i6 : InC K CL "WORD" (.str "landscape")) (i7 : InC K CP "WORD" (.str "portrait")) {S : Store} {REST : T → Prop} (kk : REST (.str d.word)) :
    ∃ C gs, insOf (d.st CS CG CW CH CT CL CP) S = some (C, gs) ∧ ∃ x, InC K C "WORD" x ∧ gs.lookup ("WORD" : Str) = none ∧ REST x := by
  cases d with
  | sc b w h c =>
    cases b with
    | false => exact ⟨_, _, rfl, _, i1, lkN (by decide +kernel) (by decide +kernel) (by decide +kernel), kk⟩
    | true => exact ⟨_, _, rfl, _, i2, lkN (by decide +kernel) (by decide +kernel) (by decide +kernel), kk⟩
  | cr t w h k =>
    cases t with
    | false => exact ⟨_, _, rfl, _, i3, lkN (by decide +kernel) (by decide +kernel) (by decide +kernel), kk⟩
    | true => exact ⟨_, _, rfl, _, i4, lkN (by decide +kernel) (by decide +kernel) (by decide +kernel), kk⟩
  | tu n => exact ⟨_, _, rfl, _, i5, lkN1 (by decide +kernel), kk⟩
  | ori p =>
    cases p with
    | false => exact ⟨_, _, rfl, _, i6, List.lookup_nil, kk⟩
    | true => exact ⟨_, _, rfl, _, i7, List.lookup_nil, kk⟩
theorem eqStS {a : Str} {S : Store} {R : T → Store → Prop} {RE : XT} (q : R (.bl false) S) : kEqG true (.str a) (.str a) S R RE := .inl ⟨rfl, by show R (.bl (true ^^ decide (a = a))) S; rw [decide_eq_true rfl]; exact q⟩
theorem due_eq {i : Nat} (hi : i < 7) : [T.bl (decide ((0 : Int) = (i : Int))), .bl (decide ((1 : Int) = (i : Int))), .bl (decide ((2 : Int) = (i : Int))), .bl (decide ((3 : Int) = (i : Int))), .bl (decide ((4 : Int) = (i : Int))), .bl (decide ((5 : Int) = (i : Int))), .bl (decide ((6 : Int) = (i : Int))), .bl (decide ((i : Int) < 2)), .bl (inT (.int (i : Int)) [.int 2, .int 3]), .bl true] = (clsN i).map T.bl := by
  have h : i = 0 ∨ i = 1 ∨ i = 2 ∨ i = 3 ∨ i = 4 ∨ i = 5 ∨ i = 6 := by omega
  rcases h with rfl | rfl | rfl | rfl | rfl | rfl | rfl <;> rfl
theorem clsN_ok {i : Nat} (hi : i < 7) : (PyData.eqv (.list ((clsN i).map .bool)) (.list ((clsN i).map .bool)) && SeqAt.shaped (.list ((clsN i).map .bool))) = true := by
  have h : i = 0 ∨ i = 1 ∨ i = 2 ∨ i = 3 ∨ i = 4 ∨ i = 5 ∨ i = 6 := by omega
  rcases h with rfl | rfl | rfl | rfl | rfl | rfl | rfl <;> decide +kernel
theorem sc_l_spec_right : FnScope ["_law_spec", "_law_at", "_law_due", "_law_k", "_law_made", "_law_line"] ["_law_spec"] (defScope s_l_spec_right) := ⟨rfl, rfl, rfl, by decide +kernel, rfl, by decide +kernel, by decide +kernel⟩
def sp_l_spec_right (CS CG CW CH CT CL CP : Addr) : SpT := fun ts S R _ => match ts with
  | [x] => ∃ d : Wd, d.good ∧ x = d.t ∧ R (.bl true) S
  | _ => False
set_option maxHeartbeats 6400000 in
theorem ok_l_spec_right {P : Program} {w : World} {K : PySem.W.Frag} {mg : Str → Option Value} {base : Heap} {f : Addr} {fd : FuncData} {g_l_made_twice C_Shrink C_Grow C_CropWidth C_CropHeight C_Turn C_Landscape C_Portrait g_Step_repr g_Step_str g_l_shown g_l_parts g_l_classes : Addr} {gd_l_made_twice : FuncData} {gd_Step_repr : FuncData} {gd_Step_str : FuncData} {gd_l_shown : FuncData} {gd_l_parts : FuncData} {gd_l_classes : FuncData} (F : Fun K "_law_spec_right" "_law_spec_right" s_l_spec_right f fd)
    (n_repr : mg "repr" = none)
    (n_str : mg "str" = none)
    (n_list : mg "list" = none)
    (n_range : mg "range" = none)
    (G_l_made_twice : FnT P w K mg base 7 g_l_made_twice gd_l_made_twice ["_law_spec"] (sp_l_made_twice C_Shrink C_Grow C_CropWidth C_CropHeight C_Turn C_Landscape C_Portrait))
    (m_l_made_twice : mg "_law_made_twice" = some (.ref g_l_made_twice))
    (k_l_made_twice : PySem.W.keepIn K (.ref g_l_made_twice) = true)
    (b_l_made_twice : Binds K gd_l_made_twice ["_law_spec"] [])
    (G_Step_repr : FnT P w K mg base 5 g_Step_repr gd_Step_repr ["self"] (sp_Step_repr C_Shrink C_Grow C_CropWidth C_CropHeight C_Turn C_Landscape C_Portrait))
    (b_Step_repr : Binds K gd_Step_repr ["self"] [])
    (G_Step_str : FnT P w K mg base 2 g_Step_str gd_Step_str ["self"] (sp_Step_str C_Shrink C_Grow C_CropWidth C_CropHeight C_Turn C_Landscape C_Portrait))
    (b_Step_str : Binds K gd_Step_str ["self"] [])
    (G_l_shown : FnT P w K mg base 1 g_l_shown gd_l_shown ["_law_spec"] sp_l_shown)
    (m_l_shown : mg "_law_shown" = some (.ref g_l_shown))
    (k_l_shown : PySem.W.keepIn K (.ref g_l_shown) = true)
    (b_l_shown : Binds K gd_l_shown ["_law_spec"] [])
    (G_l_parts : FnT P w K mg base 1 g_l_parts gd_l_parts ["_law_spec", "_law_made"] (sp_l_parts C_Shrink C_Grow C_CropWidth C_CropHeight C_Turn C_Landscape C_Portrait))
    (m_l_parts : mg "_law_parts" = some (.ref g_l_parts))
    (k_l_parts : PySem.W.keepIn K (.ref g_l_parts) = true)
    (b_l_parts : Binds K gd_l_parts ["_law_spec", "_law_made"] [])
    (G_l_classes : FnT P w K mg base 1 g_l_classes gd_l_classes ["_law_made"] (sp_l_classes C_Shrink C_Grow C_CropWidth C_CropHeight C_Turn C_Landscape C_Portrait))
    (m_l_classes : mg "_law_classes" = some (.ref g_l_classes))
    (k_l_classes : PySem.W.keepIn K (.ref g_l_classes) = true)
    (b_l_classes : Binds K gd_l_classes ["_law_made"] [])
    (od_Shrink_repr : OwnDef K C_Shrink "__repr__" g_Step_repr)
    (od_Grow_repr : OwnDef K C_Grow "__repr__" g_Step_repr)
    (od_CropWidth_repr : OwnDef K C_CropWidth "__repr__" g_Step_repr)
    (od_CropHeight_repr : OwnDef K C_CropHeight "__repr__" g_Step_repr)
    (od_Turn_repr : OwnDef K C_Turn "__repr__" g_Step_repr)
    (od_Landscape_repr : OwnDef K C_Landscape "__repr__" g_Step_repr)
    (od_Portrait_repr : OwnDef K C_Portrait "__repr__" g_Step_repr)
    (od_Shrink_str : OwnDef K C_Shrink "__str__" g_Step_str)
    (od_Grow_str : OwnDef K C_Grow "__str__" g_Step_str)
    (od_CropWidth_str : OwnDef K C_CropWidth "__str__" g_Step_str)
    (od_CropHeight_str : OwnDef K C_CropHeight "__str__" g_Step_str)
    (od_Turn_str : OwnDef K C_Turn "__str__" g_Step_str)
    (od_Landscape_str : OwnDef K C_Landscape "__str__" g_Step_str)
    (od_Portrait_str : OwnDef K C_Portrait "__str__" g_Step_str)
    (ic_Shrink_WORD : InC K C_Shrink "WORD" (.str "shrink"))
    (ic_Grow_WORD : InC K C_Grow "WORD" (.str "grow"))
    (ic_CropWidth_WORD : InC K C_CropWidth "WORD" (.str "width"))
    (ic_CropHeight_WORD : InC K C_CropHeight "WORD" (.str "height"))
    (ic_Turn_WORD : InC K C_Turn "WORD" (.str "turn"))
    (ic_Landscape_WORD : InC K C_Landscape "WORD" (.str "landscape"))
    (ic_Portrait_WORD : InC K C_Portrait "WORD" (.str "portrait"))
    : FnT P w K mg base 8 f fd ["_law_spec"] (sp_l_spec_right C_Shrink C_Grow C_CropWidth C_CropHeight C_Turn C_Landscape C_Portrait) := by
  refine okT F sc_l_spec_right (by intro ts S R RE h; unfold sp_l_spec_right at h; split at h <;> first | rfl | exact h.elim) (fun cdv A out s H E hg hr => (bs_cons (ss_set (i := 1) sc_l_spec_right.nd rfl (by first | exact Or.inl rfl | exact Or.inr rfl) (et_lidx (et_lst (at_cons et_str (at_cons et_str (at_cons et_str (at_cons et_str (at_cons et_str (at_cons et_str (at_cons et_str at_nil)))))))) (at_cons (et_ix ix_seq cv_ix (et_var (pv 0)) et_int (fun _ _ => rfl)) at_nil)))
    (bs_cons (ss_set (i := 2) sc_l_spec_right.nd rfl (by first | exact Or.inl rfl | exact Or.inr rfl) (et_op op_addG cv_add (et_lc (x := "_law_k") (j := 3) (by rfl) sc_l_spec_right.nd (it_range1 (by rfl) n_range (at_cons et_int at_nil)) (blkOk_by (own := [("_law_k", 3)]) (N := ["_law_spec", "_law_at", "_law_due", "_law_k", "_law_made", "_law_line"]) (sc := defScope s_l_spec_right) (by decide +kernel)) (fun _ _ _ _ _ => pg_name (i := 3) sc_l_spec_right.nd rfl (by first | exact Or.inl rfl | exact Or.inr rfl)) (fun _ _ _ _ _ => tts_nil) (fun _ _ _ _ _ => (et_cmp (op_eqG hr.units) cv_eq (et_var (pv 3)) (et_var (pv 1)) (nomark _)))) (et_lst (at_cons (et_cmp op_lt cv_B2n (et_var (pv 1)) et_int (nomark _)) (at_cons (et_cmp op_inG cv_in (et_var (pv 1)) (et_tup (at_cons et_int (at_cons et_int at_nil))) (by rfl)) (at_cons et_bl at_nil))))))
    (bs_cons (ss_for (passes_of rfl) rfl (it_seq (et_callD G_l_made_twice hg (hr.mono (by decide)) (by rfl) m_l_made_twice k_l_made_twice (CallD.all b_l_made_twice) (passL2N (L2N.takes_of rfl rfl rfl rfl)) (at_cons (et_var (pv 0)) at_nil))) (gt_name (pg_name (i := 4) sc_l_spec_right.nd rfl (by first | exact Or.inl rfl | exact Or.inr rfl))) (bs_cons (ss_if (tt_w (tw_or (tt_cmp (op_neG hr.units) cv_ne (et_callD G_l_classes hg (hr.mono (by decide)) (by rfl) m_l_classes k_l_classes (CallD.all b_l_classes) (passL2N (L2N.takes_of rfl rfl rfl rfl)) (at_cons (et_var (pv 4)) at_nil)) (et_var (pv 2)) (nomark _)) (tw_or1 (tt_cmp (op_neG hr.units) cv_ne (et_blt (reprData hg (roomR hr)) cv_repr (by rfl) n_repr PyProof.Rows.boot_repr (at_cons (et_callD G_l_parts hg (hr.mono (by decide)) (by rfl) m_l_parts k_l_parts (CallD.all b_l_parts) (passL2N (L2N.takes_of rfl rfl rfl rfl)) (at_cons (et_var (pv 0)) (at_cons (et_var (pv 4)) at_nil))) at_nil)) (et_blt (reprData hg (roomR hr)) cv_repr (by rfl) n_repr PyProof.Rows.boot_repr (at_cons (et_typ call_list_of cv_list (by rfl) n_list PyProof.Rows.boot_list (at_cons (et_slice (et_var (pv 0)) (ot_some et_int) ot_none) at_nil)) at_nil)) (nomark _))))) (bs_one (ss_ret et_bl)) bs_nil)
    (bs_cons (ss_set (i := 5) sc_l_spec_right.nd rfl (by first | exact Or.inl rfl | exact Or.inr rfl) (et_callD G_l_shown hg (hr.mono (by decide)) (by rfl) m_l_shown k_l_shown (CallD.all b_l_shown) (passL2N (L2N.takes_of rfl rfl rfl rfl)) (at_cons (et_var (pv 0)) at_nil)))
    (bs_one (ss_if (tt_w (tw_or (tt_cmp (op_neG hr.units) cv_ne (et_conK K rfl (et_var (pv 4))) (et_ix ix_seq cv_ix (et_var (pv 0)) et_int (fun _ _ => rfl)) (nomark _)) (tw_or (tt_cmp (op_neG hr.units) cv_ne (et_typ (strOwnT (StrD.or (StrD.one od_Shrink_str G_Step_str (hr.mono (by decide)) b_Step_str) (StrD.or (StrD.one od_Grow_str G_Step_str (hr.mono (by decide)) b_Step_str) (StrD.or (StrD.one od_CropWidth_str G_Step_str (hr.mono (by decide)) b_Step_str) (StrD.or (StrD.one od_CropHeight_str G_Step_str (hr.mono (by decide)) b_Step_str) (StrD.or (StrD.one od_Turn_str G_Step_str (hr.mono (by decide)) b_Step_str) (StrD.or (StrD.one od_Landscape_str G_Step_str (hr.mono (by decide)) b_Step_str) (StrD.one od_Portrait_str G_Step_str (hr.mono (by decide)) b_Step_str))))))) hg) cv_strOwn (by rfl) n_str PyProof.Rows.boot_str (at_cons (et_var (pv 4)) at_nil)) (et_var (pv 5)) (nomark _)) (tw_or1 (tt_cmp (op_neG hr.units) cv_ne (et_blt (reprOwnT (StrD.or (StrD.one od_Shrink_repr G_Step_repr (hr.mono (by decide)) b_Step_repr) (StrD.or (StrD.one od_Grow_repr G_Step_repr (hr.mono (by decide)) b_Step_repr) (StrD.or (StrD.one od_CropWidth_repr G_Step_repr (hr.mono (by decide)) b_Step_repr) (StrD.or (StrD.one od_CropHeight_repr G_Step_repr (hr.mono (by decide)) b_Step_repr) (StrD.or (StrD.one od_Turn_repr G_Step_repr (hr.mono (by decide)) b_Step_repr) (StrD.or (StrD.one od_Landscape_repr G_Step_repr (hr.mono (by decide)) b_Step_repr) (StrD.one od_Portrait_repr G_Step_repr (hr.mono (by decide)) b_Step_repr))))))) hg) cv_strOwn (by rfl) n_repr PyProof.Rows.boot_repr (at_cons (et_var (pv 4)) at_nil)) (et_op op_addG cv_add (et_op op_addG cv_add et_str (et_var (pv 5))) et_str) (nomark _)))))) (bs_one (ss_ret et_bl)) bs_nil)))))
    (bs_one (ss_ret et_bl)))))) ?_
  intro ts S R RE h
  unfold sp_l_spec_right at h
  split at h
  · rename_i x
    obtain ⟨d, g, rfl, q⟩ := h
    have tq := d.t_eq
    refine sSeq_i fun N hN => ?_
    simp only [Wd.t_eq, sSeq, sAsg, sDrop, sRet, sRetN, sIf, sNext, sPar, sPar3, sFor, sRaise, sFldT, sNo, rNo, rVar, rFrz, rC, rBin, rTest, bAnd, bOr, bNot, bIf, vAnd, vOr, vNot, rIf, rNeg, aNil, aCons, rTup, rLst, rLstC, rArgs, gNameT, gNilT, gConsT, gTupT, gSubT, iSeq, iRng1T, iRng2T, rLc, rCall, rCallN, rCallS, rFld, rCon, rMake, rMakeN, rMakeP, rMeth, rMethK, rProp, rClsFn, rOpOwn, rSl, oNone, oSome, rFmt, kFmt, rJs, rLidx, kStrOwn, kAddC, rMut, kAdd, kI2, kI2n, kMul, kIx, kIn, kLen, kU, kA2, kDm, kStrI, kAll, kSl, kAppend, kExtend, kTuple, kList, lenT, seqOf, bYes, startT, one, pickG, selG, insOf, putT, flatT, Bool.false_xor, Bool.true_xor, List.all_cons, List.all_nil, Bool.and_self, T.int.injEq, T.bl.injEq, T.str.injEq, T.lst.injEq, T.tup.injEq, T.cell.injEq, T.ins.injEq, Cell.lst.injEq, Cell.ins.injEq, Prod.mk.injEq, List.cons.injEq, Option.some.injEq, List.map_cons, List.map_nil, List.length_cons, List.length_nil, List.cons_append, List.nil_append, List.append_nil, List.getElem?_cons_zero, List.getElem?_cons_succ, List.set_cons_zero, List.set_cons_succ, List.replicate_succ, List.replicate_zero, exists_eq_left, exists_eq_left', exists_and_left, and_true, true_and, and_self, and_assoc, Nat.sub_self, Nat.reduceAdd, Nat.reduceSub, Nat.zero_add, put_put, put_same, reduceIte, Bool.false_eq_true, Bool.true_eq_false, Bool.not_true, Bool.not_false, at_0, at_1, at_2, at_3, at_4, at_5, at_6, at_7, ix_1_0, ix_2_0, ix_2_1, ix_3_0, ix_3_1, ix_3_2, ix_4_0, ix_4_1, ix_4_2, ix_4_3]
    refine ⟨by decide, d.ix, d.idx, hN _ _ ?_⟩
    have il := d.ix_lt
    refine sSeq_i fun N hN => ?_
    simp only [range7, rComp, sSeq, sAsg, sDrop, sRet, sRetN, sIf, sNext, sPar, sPar3, sFor, sRaise, sFldT, sNo, rNo, rVar, rFrz, rC, rBin, rTest, bAnd, bOr, bNot, bIf, vAnd, vOr, vNot, rIf, rNeg, aNil, aCons, rTup, rLst, rLstC, rArgs, gNameT, gNilT, gConsT, gTupT, gSubT, iSeq, iRng1T, iRng2T, rLc, rCall, rCallN, rCallS, rFld, rCon, rMake, rMakeN, rMakeP, rMeth, rMethK, rProp, rClsFn, rOpOwn, rSl, oNone, oSome, rFmt, kFmt, rJs, rLidx, kStrOwn, kAddC, rMut, kAdd, kI2, kI2n, kMul, kIx, kIn, kLen, kU, kA2, kDm, kStrI, kAll, kSl, kAppend, kExtend, kTuple, kList, lenT, seqOf, bYes, startT, one, pickG, selG, insOf, putT, flatT, Bool.false_xor, Bool.true_xor, List.all_cons, List.all_nil, Bool.and_self, T.int.injEq, T.bl.injEq, T.str.injEq, T.lst.injEq, T.tup.injEq, T.cell.injEq, T.ins.injEq, Cell.lst.injEq, Cell.ins.injEq, Prod.mk.injEq, List.cons.injEq, Option.some.injEq, List.map_cons, List.map_nil, List.length_cons, List.length_nil, List.cons_append, List.nil_append, List.append_nil, List.getElem?_cons_zero, List.getElem?_cons_succ, List.set_cons_zero, List.set_cons_succ, List.replicate_succ, List.replicate_zero, exists_eq_left, exists_eq_left', exists_and_left, and_true, true_and, and_self, and_assoc, Nat.sub_self, Nat.reduceAdd, Nat.reduceSub, Nat.zero_add, put_put, put_same, reduceIte, Bool.false_eq_true, Bool.true_eq_false, Bool.not_true, Bool.not_false, at_0, at_1, at_2, at_3, at_4, at_5, at_6, at_7, ix_1_0, ix_2_0, ix_2_1, ix_3_0, ix_3_1, ix_3_2, ix_4_0, ix_4_1, ix_4_2, ix_4_3]
    refine ⟨by decide, by decide, eqI0 ⟨by decide, eqI0 ⟨by decide, eqI0 ⟨by decide, eqI0 ⟨by decide, eqI0 ⟨by decide, eqI0 ⟨by decide, eqI0 ⟨by decide, by decide, by decide, by decide, hN _ _ ?_⟩⟩⟩⟩⟩⟩⟩⟩
    rw [due_eq il, ← Wd.cls_n]
    refine sSeq_i fun N hN => ?_
    simp only [sSeq, sAsg, sDrop, sRet, sRetN, sIf, sNext, sPar, sPar3, sFor, sRaise, sFldT, sNo, rNo, rVar, rFrz, rC, rBin, rTest, bAnd, bOr, bNot, bIf, vAnd, vOr, vNot, rIf, rNeg, aNil, aCons, rTup, rLst, rLstC, rArgs, gNameT, gNilT, gConsT, gTupT, gSubT, iSeq, iRng1T, iRng2T, rLc, rCall, rCallN, rCallS, rFld, rCon, rMake, rMakeN, rMakeP, rMeth, rMethK, rProp, rClsFn, rOpOwn, rSl, oNone, oSome, rFmt, kFmt, rJs, rLidx, kStrOwn, kAddC, rMut, kAdd, kI2, kI2n, kMul, kIx, kIn, kLen, kU, kA2, kDm, kStrI, kAll, kSl, kAppend, kExtend, kTuple, kList, lenT, seqOf, bYes, startT, one, pickG, selG, insOf, putT, flatT, Bool.false_xor, Bool.true_xor, List.all_cons, List.all_nil, Bool.and_self, T.int.injEq, T.bl.injEq, T.str.injEq, T.lst.injEq, T.tup.injEq, T.cell.injEq, T.ins.injEq, Cell.lst.injEq, Cell.ins.injEq, Prod.mk.injEq, List.cons.injEq, Option.some.injEq, List.map_cons, List.map_nil, List.length_cons, List.length_nil, List.cons_append, List.nil_append, List.append_nil, List.getElem?_cons_zero, List.getElem?_cons_succ, List.set_cons_zero, List.set_cons_succ, List.replicate_succ, List.replicate_zero, exists_eq_left, exists_eq_left', exists_and_left, and_true, true_and, and_self, and_assoc, Nat.sub_self, Nat.reduceAdd, Nat.reduceSub, Nat.zero_add, put_put, put_same, reduceIte, Bool.false_eq_true, Bool.true_eq_false, Bool.not_true, Bool.not_false, at_0, at_1, at_2, at_3, at_4, at_5, at_6, at_7, ix_1_0, ix_2_0, ix_2_1, ix_3_0, ix_3_1, ix_3_2, ix_4_0, ix_4_1, ix_4_2, ix_4_3]
    refine ⟨d, tq.symm, g, ?_⟩
    refine ⟨_, rfl, ?_⟩
    refine rLoop_inv (fun _ σ S2 => S2 = S ∧ ∃ v4 v5, σ = [some (.tup (.str d.word :: d.more)), some (.int d.ix), some (.lst (d.cls.map T.bl)), none, v4, v5]) ⟨rfl, none, none, rfl⟩ ?_ ?_
    · rintro i t σ S2 hi ⟨rfl, v4, v5, rfl⟩ N' hN'
      have ht : t = d.st C_Shrink C_Grow C_CropWidth C_CropHeight C_Turn C_Landscape C_Portrait := by
        have m := List.mem_of_getElem? hi
        simp only [List.mem_cons, List.not_mem_nil, or_false, or_self] at m
        exact m
      subst ht
      have sm := Wd.sm g
      refine sSeq_i fun N hN => ?_
      simp only [cut0, sIx1, sSeq, sAsg, sDrop, sRet, sRetN, sIf, sNext, sPar, sPar3, sFor, sRaise, sFldT, sNo, rNo, rVar, rFrz, rC, rBin, rTest, bAnd, bOr, bNot, bIf, vAnd, vOr, vNot, rIf, rNeg, aNil, aCons, rTup, rLst, rLstC, rArgs, gNameT, gNilT, gConsT, gTupT, gSubT, iSeq, iRng1T, iRng2T, rLc, rCall, rCallN, rCallS, rFld, rCon, rMake, rMakeN, rMakeP, rMeth, rMethK, rProp, rClsFn, rOpOwn, rSl, oNone, oSome, rFmt, kFmt, rJs, rLidx, kStrOwn, kAddC, rMut, kAdd, kI2, kI2n, kMul, kIx, kIn, kLen, kU, kA2, kDm, kStrI, kAll, kSl, kAppend, kExtend, kTuple, kList, lenT, seqOf, bYes, startT, one, pickG, selG, insOf, putT, flatT, Bool.false_xor, Bool.true_xor, List.all_cons, List.all_nil, Bool.and_self, T.int.injEq, T.bl.injEq, T.str.injEq, T.lst.injEq, T.tup.injEq, T.cell.injEq, T.ins.injEq, Cell.lst.injEq, Cell.ins.injEq, Prod.mk.injEq, List.cons.injEq, Option.some.injEq, List.map_cons, List.map_nil, List.length_cons, List.length_nil, List.cons_append, List.nil_append, List.append_nil, List.getElem?_cons_zero, List.getElem?_cons_succ, List.set_cons_zero, List.set_cons_succ, List.replicate_succ, List.replicate_zero, exists_eq_left, exists_eq_left', exists_and_left, and_true, true_and, and_self, and_assoc, Nat.sub_self, Nat.reduceAdd, Nat.reduceSub, Nat.zero_add, put_put, put_same, reduceIte, Bool.false_eq_true, Bool.true_eq_false, Bool.not_true, Bool.not_false, at_0, at_1, at_2, at_3, at_4, at_5, at_6, at_7, ix_1_0, ix_2_0, ix_2_1, ix_3_0, ix_3_1, ix_3_2, ix_4_0, ix_4_1, ix_4_2, ix_4_3]
      refine ⟨d, g, rfl, ?_⟩
      refine ne_bls (clsN_ok il) ⟨false, rfl, ?_⟩
      rw [if_neg Bool.false_ne_true]
      refine ⟨d, g, tq.symm, rfl, repr_one rfl sm (by decide) (by decide) ⟨by omega, repr_one rfl sm (by decide) (by decide) (eqStS ⟨false, rfl, ?_⟩)⟩⟩
      rw [if_neg Bool.false_ne_true]
      refine hN _ _ ?_
      refine sSeq_i fun N hN => ?_
      simp only [sSeq, sAsg, sDrop, sRet, sRetN, sIf, sNext, sPar, sPar3, sFor, sRaise, sFldT, sNo, rNo, rVar, rFrz, rC, rBin, rTest, bAnd, bOr, bNot, bIf, vAnd, vOr, vNot, rIf, rNeg, aNil, aCons, rTup, rLst, rLstC, rArgs, gNameT, gNilT, gConsT, gTupT, gSubT, iSeq, iRng1T, iRng2T, rLc, rCall, rCallN, rCallS, rFld, rCon, rMake, rMakeN, rMakeP, rMeth, rMethK, rProp, rClsFn, rOpOwn, rSl, oNone, oSome, rFmt, kFmt, rJs, rLidx, kStrOwn, kAddC, rMut, kAdd, kI2, kI2n, kMul, kIx, kIn, kLen, kU, kA2, kDm, kStrI, kAll, kSl, kAppend, kExtend, kTuple, kList, lenT, seqOf, bYes, startT, one, pickG, selG, insOf, putT, flatT, Bool.false_xor, Bool.true_xor, List.all_cons, List.all_nil, Bool.and_self, T.int.injEq, T.bl.injEq, T.str.injEq, T.lst.injEq, T.tup.injEq, T.cell.injEq, T.ins.injEq, Cell.lst.injEq, Cell.ins.injEq, Prod.mk.injEq, List.cons.injEq, Option.some.injEq, List.map_cons, List.map_nil, List.length_cons, List.length_nil, List.cons_append, List.nil_append, List.append_nil, List.getElem?_cons_zero, List.getElem?_cons_succ, List.set_cons_zero, List.set_cons_succ, List.replicate_succ, List.replicate_zero, exists_eq_left, exists_eq_left', exists_and_left, and_true, true_and, and_self, and_assoc, Nat.sub_self, Nat.reduceAdd, Nat.reduceSub, Nat.zero_add, put_put, put_same, reduceIte, Bool.false_eq_true, Bool.true_eq_false, Bool.not_true, Bool.not_false, at_0, at_1, at_2, at_3, at_4, at_5, at_6, at_7, ix_1_0, ix_2_0, ix_2_1, ix_3_0, ix_3_1, ix_3_2, ix_4_0, ix_4_1, ix_4_2, ix_4_3]
      refine ⟨d, tq.symm, g, hN _ _ ?_⟩
      have lt := Wd.text_len g
      have l1 := ln1 (by decide : ("Step(" : Str).length ≤ 5) lt
      have l2 := ln1 l1 (by decide : (")" : Str).length ≤ 1)
      simp only [sSeq, sAsg, sDrop, sRet, sRetN, sIf, sNext, sPar, sPar3, sFor, sRaise, sFldT, sNo, rNo, rVar, rFrz, rC, rBin, rTest, bAnd, bOr, bNot, bIf, vAnd, vOr, vNot, rIf, rNeg, aNil, aCons, rTup, rLst, rLstC, rArgs, gNameT, gNilT, gConsT, gTupT, gSubT, iSeq, iRng1T, iRng2T, rLc, rCall, rCallN, rCallS, rFld, rCon, rMake, rMakeN, rMakeP, rMeth, rMethK, rProp, rClsFn, rOpOwn, rSl, oNone, oSome, rFmt, kFmt, rJs, rLidx, kStrOwn, kAddC, rMut, kAdd, kI2, kI2n, kMul, kIx, kIn, kLen, kU, kA2, kDm, kStrI, kAll, kSl, kAppend, kExtend, kTuple, kList, lenT, seqOf, bYes, startT, one, pickG, selG, insOf, putT, flatT, Bool.false_xor, Bool.true_xor, List.all_cons, List.all_nil, Bool.and_self, T.int.injEq, T.bl.injEq, T.str.injEq, T.lst.injEq, T.tup.injEq, T.cell.injEq, T.ins.injEq, Cell.lst.injEq, Cell.ins.injEq, Prod.mk.injEq, List.cons.injEq, Option.some.injEq, List.map_cons, List.map_nil, List.length_cons, List.length_nil, List.cons_append, List.nil_append, List.append_nil, List.getElem?_cons_zero, List.getElem?_cons_succ, List.set_cons_zero, List.set_cons_succ, List.replicate_succ, List.replicate_zero, exists_eq_left, exists_eq_left', exists_and_left, and_true, true_and, and_self, and_assoc, Nat.sub_self, Nat.reduceAdd, Nat.reduceSub, Nat.zero_add, put_put, put_same, reduceIte, Bool.false_eq_true, Bool.true_eq_false, Bool.not_true, Bool.not_false, at_0, at_1, at_2, at_3, at_4, at_5, at_6, at_7, ix_1_0, ix_2_0, ix_2_1, ix_3_0, ix_3_1, ix_3_2, ix_4_0, ix_4_1, ix_4_2, ix_4_3]
      refine wd7 ic_Shrink_WORD ic_Grow_WORD ic_CropWidth_WORD ic_CropHeight_WORD ic_Turn_WORD ic_Landscape_WORD ic_Portrait_WORD (eqStS ⟨false, rfl, ?_⟩)
      rw [if_neg Bool.false_ne_true]
      refine own7 (d := d) (P := sp_Step_str C_Shrink C_Grow C_CropWidth C_CropHeight C_Turn C_Landscape C_Portrait) ⟨d, g, rfl, ⟨_, rfl⟩, eqStS ⟨false, rfl, ?_⟩⟩
      rw [if_neg Bool.false_ne_true]
      refine own7 (d := d) (P := sp_Step_repr C_Shrink C_Grow C_CropWidth C_CropHeight C_Turn C_Landscape C_Portrait) ⟨d, g, rfl, ⟨_, rfl⟩, ?_⟩
      have es : (Str.empty ++ Str.ofString "Step(") = Str.ofString "Step(" := by decide +kernel
      have et : d.rtext = Str.ofString "Step(" ++ d.text ++ Str.ofString ")" := by
        unfold Wd.rtext
        rw [es]
      rw [et]
      refine ⟨Nat.le_trans (Nat.add_le_add (by decide : ("Step(" : Str).length ≤ 5) lt) (by decide), Nat.le_trans (Nat.add_le_add l1 (by decide : (")" : Str).length ≤ 1)) (by decide), eqStS ⟨false, rfl, ?_⟩⟩
      rw [if_neg Bool.false_ne_true]
      exact hN' _ _ ⟨rfl, _, _, rfl⟩
    · rintro σ S2 ⟨rfl, v4, v5, rfl⟩
      refine hN _ _ ?_
      simp only [sSeq, sAsg, sDrop, sRet, sRetN, sIf, sNext, sPar, sPar3, sFor, sRaise, sFldT, sNo, rNo, rVar, rFrz, rC, rBin, rTest, bAnd, bOr, bNot, bIf, vAnd, vOr, vNot, rIf, rNeg, aNil, aCons, rTup, rLst, rLstC, rArgs, gNameT, gNilT, gConsT, gTupT, gSubT, iSeq, iRng1T, iRng2T, rLc, rCall, rCallN, rCallS, rFld, rCon, rMake, rMakeN, rMakeP, rMeth, rMethK, rProp, rClsFn, rOpOwn, rSl, oNone, oSome, rFmt, kFmt, rJs, rLidx, kStrOwn, kAddC, rMut, kAdd, kI2, kI2n, kMul, kIx, kIn, kLen, kU, kA2, kDm, kStrI, kAll, kSl, kAppend, kExtend, kTuple, kList, lenT, seqOf, bYes, startT, one, pickG, selG, insOf, putT, flatT, Bool.false_xor, Bool.true_xor, List.all_cons, List.all_nil, Bool.and_self, T.int.injEq, T.bl.injEq, T.str.injEq, T.lst.injEq, T.tup.injEq, T.cell.injEq, T.ins.injEq, Cell.lst.injEq, Cell.ins.injEq, Prod.mk.injEq, List.cons.injEq, Option.some.injEq, List.map_cons, List.map_nil, List.length_cons, List.length_nil, List.cons_append, List.nil_append, List.append_nil, List.getElem?_cons_zero, List.getElem?_cons_succ, List.set_cons_zero, List.set_cons_succ, List.replicate_succ, List.replicate_zero, exists_eq_left, exists_eq_left', exists_and_left, and_true, true_and, and_self, and_assoc, Nat.sub_self, Nat.reduceAdd, Nat.reduceSub, Nat.zero_add, put_put, put_same, reduceIte, Bool.false_eq_true, Bool.true_eq_false, Bool.not_true, Bool.not_false, at_0, at_1, at_2, at_3, at_4, at_5, at_6, at_7, ix_1_0, ix_2_0, ix_2_1, ix_3_0, ix_3_1, ix_3_2, ix_4_0, ix_4_1, ix_4_2, ix_4_3]
      exact q
  · exact h.elim
theorem allT {ts ys : List T} (hl : ys.length = ts.length) (hF : ∀ (i : Nat) (t y : T), ts[i]? = some t → ys[i]? = some y → y = .bl true) : ys = (List.replicate ys.length true).map T.bl ∧ (List.replicate ys.length true).all id = true := by
  refine ⟨?_, by rw [List.all_replicate]; split <;> rfl⟩
  refine List.ext_getElem? fun k => ?_
  rw [List.getElem?_map, List.getElem?_replicate]
  by_cases hk : k < ys.length
  · have := hF k (ts[k]'(by omega)) ys[k] (List.getElem?_eq_getElem (by omega)) (List.getElem?_eq_getElem hk)
    rw [List.getElem?_eq_getElem hk, this, if_pos hk]
    rfl
  · rw [List.getElem?_eq_none (by omega), if_neg hk]
    rfl
theorem ctr : SmT 1 100 (.str "center") := SmT.word (by decide +kernel : (reprText "center").length ≤ 100)
theorem bx1 : Bx 1 := ⟨by decide, by decide⟩
theorem ne_dat {x : T} {v : PyData} {S : Store} {R : T → Store → Prop} {RE : XT} (e : x.dat = some v) (h : (PyData.eqv v v && SeqAt.shaped v) = true) (q : R (.bl false) S) : kEqG true x x S R RE := by
  rw [Bool.and_eq_true] at h
  exact .inr ⟨v, v, e, e, h.2, h.2, by rw [h.1]; exact q⟩
theorem sc_l_plain_right : FnScope ["_law_one", "_law_more", "_law_told"] ["_law_one", "_law_more"] (defScope s_l_plain_right) := ⟨rfl, rfl, rfl, by decide +kernel, rfl, by decide +kernel, by decide +kernel⟩
def sp_l_plain_right (CS CG CW CH CT : Addr) : SpT := fun ts S R _ => match ts with
  | [.int a, .int b] => Bx a ∧ Bx b ∧ R (.bl true) S
  | _ => False
set_option maxHeartbeats 3200000 in
theorem ok_l_plain_right {P : Program} {w : World} {K : PySem.W.Frag} {mg : Str → Option Value} {base : Heap} {f : Addr} {fd : FuncData} {g_Turn_init C_Turn g_CropHeight_init C_CropHeight g_CropWidth_init C_CropWidth g_Grow_init C_Grow g_Shrink_init C_Shrink : Addr} {gd_Turn_init : FuncData} {gd_CropHeight_init : FuncData} {gd_CropWidth_init : FuncData} {gd_Grow_init : FuncData} {gd_Shrink_init : FuncData} (F : Fun K "_law_plain_right" "_law_plain_right" s_l_plain_right f fd)
    (n_repr : mg "repr" = none)
    (G_Turn_init : FnT P w K mg base 3 g_Turn_init gd_Turn_init ["self", "times"] (sp_Turn_init K C_Turn))
    (cd_Turn_init_1 : CallD K gd_Turn_init ["self", "times"] [.int 1])
    (G_CropHeight_init : FnT P w K mg base 5 g_CropHeight_init gd_CropHeight_init ["self", "width", "height", "keep"] (sp_CropHeight_init C_CropHeight))
    (cd_CropHeight_init_1 : CallD K gd_CropHeight_init ["self", "width", "height", "keep"] [.str "center"])
    (G_CropWidth_init : FnT P w K mg base 5 g_CropWidth_init gd_CropWidth_init ["self", "width", "height", "keep"] (sp_CropWidth_init C_CropWidth))
    (cd_CropWidth_init_1 : CallD K gd_CropWidth_init ["self", "width", "height", "keep"] [.str "center"])
    (G_Grow_init : FnT P w K mg base 5 g_Grow_init gd_Grow_init ["self", "width", "height", "cover"] (sp_Grow_init C_Grow))
    (cd_Grow_init_1 : CallD K gd_Grow_init ["self", "width", "height", "cover"] [.bl false])
    (G_Shrink_init : FnT P w K mg base 5 g_Shrink_init gd_Shrink_init ["self", "width", "height", "cover"] (sp_Shrink_init C_Shrink))
    (cd_Shrink_init_1 : CallD K gd_Shrink_init ["self", "width", "height", "cover"] [.bl false])
    (m_Turn : mg "Turn" = some (.ref C_Turn))
    (M_Turn : Mk K C_Turn g_Turn_init)
    (m_CropHeight : mg "CropHeight" = some (.ref C_CropHeight))
    (M_CropHeight : Mk K C_CropHeight g_CropHeight_init)
    (m_CropWidth : mg "CropWidth" = some (.ref C_CropWidth))
    (M_CropWidth : Mk K C_CropWidth g_CropWidth_init)
    (m_Grow : mg "Grow" = some (.ref C_Grow))
    (M_Grow : Mk K C_Grow g_Grow_init)
    (m_Shrink : mg "Shrink" = some (.ref C_Shrink))
    (M_Shrink : Mk K C_Shrink g_Shrink_init)
    (nf_Shrink_cover : InF K C_Shrink "cover")
    (nf_Grow_cover : InF K C_Grow "cover")
    (nf_CropWidth_keep : InF K C_CropWidth "keep")
    (nf_CropHeight_keep : InF K C_CropHeight "keep")
    (nf_Turn_times : InF K C_Turn "times")
    : FnT P w K mg base 7 f fd ["_law_one", "_law_more"] (sp_l_plain_right C_Shrink C_Grow C_CropWidth C_CropHeight C_Turn) := by
  refine okT F sc_l_plain_right (by intro ts S R RE h; unfold sp_l_plain_right at h; split at h <;> first | rfl | exact h.elim) (fun cdv A out s H E hg hr => (bs_cons (ss_set (i := 2) sc_l_plain_right.nd rfl (by first | exact Or.inl rfl | exact Or.inr rfl) (et_lst (at_cons (et_fldK K rfl (et_make M_Shrink G_Shrink_init hg (hr.mono (by decide)) (by rfl) m_Shrink cd_Shrink_init_1 (passL2N (L2N.takes_of rfl rfl rfl rfl)) (at_cons (et_var (pv 0)) (at_cons (et_var (pv 1)) at_nil)))) (at_cons (et_fldK K rfl (et_make M_Grow G_Grow_init hg (hr.mono (by decide)) (by rfl) m_Grow cd_Grow_init_1 (passL2N (L2N.takes_of rfl rfl rfl rfl)) (at_cons (et_var (pv 0)) (at_cons (et_var (pv 1)) at_nil)))) (at_cons (et_fldK K rfl (et_make M_CropWidth G_CropWidth_init hg (hr.mono (by decide)) (by rfl) m_CropWidth cd_CropWidth_init_1 (passL2N (L2N.takes_of rfl rfl rfl rfl)) (at_cons (et_var (pv 0)) (at_cons (et_var (pv 1)) at_nil)))) (at_cons (et_fldK K rfl (et_make M_CropHeight G_CropHeight_init hg (hr.mono (by decide)) (by rfl) m_CropHeight cd_CropHeight_init_1 (passL2N (L2N.takes_of rfl rfl rfl rfl)) (at_cons (et_var (pv 0)) (at_cons (et_var (pv 1)) at_nil)))) at_nil))))))
    (bs_one (ss_ret (et_cmp (op_eqG hr.units) cv_eq (et_blt (reprData hg (roomR hr)) cv_repr (by rfl) n_repr PyProof.Rows.boot_repr (at_cons (et_op op_addG cv_add (et_var (pv 2)) (et_lst (at_cons (et_fldK K rfl (et_make0 M_Turn G_Turn_init hg (hr.mono (by decide)) (by rfl) m_Turn cd_Turn_init_1 (passL2N (L2N.takes_of rfl rfl rfl rfl)))) at_nil))) at_nil)) (et_blt (reprData hg (roomR hr)) cv_repr (by rfl) n_repr PyProof.Rows.boot_repr (at_cons (et_lst (at_cons et_bl (at_cons et_bl (at_cons et_str (at_cons et_str (at_cons et_int at_nil)))))) at_nil)) (nomark _)))))) ?_
  intro ts S R RE h
  unfold sp_l_plain_right at h
  split at h
  · rename_i a b
    obtain ⟨ha, hb, q⟩ := h
    refine sSeq_i fun N hN => ?_
    simp only [sSeq, sAsg, sDrop, sRet, sRetN, sIf, sNext, sPar, sPar3, sFor, sRaise, sFldT, sNo, rNo, rVar, rFrz, rC, rBin, rTest, bAnd, bOr, bNot, bIf, vAnd, vOr, vNot, rIf, rNeg, aNil, aCons, rTup, rLst, rLstC, rArgs, gNameT, gNilT, gConsT, gTupT, gSubT, iSeq, iRng1T, iRng2T, rLc, rCall, rCallN, rCallS, rFld, rCon, rMake, rMakeN, rMakeP, rMeth, rMethK, rProp, rClsFn, rOpOwn, rSl, oNone, oSome, rFmt, kFmt, rJs, rLidx, kStrOwn, kAddC, rMut, kAdd, kI2, kI2n, kMul, kIx, kIn, kLen, kU, kA2, kDm, kStrI, kAll, kSl, kAppend, kExtend, kTuple, kList, lenT, seqOf, bYes, startT, one, pickG, selG, insOf, putT, flatT, Bool.false_xor, Bool.true_xor, List.all_cons, List.all_nil, Bool.and_self, T.int.injEq, T.bl.injEq, T.str.injEq, T.lst.injEq, T.tup.injEq, T.cell.injEq, T.ins.injEq, Cell.lst.injEq, Cell.ins.injEq, Prod.mk.injEq, List.cons.injEq, Option.some.injEq, List.map_cons, List.map_nil, List.length_cons, List.length_nil, List.cons_append, List.nil_append, List.append_nil, List.getElem?_cons_zero, List.getElem?_cons_succ, List.set_cons_zero, List.set_cons_succ, List.replicate_succ, List.replicate_zero, exists_eq_left, exists_eq_left', exists_and_left, and_true, true_and, and_self, and_assoc, Nat.sub_self, Nat.reduceAdd, Nat.reduceSub, Nat.zero_add, put_put, put_same, reduceIte, Bool.false_eq_true, Bool.true_eq_false, Bool.not_true, Bool.not_false, at_0, at_1, at_2, at_3, at_4, at_5, at_6, at_7, ix_1_0, ix_2_0, ix_2_1, ix_3_0, ix_3_1, ix_3_2, ix_4_0, ix_4_1, ix_4_2, ix_4_3]
    refine mk_shG ha hb fun u hu => ?_
    simp only [put_drop hu]
    refine ⟨nf_Shrink_cover, _, stF_c, ?_⟩
    refine mk_grG ha hb fun u hu => ?_
    simp only [put_drop hu]
    refine ⟨nf_Grow_cover, _, stF_c, ?_⟩
    refine mk_cwG ha hb (by decide +kernel) fun u hu => ?_
    simp only [put_drop hu]
    refine ⟨nf_CropWidth_keep, _, crF_k, ?_⟩
    refine mk_chG ha hb (by decide +kernel) fun u hu => ?_
    simp only [put_drop hu]
    refine ⟨nf_CropHeight_keep, _, crF_k, by decide, hN _ _ ?_⟩
    simp only [sSeq, sAsg, sDrop, sRet, sRetN, sIf, sNext, sPar, sPar3, sFor, sRaise, sFldT, sNo, rNo, rVar, rFrz, rC, rBin, rTest, bAnd, bOr, bNot, bIf, vAnd, vOr, vNot, rIf, rNeg, aNil, aCons, rTup, rLst, rLstC, rArgs, gNameT, gNilT, gConsT, gTupT, gSubT, iSeq, iRng1T, iRng2T, rLc, rCall, rCallN, rCallS, rFld, rCon, rMake, rMakeN, rMakeP, rMeth, rMethK, rProp, rClsFn, rOpOwn, rSl, oNone, oSome, rFmt, kFmt, rJs, rLidx, kStrOwn, kAddC, rMut, kAdd, kI2, kI2n, kMul, kIx, kIn, kLen, kU, kA2, kDm, kStrI, kAll, kSl, kAppend, kExtend, kTuple, kList, lenT, seqOf, bYes, startT, one, pickG, selG, insOf, putT, flatT, Bool.false_xor, Bool.true_xor, List.all_cons, List.all_nil, Bool.and_self, T.int.injEq, T.bl.injEq, T.str.injEq, T.lst.injEq, T.tup.injEq, T.cell.injEq, T.ins.injEq, Cell.lst.injEq, Cell.ins.injEq, Prod.mk.injEq, List.cons.injEq, Option.some.injEq, List.map_cons, List.map_nil, List.length_cons, List.length_nil, List.cons_append, List.nil_append, List.append_nil, List.getElem?_cons_zero, List.getElem?_cons_succ, List.set_cons_zero, List.set_cons_succ, List.replicate_succ, List.replicate_zero, exists_eq_left, exists_eq_left', exists_and_left, and_true, true_and, and_self, and_assoc, Nat.sub_self, Nat.reduceAdd, Nat.reduceSub, Nat.zero_add, put_put, put_same, reduceIte, Bool.false_eq_true, Bool.true_eq_false, Bool.not_true, Bool.not_false, at_0, at_1, at_2, at_3, at_4, at_5, at_6, at_7, ix_1_0, ix_2_0, ix_2_1, ix_3_0, ix_3_1, ix_3_2, ix_4_0, ix_4_1, ix_4_2, ix_4_3]
    refine mk_tuG (by decide) (by decide) fun u hu => ?_
    simp only [put_drop hu]
    have ctr3 := ctr.up (Nat.le_refl 1) (by decide : 100 ≤ 601)
    have sm : SmT 2 4000 (.lst [.bl false, .bl false, .str "center", .str "center", .int 1]) := (SmT.lst (SmL.cons ((SmT.bool false).up (by decide) (by decide : 5 ≤ 601)) (SmL.cons ((SmT.bool false).up (by decide) (by decide : 5 ≤ 601)) (SmL.cons ctr3 (SmL.cons ctr3 (SmL.cons (Bx.sm bx1) SmL.nil)))))).up (by decide) (by decide)
    refine ⟨nf_Turn_times, _, tuF_t, by decide, by decide, repr_one rfl sm (by decide) (by decide) ⟨by decide, repr_one rfl sm (by decide) (by decide) (.inl ⟨rfl, ?_⟩)⟩⟩
    show R (.bl (false ^^ decide (shownT _ = shownT _))) S
    rw [decide_eq_true rfl]
    exact q
  · exact h.elim
theorem sc_l_right : FnScope ["_law_pool_here", "_law_every", "_law_turn", "_law_spec"] ["_law_pool_here"] (defScope s_l_right) := ⟨rfl, rfl, rfl, by decide +kernel, rfl, by decide +kernel, by decide +kernel⟩
def sp_l_right (CS CG CW CH CT CL CP : Addr) : SpT := fun ts S R _ => match ts with
  | [.cell p] => PoolT S p ∧ ∀ S', R (.bl true) S'
  | _ => False
set_option maxHeartbeats 3200000 in
theorem ok_l_right {P : Program} {w : World} {K : PySem.W.Frag} {mg : Str → Option Value} {base : Heap} {f : Addr} {fd : FuncData} {g_l_plain_right C_Shrink C_Grow C_CropWidth C_CropHeight C_Turn g_l_side g_l_spec_right C_Landscape C_Portrait g_l_drawn : Addr} {gd_l_plain_right : FuncData} {gd_l_side : FuncData} {gd_l_spec_right : FuncData} {gd_l_drawn : FuncData} (F : Fun K "_law_right" "_law_right" s_l_right f fd)
    (n_all : mg "all" = none)
    (n_range : mg "range" = none)
    (G_l_plain_right : FnT P w K mg base 7 g_l_plain_right gd_l_plain_right ["_law_one", "_law_more"] (sp_l_plain_right C_Shrink C_Grow C_CropWidth C_CropHeight C_Turn))
    (m_l_plain_right : mg "_law_plain_right" = some (.ref g_l_plain_right))
    (k_l_plain_right : PySem.W.keepIn K (.ref g_l_plain_right) = true)
    (b_l_plain_right : Binds K gd_l_plain_right ["_law_one", "_law_more"] [])
    (G_l_side : FnT P w K mg base 2 g_l_side gd_l_side ["_law_pool_here", "_law_great"] sp_l_side)
    (m_l_side : mg "_law_side" = some (.ref g_l_side))
    (k_l_side : PySem.W.keepIn K (.ref g_l_side) = true)
    (b_l_side : Binds K gd_l_side ["_law_pool_here", "_law_great"] [])
    (G_l_spec_right : FnT P w K mg base 8 g_l_spec_right gd_l_spec_right ["_law_spec"] (sp_l_spec_right C_Shrink C_Grow C_CropWidth C_CropHeight C_Turn C_Landscape C_Portrait))
    (m_l_spec_right : mg "_law_spec_right" = some (.ref g_l_spec_right))
    (k_l_spec_right : PySem.W.keepIn K (.ref g_l_spec_right) = true)
    (b_l_spec_right : Binds K gd_l_spec_right ["_law_spec"] [])
    (G_l_drawn : FnT P w K mg base 3 g_l_drawn gd_l_drawn ["_law_pool_here", "_law_great"] sp_l_drawn)
    (m_l_drawn : mg "_law_drawn" = some (.ref g_l_drawn))
    (k_l_drawn : PySem.W.keepIn K (.ref g_l_drawn) = true)
    (b_l_drawn : Binds K gd_l_drawn ["_law_pool_here", "_law_great"] [])
    : FnT P w K mg base 9 f fd ["_law_pool_here"] (sp_l_right C_Shrink C_Grow C_CropWidth C_CropHeight C_Turn C_Landscape C_Portrait) := by
  refine okT F sc_l_right (by intro ts S R RE h; unfold sp_l_right at h; split at h <;> first | rfl | exact h.elim) (fun cdv A out s H E hg hr => (bs_cons (ss_setLc (i := 1) (x := "_law_turn") (j := 2) (by rfl) sc_l_right.nd rfl rfl (sw_true rfl rfl rfl (by decide +kernel)) (it_range1 (by rfl) n_range (at_cons et_int at_nil)) (blkOk_by (own := [("_law_turn", 2)]) (N := ["_law_pool_here", "_law_every", "_law_turn", "_law_spec"]) (sc := defScope s_l_right) (by decide +kernel)) (fun _ _ _ _ _ => pg_name (i := 2) sc_l_right.nd rfl (by first | exact Or.inl rfl | exact Or.inr rfl)) (fun _ _ _ _ _ => tts_nil) (fun _ _ _ _ _ => (et_callD G_l_drawn hg (hr.mono (by decide)) (by rfl) m_l_drawn k_l_drawn (CallD.all b_l_drawn) passN (at_cons (et_var (pv 0)) (at_cons et_bl at_nil)))))
    (bs_one (ss_ret (et_and (et_blt (cr_all (by rfl)) cv_all (by rfl) n_all (by decide +kernel) (at_cons (et_lc (x := "_law_spec") (j := 3) (by rfl) sc_l_right.nd (it_seq (et_var (pv 1))) (blkOk_by (own := [("_law_spec", 3)]) (N := ["_law_pool_here", "_law_every", "_law_turn", "_law_spec"]) (sc := defScope s_l_right) (by decide +kernel)) (fun _ _ _ _ _ => pg_name (i := 3) sc_l_right.nd rfl (by first | exact Or.inl rfl | exact Or.inr rfl)) (fun _ _ _ _ _ => tts_nil) (fun _ _ _ _ _ => (et_callD G_l_spec_right hg (hr.mono (by decide)) (by rfl) m_l_spec_right k_l_spec_right (CallD.all b_l_spec_right) passN (at_cons (et_var (pv 3)) at_nil)))) at_nil)) (et_one (et_callD G_l_plain_right hg (hr.mono (by decide)) (by rfl) m_l_plain_right k_l_plain_right (CallD.all b_l_plain_right) (passL2N (L2N.takes_of rfl rfl rfl rfl)) (at_cons (et_callD G_l_side hg (hr.mono (by decide)) (by rfl) m_l_side k_l_side (CallD.all b_l_side) (passL2N (L2N.takes_of rfl rfl rfl rfl)) (at_cons (et_var (pv 0)) (at_cons et_bl at_nil))) (at_cons et_int at_nil))))))))) ?_
  intro ts S R RE h
  unfold sp_l_right at h
  split at h
  · rename_i p
    obtain ⟨hp, q⟩ := h
    refine sSeq_i fun N hN => ?_
    simp only [sp_l_drawn, sSeq, sAsg, sDrop, sRet, sRetN, sIf, sNext, sPar, sPar3, sFor, sRaise, sFldT, sNo, rNo, rVar, rFrz, rC, rBin, rTest, bAnd, bOr, bNot, bIf, vAnd, vOr, vNot, rIf, rNeg, aNil, aCons, rTup, rLst, rLstC, rArgs, gNameT, gNilT, gConsT, gTupT, gSubT, iSeq, iRng1T, iRng2T, rLc, rCall, rCallN, rCallS, rFld, rCon, rMake, rMakeN, rMakeP, rMeth, rMethK, rProp, rClsFn, rOpOwn, rSl, oNone, oSome, rFmt, kFmt, rJs, rLidx, kStrOwn, kAddC, rMut, kAdd, kI2, kI2n, kMul, kIx, kIn, kLen, kU, kA2, kDm, kStrI, kAll, kSl, kAppend, kExtend, kTuple, kList, lenT, seqOf, bYes, startT, one, pickG, selG, insOf, putT, flatT, Bool.false_xor, Bool.true_xor, List.all_cons, List.all_nil, Bool.and_self, T.int.injEq, T.bl.injEq, T.str.injEq, T.lst.injEq, T.tup.injEq, T.cell.injEq, T.ins.injEq, Cell.lst.injEq, Cell.ins.injEq, Prod.mk.injEq, List.cons.injEq, Option.some.injEq, List.map_cons, List.map_nil, List.length_cons, List.length_nil, List.cons_append, List.nil_append, List.append_nil, List.getElem?_cons_zero, List.getElem?_cons_succ, List.set_cons_zero, List.set_cons_succ, List.replicate_succ, List.replicate_zero, exists_eq_left, exists_eq_left', exists_and_left, and_true, true_and, and_self, and_assoc, Nat.sub_self, Nat.reduceAdd, Nat.reduceSub, Nat.zero_add, put_put, put_same, reduceIte, Bool.false_eq_true, Bool.true_eq_false, Bool.not_true, Bool.not_false, at_0, at_1, at_2, at_3, at_4, at_5, at_6, at_7, ix_1_0, ix_2_0, ix_2_1, ix_3_0, ix_3_1, ix_3_2, ix_4_0, ix_4_1, ix_4_2, ix_4_3]
    refine ⟨by decide, by decide, ?_⟩
    refine rComp_all (fun _ S' => PoolT S' p) (fun _ _ y => ∃ d : Wd, d.good ∧ y = d.t) hp (by decide) ?_ ?_
    · intro i t' S' hi' hp' N2 hN2
      simp only [sp_l_drawn, sSeq, sAsg, sDrop, sRet, sRetN, sIf, sNext, sPar, sPar3, sFor, sRaise, sFldT, sNo, rNo, rVar, rFrz, rC, rBin, rTest, bAnd, bOr, bNot, bIf, vAnd, vOr, vNot, rIf, rNeg, aNil, aCons, rTup, rLst, rLstC, rArgs, gNameT, gNilT, gConsT, gTupT, gSubT, iSeq, iRng1T, iRng2T, rLc, rCall, rCallN, rCallS, rFld, rCon, rMake, rMakeN, rMakeP, rMeth, rMethK, rProp, rClsFn, rOpOwn, rSl, oNone, oSome, rFmt, kFmt, rJs, rLidx, kStrOwn, kAddC, rMut, kAdd, kI2, kI2n, kMul, kIx, kIn, kLen, kU, kA2, kDm, kStrI, kAll, kSl, kAppend, kExtend, kTuple, kList, lenT, seqOf, bYes, startT, one, pickG, selG, insOf, putT, flatT, Bool.false_xor, Bool.true_xor, List.all_cons, List.all_nil, Bool.and_self, T.int.injEq, T.bl.injEq, T.str.injEq, T.lst.injEq, T.tup.injEq, T.cell.injEq, T.ins.injEq, Cell.lst.injEq, Cell.ins.injEq, Prod.mk.injEq, List.cons.injEq, Option.some.injEq, List.map_cons, List.map_nil, List.length_cons, List.length_nil, List.cons_append, List.nil_append, List.append_nil, List.getElem?_cons_zero, List.getElem?_cons_succ, List.set_cons_zero, List.set_cons_succ, List.replicate_succ, List.replicate_zero, exists_eq_left, exists_eq_left', exists_and_left, and_true, true_and, and_self, and_assoc, Nat.sub_self, Nat.reduceAdd, Nat.reduceSub, Nat.zero_add, put_put, put_same, reduceIte, Bool.false_eq_true, Bool.true_eq_false, Bool.not_true, Bool.not_false, at_0, at_1, at_2, at_3, at_4, at_5, at_6, at_7, ix_1_0, ix_2_0, ix_2_1, ix_3_0, ix_3_1, ix_3_2, ix_4_0, ix_4_1, ix_4_2, ix_4_3]
      exact ⟨hp', fun d S3 g p3 => hN2 _ _ ⟨d, g, rfl⟩ p3.pool⟩
    intro ys S4' hy hF hp4
    refine hN _ _ ?_
    simp only [sp_l_side, sSeq, sAsg, sDrop, sRet, sRetN, sIf, sNext, sPar, sPar3, sFor, sRaise, sFldT, sNo, rNo, rVar, rFrz, rC, rBin, rTest, bAnd, bOr, bNot, bIf, vAnd, vOr, vNot, rIf, rNeg, aNil, aCons, rTup, rLst, rLstC, rArgs, gNameT, gNilT, gConsT, gTupT, gSubT, iSeq, iRng1T, iRng2T, rLc, rCall, rCallN, rCallS, rFld, rCon, rMake, rMakeN, rMakeP, rMeth, rMethK, rProp, rClsFn, rOpOwn, rSl, oNone, oSome, rFmt, kFmt, rJs, rLidx, kStrOwn, kAddC, rMut, kAdd, kI2, kI2n, kMul, kIx, kIn, kLen, kU, kA2, kDm, kStrI, kAll, kSl, kAppend, kExtend, kTuple, kList, lenT, seqOf, bYes, startT, one, pickG, selG, insOf, putT, flatT, Bool.false_xor, Bool.true_xor, List.all_cons, List.all_nil, Bool.and_self, T.int.injEq, T.bl.injEq, T.str.injEq, T.lst.injEq, T.tup.injEq, T.cell.injEq, T.ins.injEq, Cell.lst.injEq, Cell.ins.injEq, Prod.mk.injEq, List.cons.injEq, Option.some.injEq, List.map_cons, List.map_nil, List.length_cons, List.length_nil, List.cons_append, List.nil_append, List.append_nil, List.getElem?_cons_zero, List.getElem?_cons_succ, List.set_cons_zero, List.set_cons_succ, List.replicate_succ, List.replicate_zero, exists_eq_left, exists_eq_left', exists_and_left, and_true, true_and, and_self, and_assoc, Nat.sub_self, Nat.reduceAdd, Nat.reduceSub, Nat.zero_add, put_put, put_same, reduceIte, Bool.false_eq_true, Bool.true_eq_false, Bool.not_true, Bool.not_false, at_0, at_1, at_2, at_3, at_4, at_5, at_6, at_7, ix_1_0, ix_2_0, ix_2_1, ix_3_0, ix_3_1, ix_3_2, ix_4_0, ix_4_1, ix_4_2, ix_4_3]
    refine rComp_all (fun _ S' => PoolT S' p) (fun _ _ y => y = .bl true) hp4 (by rw [hy]; decide) ?_ ?_
    · intro i t' S' hi' hp' N2 hN2
      have il : i < ys.length := by
        by_cases c : i < ys.length
        · exact c
        · rw [List.getElem?_eq_none (by omega)] at hi'; cases hi'
      rw [hy] at il
      obtain ⟨d, g, rfl⟩ := hF i _ t' (List.getElem?_eq_getElem il) hi'
      simp only [sp_l_spec_right, sSeq, sAsg, sDrop, sRet, sRetN, sIf, sNext, sPar, sPar3, sFor, sRaise, sFldT, sNo, rNo, rVar, rFrz, rC, rBin, rTest, bAnd, bOr, bNot, bIf, vAnd, vOr, vNot, rIf, rNeg, aNil, aCons, rTup, rLst, rLstC, rArgs, gNameT, gNilT, gConsT, gTupT, gSubT, iSeq, iRng1T, iRng2T, rLc, rCall, rCallN, rCallS, rFld, rCon, rMake, rMakeN, rMakeP, rMeth, rMethK, rProp, rClsFn, rOpOwn, rSl, oNone, oSome, rFmt, kFmt, rJs, rLidx, kStrOwn, kAddC, rMut, kAdd, kI2, kI2n, kMul, kIx, kIn, kLen, kU, kA2, kDm, kStrI, kAll, kSl, kAppend, kExtend, kTuple, kList, lenT, seqOf, bYes, startT, one, pickG, selG, insOf, putT, flatT, Bool.false_xor, Bool.true_xor, List.all_cons, List.all_nil, Bool.and_self, T.int.injEq, T.bl.injEq, T.str.injEq, T.lst.injEq, T.tup.injEq, T.cell.injEq, T.ins.injEq, Cell.lst.injEq, Cell.ins.injEq, Prod.mk.injEq, List.cons.injEq, Option.some.injEq, List.map_cons, List.map_nil, List.length_cons, List.length_nil, List.cons_append, List.nil_append, List.append_nil, List.getElem?_cons_zero, List.getElem?_cons_succ, List.set_cons_zero, List.set_cons_succ, List.replicate_succ, List.replicate_zero, exists_eq_left, exists_eq_left', exists_and_left, and_true, true_and, and_self, and_assoc, Nat.sub_self, Nat.reduceAdd, Nat.reduceSub, Nat.zero_add, put_put, put_same, reduceIte, Bool.false_eq_true, Bool.true_eq_false, Bool.not_true, Bool.not_false, at_0, at_1, at_2, at_3, at_4, at_5, at_6, at_7, ix_1_0, ix_2_0, ix_2_1, ix_3_0, ix_3_1, ix_3_2, ix_4_0, ix_4_1, ix_4_2, ix_4_3]
      exact ⟨d, g, rfl, hN2 _ _ rfl hp'⟩
    intro zs S5 hz hG hp5
    obtain ⟨a1, a2⟩ := allT hz hG
    refine ⟨_, a1, ?_⟩
    rw [a2, if_pos rfl]
    simp only [sp_l_plain_right, sSeq, sAsg, sDrop, sRet, sRetN, sIf, sNext, sPar, sPar3, sFor, sRaise, sFldT, sNo, rNo, rVar, rFrz, rC, rBin, rTest, bAnd, bOr, bNot, bIf, vAnd, vOr, vNot, rIf, rNeg, aNil, aCons, rTup, rLst, rLstC, rArgs, gNameT, gNilT, gConsT, gTupT, gSubT, iSeq, iRng1T, iRng2T, rLc, rCall, rCallN, rCallS, rFld, rCon, rMake, rMakeN, rMakeP, rMeth, rMethK, rProp, rClsFn, rOpOwn, rSl, oNone, oSome, rFmt, kFmt, rJs, rLidx, kStrOwn, kAddC, rMut, kAdd, kI2, kI2n, kMul, kIx, kIn, kLen, kU, kA2, kDm, kStrI, kAll, kSl, kAppend, kExtend, kTuple, kList, lenT, seqOf, bYes, startT, one, pickG, selG, insOf, putT, flatT, Bool.false_xor, Bool.true_xor, List.all_cons, List.all_nil, Bool.and_self, T.int.injEq, T.bl.injEq, T.str.injEq, T.lst.injEq, T.tup.injEq, T.cell.injEq, T.ins.injEq, Cell.lst.injEq, Cell.ins.injEq, Prod.mk.injEq, List.cons.injEq, Option.some.injEq, List.map_cons, List.map_nil, List.length_cons, List.length_nil, List.cons_append, List.nil_append, List.append_nil, List.getElem?_cons_zero, List.getElem?_cons_succ, List.set_cons_zero, List.set_cons_succ, List.replicate_succ, List.replicate_zero, exists_eq_left, exists_eq_left', exists_and_left, and_true, true_and, and_self, and_assoc, Nat.sub_self, Nat.reduceAdd, Nat.reduceSub, Nat.zero_add, put_put, put_same, reduceIte, Bool.false_eq_true, Bool.true_eq_false, Bool.not_true, Bool.not_false, at_0, at_1, at_2, at_3, at_4, at_5, at_6, at_7, ix_1_0, ix_2_0, ix_2_1, ix_3_0, ix_3_1, ix_3_2, ix_4_0, ix_4_1, ix_4_2, ix_4_3]
    exact ⟨hp5, fun w S6 bw p6 => ⟨bw, bx1, q _⟩⟩
  · exact h.elim
theorem sc_law : FnScope ["_law_script", "_law_told", "_law_k"] ["_law_script"] (defScope s_law) := ⟨rfl, rfl, rfl, by decide +kernel, rfl, by decide +kernel, by decide +kernel⟩

theorem ok_law {P : Program} {w : World} {K : PySem.W.Frag} {mg : Str → Option Value} {base : Heap} {f : Addr} {fd : FuncData} {g_l_right C_Shrink C_Grow C_CropWidth C_CropHeight C_Turn C_Landscape C_Portrait g_l_pool g_l_cell g_l_spec_right : Addr} {gd_l_right : FuncData} {gd_l_pool : FuncData} {gd_l_cell : FuncData} {gd_l_spec_right : FuncData} (F : Fun K "law" "law" s_law f fd)
    (n_range : mg "range" = none)
    (n_len : mg "len" = none)
    (n_min : mg "min" = none)
    (n_max : mg "max" = none)
    (n_all : mg "all" = none)
    (G_l_right : FnT P w K mg base 9 g_l_right gd_l_right ["_law_pool_here"] (sp_l_right C_Shrink C_Grow C_CropWidth C_CropHeight C_Turn C_Landscape C_Portrait))
    (m_l_right : mg "_law_right" = some (.ref g_l_right))
    (k_l_right : PySem.W.keepIn K (.ref g_l_right) = true)
    (b_l_right : Binds K gd_l_right ["_law_pool_here"] [])
    (G_l_pool : FnT P w K mg base 1 g_l_pool gd_l_pool ["_law_figure"] sp_l_pool)
    (m_l_pool : mg "_law_pool" = some (.ref g_l_pool))
    (k_l_pool : PySem.W.keepIn K (.ref g_l_pool) = true)
    (b_l_pool : Binds K gd_l_pool ["_law_figure"] [])
    (G_l_cell : FnT P w K mg base 1 g_l_cell gd_l_cell ["_law_script", "_law_k"] sp_l_cell)
    (m_l_cell : mg "_law_cell" = some (.ref g_l_cell))
    (k_l_cell : PySem.W.keepIn K (.ref g_l_cell) = true)
    (b_l_cell : Binds K gd_l_cell ["_law_script", "_law_k"] [])
    (G_l_spec_right : FnT P w K mg base 8 g_l_spec_right gd_l_spec_right ["_law_spec"] (sp_l_spec_right C_Shrink C_Grow C_CropWidth C_CropHeight C_Turn C_Landscape C_Portrait))
    (m_l_spec_right : mg "_law_spec_right" = some (.ref g_l_spec_right))
    (k_l_spec_right : PySem.W.keepIn K (.ref g_l_spec_right) = true)
    (b_l_spec_right : Binds K gd_l_spec_right ["_law_spec"] [])
    (m_Portrait : mg "Portrait" = some (.ref C_Portrait))
    (cr_Portrait : ClX.CRead K C_Portrait (.type "type"))
    (cv_Portrait_WORD : CValT K C_Portrait "WORD" (.str "portrait"))
    (m_Landscape : mg "Landscape" = some (.ref C_Landscape))
    (cr_Landscape : ClX.CRead K C_Landscape (.type "type"))
    (cv_Landscape_WORD : CValT K C_Landscape "WORD" (.str "landscape"))
    (m_Turn : mg "Turn" = some (.ref C_Turn))
    (cr_Turn : ClX.CRead K C_Turn (.type "type"))
    (cv_Turn_WORD : CValT K C_Turn "WORD" (.str "turn"))
    (m_CropHeight : mg "CropHeight" = some (.ref C_CropHeight))
    (cr_CropHeight : ClX.CRead K C_CropHeight (.type "type"))
    (cv_CropHeight_WORD : CValT K C_CropHeight "WORD" (.str "height"))
    (m_CropWidth : mg "CropWidth" = some (.ref C_CropWidth))
    (cr_CropWidth : ClX.CRead K C_CropWidth (.type "type"))
    (cv_CropWidth_WORD : CValT K C_CropWidth "WORD" (.str "width"))
    (m_Grow : mg "Grow" = some (.ref C_Grow))
    (cr_Grow : ClX.CRead K C_Grow (.type "type"))
    (cv_Grow_WORD : CValT K C_Grow "WORD" (.str "grow"))
    (m_Shrink : mg "Shrink" = some (.ref C_Shrink))
    (cr_Shrink : ClX.CRead K C_Shrink (.type "type"))
    (cv_Shrink_WORD : CValT K C_Shrink "WORD" (.str "shrink"))
    : FnT P w K mg base 10 f fd ["_law_script"] sp_law := by
  refine okT F sc_law (by intro ts S R RE h; unfold sp_law at h; split at h <;> first | rfl | exact h.elim) (fun cdv A out s H E hg hr => (bs_cons (ss_set (i := 1) sc_law.nd rfl (by first | exact Or.inl rfl | exact Or.inr rfl) (et_lst (at_cons (et_cvalT cr_Shrink cv_Shrink_WORD (by rfl) m_Shrink) (at_cons (et_cvalT cr_Grow cv_Grow_WORD (by rfl) m_Grow) (at_cons (et_cvalT cr_CropWidth cv_CropWidth_WORD (by rfl) m_CropWidth) (at_cons (et_cvalT cr_CropHeight cv_CropHeight_WORD (by rfl) m_CropHeight) (at_cons (et_cvalT cr_Turn cv_Turn_WORD (by rfl) m_Turn) (at_cons (et_cvalT cr_Landscape cv_Landscape_WORD (by rfl) m_Landscape) (at_cons (et_cvalT cr_Portrait cv_Portrait_WORD (by rfl) m_Portrait) at_nil)))))))))
    (bs_cons (ss_if (tt_cmp (op_neG hr.units) cv_ne (et_var (pv 1)) (et_lst (at_cons et_str (at_cons et_str (at_cons et_str (at_cons et_str (at_cons et_str (at_cons et_str (at_cons et_str at_nil)))))))) (nomark _)) (bs_one (ss_ret et_bl)) bs_nil)
    (bs_cons (ss_if (tt_w (tw_or (tt_not (tt_val (et_callD G_l_spec_right hg (hr.mono (by decide)) (by rfl) m_l_spec_right k_l_spec_right (CallD.all b_l_spec_right) (passL2N (L2N.takes_of rfl rfl rfl rfl)) (at_cons (et_tup (at_cons et_str (at_cons (et_op op_pow cv_I2 et_int et_int) (at_cons et_int (at_cons et_bl at_nil))))) at_nil)))) (tw_or1 (tt_not (tt_val (et_callD G_l_spec_right hg (hr.mono (by decide)) (by rfl) m_l_spec_right k_l_spec_right (CallD.all b_l_spec_right) (passL2N (L2N.takes_of rfl rfl rfl rfl)) (at_cons (et_tup (at_cons et_str (at_cons et_int (at_cons (et_op op_pow cv_I2 et_int et_int) (at_cons et_str at_nil))))) at_nil))))))) (bs_one (ss_ret et_bl)) bs_nil)
    (bs_one (ss_ret (et_blt (cr_all (by rfl)) cv_all (by rfl) n_all (by decide +kernel) (at_cons (et_lc (x := "_law_k") (j := 2) (by rfl) sc_law.nd (it_range1 (by rfl) n_range (at_cons (et_blt (call_max2 (by rfl)) cv_A2 (by rfl) n_max (by decide +kernel) (at_cons et_int (at_cons (et_blt (call_min2 (by rfl)) cv_A2 (by rfl) n_min (by decide +kernel) (at_cons et_int (at_cons (et_blt call_len cv_len (by rfl) n_len PySem.boot_len (at_cons (et_var (pv 0)) at_nil)) at_nil))) at_nil))) at_nil)) (blkOk_by (own := [("_law_k", 2)]) (N := ["_law_script", "_law_told", "_law_k"]) (sc := defScope s_law) (by decide +kernel)) (fun _ _ _ _ _ => pg_name (i := 2) sc_law.nd rfl (by first | exact Or.inl rfl | exact Or.inr rfl)) (fun _ _ _ _ _ => tts_nil) (fun _ _ _ _ _ => (et_callD G_l_right hg (hr.mono (by decide)) (by rfl) m_l_right k_l_right (CallD.all b_l_right) passN (at_cons (et_callD G_l_pool hg (hr.mono (by decide)) (by rfl) m_l_pool k_l_pool (CallD.all b_l_pool) passN (at_cons (et_callD G_l_cell hg (hr.mono (by decide)) (by rfl) m_l_cell k_l_cell (CallD.all b_l_cell) passN (at_cons (et_var (pv 0)) (at_cons (et_var (pv 2)) at_nil))) at_nil)) at_nil)))) at_nil)))))))) ?_
  intro ts S R RE h
  unfold sp_law at h
  split at h
  · rename_i l
    obtain ⟨⟨ns, rfl, h63⟩, q⟩ := h
    refine sSeq_i fun N hN => ?_
    simp only [sSeq, sAsg, sDrop, sRet, sRetN, sIf, sNext, sPar, sPar3, sFor, sRaise, sFldT, sNo, rNo, rVar, rFrz, rC, rBin, rTest, bAnd, bOr, bNot, bIf, vAnd, vOr, vNot, rIf, rNeg, aNil, aCons, rTup, rLst, rLstC, rArgs, gNameT, gNilT, gConsT, gTupT, gSubT, iSeq, iRng1T, iRng2T, rLc, rCall, rCallN, rCallS, rFld, rCon, rMake, rMakeN, rMakeP, rMeth, rMethK, rProp, rClsFn, rOpOwn, rSl, oNone, oSome, rFmt, kFmt, rJs, rLidx, kStrOwn, kAddC, rMut, kAdd, kI2, kI2n, kMul, kIx, kIn, kLen, kU, kA2, kDm, kStrI, kAll, kSl, kAppend, kExtend, kTuple, kList, lenT, seqOf, bYes, startT, one, pickG, selG, insOf, putT, flatT, Bool.false_xor, Bool.true_xor, List.all_cons, List.all_nil, Bool.and_self, T.int.injEq, T.bl.injEq, T.str.injEq, T.lst.injEq, T.tup.injEq, T.cell.injEq, T.ins.injEq, Cell.lst.injEq, Cell.ins.injEq, Prod.mk.injEq, List.cons.injEq, Option.some.injEq, List.map_cons, List.map_nil, List.length_cons, List.length_nil, List.cons_append, List.nil_append, List.append_nil, List.getElem?_cons_zero, List.getElem?_cons_succ, List.set_cons_zero, List.set_cons_succ, List.replicate_succ, List.replicate_zero, exists_eq_left, exists_eq_left', exists_and_left, and_true, true_and, and_self, and_assoc, Nat.sub_self, Nat.reduceAdd, Nat.reduceSub, Nat.zero_add, put_put, put_same, reduceIte, Bool.false_eq_true, Bool.true_eq_false, Bool.not_true, Bool.not_false, at_0, at_1, at_2, at_3, at_4, at_5, at_6, at_7, ix_1_0, ix_2_0, ix_2_1, ix_3_0, ix_3_1, ix_3_2, ix_4_0, ix_4_1, ix_4_2, ix_4_3]
    refine ⟨by decide, hN _ _ ?_⟩
    refine sSeq_i fun N hN => ?_
    simp only [sSeq, sAsg, sDrop, sRet, sRetN, sIf, sNext, sPar, sPar3, sFor, sRaise, sFldT, sNo, rNo, rVar, rFrz, rC, rBin, rTest, bAnd, bOr, bNot, bIf, vAnd, vOr, vNot, rIf, rNeg, aNil, aCons, rTup, rLst, rLstC, rArgs, gNameT, gNilT, gConsT, gTupT, gSubT, iSeq, iRng1T, iRng2T, rLc, rCall, rCallN, rCallS, rFld, rCon, rMake, rMakeN, rMakeP, rMeth, rMethK, rProp, rClsFn, rOpOwn, rSl, oNone, oSome, rFmt, kFmt, rJs, rLidx, kStrOwn, kAddC, rMut, kAdd, kI2, kI2n, kMul, kIx, kIn, kLen, kU, kA2, kDm, kStrI, kAll, kSl, kAppend, kExtend, kTuple, kList, lenT, seqOf, bYes, startT, one, pickG, selG, insOf, putT, flatT, Bool.false_xor, Bool.true_xor, List.all_cons, List.all_nil, Bool.and_self, T.int.injEq, T.bl.injEq, T.str.injEq, T.lst.injEq, T.tup.injEq, T.cell.injEq, T.ins.injEq, Cell.lst.injEq, Cell.ins.injEq, Prod.mk.injEq, List.cons.injEq, Option.some.injEq, List.map_cons, List.map_nil, List.length_cons, List.length_nil, List.cons_append, List.nil_append, List.append_nil, List.getElem?_cons_zero, List.getElem?_cons_succ, List.set_cons_zero, List.set_cons_succ, List.replicate_succ, List.replicate_zero, exists_eq_left, exists_eq_left', exists_and_left, and_true, true_and, and_self, and_assoc, Nat.sub_self, Nat.reduceAdd, Nat.reduceSub, Nat.zero_add, put_put, put_same, reduceIte, Bool.false_eq_true, Bool.true_eq_false, Bool.not_true, Bool.not_false, at_0, at_1, at_2, at_3, at_4, at_5, at_6, at_7, ix_1_0, ix_2_0, ix_2_1, ix_3_0, ix_3_1, ix_3_2, ix_4_0, ix_4_1, ix_4_2, ix_4_3]
    refine ⟨by decide, ne_dat (v := .list [.str "shrink", .str "grow", .str "width", .str "height", .str "turn", .str "landscape", .str "portrait"]) rfl (by decide +kernel) ⟨false, rfl, ?_⟩⟩
    rw [if_neg Bool.false_ne_true]
    refine hN _ _ ?_
    refine sSeq_i fun N hN => ?_
    simp only [sp_l_spec_right, sSeq, sAsg, sDrop, sRet, sRetN, sIf, sNext, sPar, sPar3, sFor, sRaise, sFldT, sNo, rNo, rVar, rFrz, rC, rBin, rTest, bAnd, bOr, bNot, bIf, vAnd, vOr, vNot, rIf, rNeg, aNil, aCons, rTup, rLst, rLstC, rArgs, gNameT, gNilT, gConsT, gTupT, gSubT, iSeq, iRng1T, iRng2T, rLc, rCall, rCallN, rCallS, rFld, rCon, rMake, rMakeN, rMakeP, rMeth, rMethK, rProp, rClsFn, rOpOwn, rSl, oNone, oSome, rFmt, kFmt, rJs, rLidx, kStrOwn, kAddC, rMut, kAdd, kI2, kI2n, kMul, kIx, kIn, kLen, kU, kA2, kDm, kStrI, kAll, kSl, kAppend, kExtend, kTuple, kList, lenT, seqOf, bYes, startT, one, pickG, selG, insOf, putT, flatT, Bool.false_xor, Bool.true_xor, List.all_cons, List.all_nil, Bool.and_self, T.int.injEq, T.bl.injEq, T.str.injEq, T.lst.injEq, T.tup.injEq, T.cell.injEq, T.ins.injEq, Cell.lst.injEq, Cell.ins.injEq, Prod.mk.injEq, List.cons.injEq, Option.some.injEq, List.map_cons, List.map_nil, List.length_cons, List.length_nil, List.cons_append, List.nil_append, List.append_nil, List.getElem?_cons_zero, List.getElem?_cons_succ, List.set_cons_zero, List.set_cons_succ, List.replicate_succ, List.replicate_zero, exists_eq_left, exists_eq_left', exists_and_left, and_true, true_and, and_self, and_assoc, Nat.sub_self, Nat.reduceAdd, Nat.reduceSub, Nat.zero_add, put_put, put_same, reduceIte, Bool.false_eq_true, Bool.true_eq_false, Bool.not_true, Bool.not_false, at_0, at_1, at_2, at_3, at_4, at_5, at_6, at_7, ix_1_0, ix_2_0, ix_2_1, ix_3_0, ix_3_1, ix_3_2, ix_4_0, ix_4_1, ix_4_2, ix_4_3]
    refine ⟨⟨by decide, by decide, by decide⟩, by decide, .sc true 1000000 1 true, ⟨⟨by decide, by decide⟩, bx1⟩, rfl, ⟨by decide, by decide, by decide⟩, by decide, .cr false 1 1000000 "right", ⟨bx1, ⟨by decide, by decide⟩, by decide +kernel⟩, rfl, hN _ _ ?_⟩
    simp only [sSeq, sAsg, sDrop, sRet, sRetN, sIf, sNext, sPar, sPar3, sFor, sRaise, sFldT, sNo, rNo, rVar, rFrz, rC, rBin, rTest, bAnd, bOr, bNot, bIf, vAnd, vOr, vNot, rIf, rNeg, aNil, aCons, rTup, rLst, rLstC, rArgs, gNameT, gNilT, gConsT, gTupT, gSubT, iSeq, iRng1T, iRng2T, rLc, rCall, rCallN, rCallS, rFld, rCon, rMake, rMakeN, rMakeP, rMeth, rMethK, rProp, rClsFn, rOpOwn, rSl, oNone, oSome, rFmt, kFmt, rJs, rLidx, kStrOwn, kAddC, rMut, kAdd, kI2, kI2n, kMul, kIx, kIn, kLen, kU, kA2, kDm, kStrI, kAll, kSl, kAppend, kExtend, kTuple, kList, lenT, seqOf, bYes, startT, one, pickG, selG, insOf, putT, flatT, Bool.false_xor, Bool.true_xor, List.all_cons, List.all_nil, Bool.and_self, T.int.injEq, T.bl.injEq, T.str.injEq, T.lst.injEq, T.tup.injEq, T.cell.injEq, T.ins.injEq, Cell.lst.injEq, Cell.ins.injEq, Prod.mk.injEq, List.cons.injEq, Option.some.injEq, List.map_cons, List.map_nil, List.length_cons, List.length_nil, List.cons_append, List.nil_append, List.append_nil, List.getElem?_cons_zero, List.getElem?_cons_succ, List.set_cons_zero, List.set_cons_succ, List.replicate_succ, List.replicate_zero, exists_eq_left, exists_eq_left', exists_and_left, and_true, true_and, and_self, and_assoc, Nat.sub_self, Nat.reduceAdd, Nat.reduceSub, Nat.zero_add, put_put, put_same, reduceIte, Bool.false_eq_true, Bool.true_eq_false, Bool.not_true, Bool.not_false, at_0, at_1, at_2, at_3, at_4, at_5, at_6, at_7, ix_1_0, ix_2_0, ix_2_1, ix_3_0, ix_3_1, ix_3_2, ix_4_0, ix_4_1, ix_4_2, ix_4_3]
    have hl : 0 ≤ (((ns.map T.int).length : Nat) : Int) ∧ (((ns.map T.int).length : Nat) : Int) ≤ 63 := by rw [List.length_map]; omega
    have rg := range_le (n := (((ns.map T.int).length : Nat) : Int)) (k := 8) hl (by decide)
    generalize (((ns.map T.int).length : Nat) : Int) = n at rg ⊢
    generalize (if (if n < 8 then n else 8) > 2 then (if n < 8 then n else 8) else 2) = m at rg ⊢
    refine ⟨by omega, by omega, ?_⟩
    refine law_cells (spR := sp_l_right C_Shrink C_Grow C_CropWidth C_CropHeight C_Turn C_Landscape C_Portrait) (i := 0) (j := 2) h63 ⟨by omega, by omega⟩ (fun _ => rfl) (fun _ => rfl) (fun p S hp N hN => ⟨hp, hN⟩) q
  · exact h.elim
set_option maxHeartbeats 0 in
theorem all_mk {l : PySem.W.OpenLaw} {w : World} {K : PySem.W.Frag} {h : Heap} {mg : Str → Option Value} {fa : Addr} (X : K.In h) (G : h.Ns mainGlobals mg) (hfa : mg "law" = some (.ref fa))
    {f_is_integer : Addr} {od_is_integer an_is_integer : Option Addr} {sl_is_integer : Array (Option Value)} {oc_is_integer kV_is_integer dc_is_integer pm_is_integer cd_is_integer ct_is_integer : Value}
    {f_is_positive : Addr} {od_is_positive an_is_positive : Option Addr} {sl_is_positive : Array (Option Value)} {oc_is_positive kV_is_positive dc_is_positive pm_is_positive cd_is_positive ct_is_positive : Value}
    {f_l_cell : Addr} {od_l_cell an_l_cell : Option Addr} {sl_l_cell : Array (Option Value)} {oc_l_cell kV_l_cell dc_l_cell pm_l_cell cd_l_cell ct_l_cell : Value}
    {f_l_pool : Addr} {od_l_pool an_l_pool : Option Addr} {sl_l_pool : Array (Option Value)} {oc_l_pool kV_l_pool dc_l_pool pm_l_pool cd_l_pool ct_l_pool : Value}
    {f_l_draw : Addr} {od_l_draw an_l_draw : Option Addr} {sl_l_draw : Array (Option Value)} {oc_l_draw kV_l_draw dc_l_draw pm_l_draw cd_l_draw ct_l_draw : Value}
    {f_check_box : Addr} {od_check_box an_check_box : Option Addr} {sl_check_box : Array (Option Value)} {oc_check_box kV_check_box dc_check_box pm_check_box cd_check_box ct_check_box : Value}
    {f_Scaling_init : Addr} {od_Scaling_init an_Scaling_init : Option Addr} {sl_Scaling_init : Array (Option Value)} {oc_Scaling_init kV_Scaling_init dc_Scaling_init pm_Scaling_init cd_Scaling_init ct_Scaling_init : Value}
    {f_Shrink_init : Addr} {od_Shrink_init an_Shrink_init : Option Addr} {sl_Shrink_init : Array (Option Value)} {oc_Shrink_init dc_Shrink_init pm_Shrink_init cd_Shrink_init ct_Shrink_init : Value}
    {D_Shrink_init : Addr}
    {f_Grow_init : Addr} {od_Grow_init an_Grow_init : Option Addr} {sl_Grow_init : Array (Option Value)} {oc_Grow_init dc_Grow_init pm_Grow_init cd_Grow_init ct_Grow_init : Value}
    {D_Grow_init : Addr}
    {f_Crop_init : Addr} {od_Crop_init an_Crop_init : Option Addr} {sl_Crop_init : Array (Option Value)} {oc_Crop_init kV_Crop_init dc_Crop_init pm_Crop_init cd_Crop_init ct_Crop_init : Value}
    {f_CropWidth_init : Addr} {od_CropWidth_init an_CropWidth_init : Option Addr} {sl_CropWidth_init : Array (Option Value)} {oc_CropWidth_init dc_CropWidth_init pm_CropWidth_init cd_CropWidth_init ct_CropWidth_init : Value}
    {D_CropWidth_init : Addr}
    {tk_CropWidth_init : Tok}
    {f_CropHeight_init : Addr} {od_CropHeight_init an_CropHeight_init : Option Addr} {sl_CropHeight_init : Array (Option Value)} {oc_CropHeight_init dc_CropHeight_init pm_CropHeight_init cd_CropHeight_init ct_CropHeight_init : Value}
    {D_CropHeight_init : Addr}
    {tk_CropHeight_init : Tok}
    {f_Turn_init : Addr} {od_Turn_init an_Turn_init : Option Addr} {sl_Turn_init : Array (Option Value)} {oc_Turn_init kV_Turn_init dc_Turn_init pm_Turn_init cd_Turn_init ct_Turn_init : Value}
    {T_Turn_init : Addr} {toc_Turn_init : Value} {tod_Turn_init : Option Addr} {tn_Turn_init : Nat} {tsl_Turn_init : Array (Option Value)} {tk_Turn_init : Tok}
    {f_l_side : Addr} {od_l_side an_l_side : Option Addr} {sl_l_side : Array (Option Value)} {oc_l_side kV_l_side dc_l_side pm_l_side cd_l_side ct_l_side : Value}
    {f_l_drawn : Addr} {od_l_drawn an_l_drawn : Option Addr} {sl_l_drawn : Array (Option Value)} {oc_l_drawn kV_l_drawn dc_l_drawn pm_l_drawn cd_l_drawn ct_l_drawn : Value}
    {f_Step_details : Addr} {od_Step_details an_Step_details : Option Addr} {sl_Step_details : Array (Option Value)} {oc_Step_details kV_Step_details dc_Step_details pm_Step_details cd_Step_details ct_Step_details : Value}
    {f_Scaling_details : Addr} {od_Scaling_details an_Scaling_details : Option Addr} {sl_Scaling_details : Array (Option Value)} {oc_Scaling_details kV_Scaling_details dc_Scaling_details pm_Scaling_details cd_Scaling_details ct_Scaling_details : Value}
    {f_Crop_details : Addr} {od_Crop_details an_Crop_details : Option Addr} {sl_Crop_details : Array (Option Value)} {oc_Crop_details kV_Crop_details dc_Crop_details pm_Crop_details cd_Crop_details ct_Crop_details : Value}
    {f_Turn_details : Addr} {od_Turn_details an_Turn_details : Option Addr} {sl_Turn_details : Array (Option Value)} {oc_Turn_details kV_Turn_details dc_Turn_details pm_Turn_details cd_Turn_details ct_Turn_details : Value}
    {f_Step_str : Addr} {od_Step_str an_Step_str : Option Addr} {sl_Step_str : Array (Option Value)} {oc_Step_str kV_Step_str dc_Step_str pm_Step_str cd_Step_str ct_Step_str : Value}
    {f_Step_repr : Addr} {od_Step_repr an_Step_repr : Option Addr} {sl_Step_repr : Array (Option Value)} {oc_Step_repr kV_Step_repr dc_Step_repr pm_Step_repr cd_Step_repr ct_Step_repr : Value}
    {f_l_shown : Addr} {od_l_shown an_l_shown : Option Addr} {sl_l_shown : Array (Option Value)} {oc_l_shown kV_l_shown dc_l_shown pm_l_shown cd_l_shown ct_l_shown : Value}
    {f_l_made_twice : Addr} {od_l_made_twice an_l_made_twice : Option Addr} {sl_l_made_twice : Array (Option Value)} {oc_l_made_twice kV_l_made_twice dc_l_made_twice pm_l_made_twice cd_l_made_twice ct_l_made_twice : Value}
    {f_l_classes : Addr} {od_l_classes an_l_classes : Option Addr} {sl_l_classes : Array (Option Value)} {oc_l_classes kV_l_classes dc_l_classes pm_l_classes cd_l_classes ct_l_classes : Value}
    {f_l_parts : Addr} {od_l_parts an_l_parts : Option Addr} {sl_l_parts : Array (Option Value)} {oc_l_parts kV_l_parts dc_l_parts pm_l_parts cd_l_parts ct_l_parts : Value}
    {f_l_spec_right : Addr} {od_l_spec_right an_l_spec_right : Option Addr} {sl_l_spec_right : Array (Option Value)} {oc_l_spec_right kV_l_spec_right dc_l_spec_right pm_l_spec_right cd_l_spec_right ct_l_spec_right : Value}
    {f_l_plain_right : Addr} {od_l_plain_right an_l_plain_right : Option Addr} {sl_l_plain_right : Array (Option Value)} {oc_l_plain_right kV_l_plain_right dc_l_plain_right pm_l_plain_right cd_l_plain_right ct_l_plain_right : Value}
    {f_l_right : Addr} {od_l_right an_l_right : Option Addr} {sl_l_right : Array (Option Value)} {oc_l_right kV_l_right dc_l_right pm_l_right cd_l_right ct_l_right : Value}
    {f_law : Addr} {od_law an_law : Option Addr} {sl_law : Array (Option Value)} {oc_law kV_law dc_law pm_law cd_law ct_law : Value}
    {tk_MOST_SIDE : Tok}
    {C_Scaling : Addr}
    {C_Shrink : Addr}
    {C_Grow : Addr}
    {C_Crop : Addr}
    {C_CropWidth : Addr}
    {A_CropWidth_KEEPS : Addr} {odv_CropWidth_KEEPS : Option Addr} {nv_CropWidth_KEEPS : Nat} {slv_CropWidth_KEEPS : Array (Option Value)} {tkv_CropWidth_KEEPS_0 tkv_CropWidth_KEEPS_1 tkv_CropWidth_KEEPS_2 : Tok}
    {C_CropHeight : Addr}
    {A_CropHeight_KEEPS : Addr} {odv_CropHeight_KEEPS : Option Addr} {nv_CropHeight_KEEPS : Nat} {slv_CropHeight_KEEPS : Array (Option Value)} {tkv_CropHeight_KEEPS_0 tkv_CropHeight_KEEPS_1 tkv_CropHeight_KEEPS_2 : Tok}
    {C_Turn : Addr}
    {C_Landscape : Addr}
    {C_Portrait : Addr}
    {tki_Shrink_WORD : Tok}
    {tki_Grow_WORD : Tok}
    {tki_CropWidth_WORD : Tok}
    {tki_CropHeight_WORD : Tok}
    {tki_Turn_WORD : Tok}
    {tki_Landscape_WORD : Tok}
    {tki_Portrait_WORD : Tok}
    {C_Step : Addr}
    {tkv_Portrait_WORD : Tok}
    {tkv_Landscape_WORD : Tok}
    {tkv_Turn_WORD : Tok}
    {tkv_CropHeight_WORD : Tok}
    {tkv_CropWidth_WORD : Tok}
    {tkv_Grow_WORD : Tok}
    {tkv_Shrink_WORD : Tok}
    (a_is_integer : PySem.W.nsIn K mainGlobals "is_integer" = some (some (.ref f_is_integer)))
    (l_is_integer : K.lookup f_is_integer = some ⟨oc_is_integer, od_is_integer, .func (PySem.W.fnOf "is_integer" "is_integer" (defArgs s_is_integer) (defBody s_is_integer) (defScope s_is_integer) .none kV_is_integer dc_is_integer pm_is_integer an_is_integer cd_is_integer ct_is_integer), sl_is_integer⟩)
    (c_is_integer : PySem.W.codeIn K cd_is_integer "is_integer" = true)
    (k_is_integer : PySem.W.keepIn K (.ref f_is_integer) = true)
    (a_is_positive : PySem.W.nsIn K mainGlobals "is_positive" = some (some (.ref f_is_positive)))
    (l_is_positive : K.lookup f_is_positive = some ⟨oc_is_positive, od_is_positive, .func (PySem.W.fnOf "is_positive" "is_positive" (defArgs s_is_positive) (defBody s_is_positive) (defScope s_is_positive) .none kV_is_positive dc_is_positive pm_is_positive an_is_positive cd_is_positive ct_is_positive), sl_is_positive⟩)
    (c_is_positive : PySem.W.codeIn K cd_is_positive "is_positive" = true)
    (k_is_positive : PySem.W.keepIn K (.ref f_is_positive) = true)
    (a_l_cell : PySem.W.nsIn K mainGlobals "_law_cell" = some (some (.ref f_l_cell)))
    (l_l_cell : K.lookup f_l_cell = some ⟨oc_l_cell, od_l_cell, .func (PySem.W.fnOf "_law_cell" "_law_cell" (defArgs s_l_cell) (defBody s_l_cell) (defScope s_l_cell) .none kV_l_cell dc_l_cell pm_l_cell an_l_cell cd_l_cell ct_l_cell), sl_l_cell⟩)
    (c_l_cell : PySem.W.codeIn K cd_l_cell "_law_cell" = true)
    (k_l_cell : PySem.W.keepIn K (.ref f_l_cell) = true)
    (a_l_pool : PySem.W.nsIn K mainGlobals "_law_pool" = some (some (.ref f_l_pool)))
    (l_l_pool : K.lookup f_l_pool = some ⟨oc_l_pool, od_l_pool, .func (PySem.W.fnOf "_law_pool" "_law_pool" (defArgs s_l_pool) (defBody s_l_pool) (defScope s_l_pool) .none kV_l_pool dc_l_pool pm_l_pool an_l_pool cd_l_pool ct_l_pool), sl_l_pool⟩)
    (c_l_pool : PySem.W.codeIn K cd_l_pool "_law_pool" = true)
    (k_l_pool : PySem.W.keepIn K (.ref f_l_pool) = true)
    (a_l_draw : PySem.W.nsIn K mainGlobals "_law_draw" = some (some (.ref f_l_draw)))
    (l_l_draw : K.lookup f_l_draw = some ⟨oc_l_draw, od_l_draw, .func (PySem.W.fnOf "_law_draw" "_law_draw" (defArgs s_l_draw) (defBody s_l_draw) (defScope s_l_draw) .none kV_l_draw dc_l_draw pm_l_draw an_l_draw cd_l_draw ct_l_draw), sl_l_draw⟩)
    (c_l_draw : PySem.W.codeIn K cd_l_draw "_law_draw" = true)
    (k_l_draw : PySem.W.keepIn K (.ref f_l_draw) = true)
    (a_check_box : PySem.W.nsIn K mainGlobals "check_box" = some (some (.ref f_check_box)))
    (l_check_box : K.lookup f_check_box = some ⟨oc_check_box, od_check_box, .func (PySem.W.fnOf "check_box" "check_box" (defArgs s_check_box) (defBody s_check_box) (defScope s_check_box) .none kV_check_box dc_check_box pm_check_box an_check_box cd_check_box ct_check_box), sl_check_box⟩)
    (c_check_box : PySem.W.codeIn K cd_check_box "check_box" = true)
    (k_check_box : PySem.W.keepIn K (.ref f_check_box) = true)
    (a_l_side : PySem.W.nsIn K mainGlobals "_law_side" = some (some (.ref f_l_side)))
    (l_l_side : K.lookup f_l_side = some ⟨oc_l_side, od_l_side, .func (PySem.W.fnOf "_law_side" "_law_side" (defArgs s_l_side) (defBody s_l_side) (defScope s_l_side) .none kV_l_side dc_l_side pm_l_side an_l_side cd_l_side ct_l_side), sl_l_side⟩)
    (c_l_side : PySem.W.codeIn K cd_l_side "_law_side" = true)
    (k_l_side : PySem.W.keepIn K (.ref f_l_side) = true)
    (a_l_drawn : PySem.W.nsIn K mainGlobals "_law_drawn" = some (some (.ref f_l_drawn)))
    (l_l_drawn : K.lookup f_l_drawn = some ⟨oc_l_drawn, od_l_drawn, .func (PySem.W.fnOf "_law_drawn" "_law_drawn" (defArgs s_l_drawn) (defBody s_l_drawn) (defScope s_l_drawn) .none kV_l_drawn dc_l_drawn pm_l_drawn an_l_drawn cd_l_drawn ct_l_drawn), sl_l_drawn⟩)
    (c_l_drawn : PySem.W.codeIn K cd_l_drawn "_law_drawn" = true)
    (k_l_drawn : PySem.W.keepIn K (.ref f_l_drawn) = true)
    (a_l_shown : PySem.W.nsIn K mainGlobals "_law_shown" = some (some (.ref f_l_shown)))
    (l_l_shown : K.lookup f_l_shown = some ⟨oc_l_shown, od_l_shown, .func (PySem.W.fnOf "_law_shown" "_law_shown" (defArgs s_l_shown) (defBody s_l_shown) (defScope s_l_shown) .none kV_l_shown dc_l_shown pm_l_shown an_l_shown cd_l_shown ct_l_shown), sl_l_shown⟩)
    (c_l_shown : PySem.W.codeIn K cd_l_shown "_law_shown" = true)
    (k_l_shown : PySem.W.keepIn K (.ref f_l_shown) = true)
    (a_l_made_twice : PySem.W.nsIn K mainGlobals "_law_made_twice" = some (some (.ref f_l_made_twice)))
    (l_l_made_twice : K.lookup f_l_made_twice = some ⟨oc_l_made_twice, od_l_made_twice, .func (PySem.W.fnOf "_law_made_twice" "_law_made_twice" (defArgs s_l_made_twice) (defBody s_l_made_twice) (defScope s_l_made_twice) .none kV_l_made_twice dc_l_made_twice pm_l_made_twice an_l_made_twice cd_l_made_twice ct_l_made_twice), sl_l_made_twice⟩)
    (c_l_made_twice : PySem.W.codeIn K cd_l_made_twice "_law_made_twice" = true)
    (k_l_made_twice : PySem.W.keepIn K (.ref f_l_made_twice) = true)
    (a_l_classes : PySem.W.nsIn K mainGlobals "_law_classes" = some (some (.ref f_l_classes)))
    (l_l_classes : K.lookup f_l_classes = some ⟨oc_l_classes, od_l_classes, .func (PySem.W.fnOf "_law_classes" "_law_classes" (defArgs s_l_classes) (defBody s_l_classes) (defScope s_l_classes) .none kV_l_classes dc_l_classes pm_l_classes an_l_classes cd_l_classes ct_l_classes), sl_l_classes⟩)
    (c_l_classes : PySem.W.codeIn K cd_l_classes "_law_classes" = true)
    (k_l_classes : PySem.W.keepIn K (.ref f_l_classes) = true)
    (a_l_parts : PySem.W.nsIn K mainGlobals "_law_parts" = some (some (.ref f_l_parts)))
    (l_l_parts : K.lookup f_l_parts = some ⟨oc_l_parts, od_l_parts, .func (PySem.W.fnOf "_law_parts" "_law_parts" (defArgs s_l_parts) (defBody s_l_parts) (defScope s_l_parts) .none kV_l_parts dc_l_parts pm_l_parts an_l_parts cd_l_parts ct_l_parts), sl_l_parts⟩)
    (c_l_parts : PySem.W.codeIn K cd_l_parts "_law_parts" = true)
    (k_l_parts : PySem.W.keepIn K (.ref f_l_parts) = true)
    (a_l_spec_right : PySem.W.nsIn K mainGlobals "_law_spec_right" = some (some (.ref f_l_spec_right)))
    (l_l_spec_right : K.lookup f_l_spec_right = some ⟨oc_l_spec_right, od_l_spec_right, .func (PySem.W.fnOf "_law_spec_right" "_law_spec_right" (defArgs s_l_spec_right) (defBody s_l_spec_right) (defScope s_l_spec_right) .none kV_l_spec_right dc_l_spec_right pm_l_spec_right an_l_spec_right cd_l_spec_right ct_l_spec_right), sl_l_spec_right⟩)
    (c_l_spec_right : PySem.W.codeIn K cd_l_spec_right "_law_spec_right" = true)
    (k_l_spec_right : PySem.W.keepIn K (.ref f_l_spec_right) = true)
    (a_l_plain_right : PySem.W.nsIn K mainGlobals "_law_plain_right" = some (some (.ref f_l_plain_right)))
    (l_l_plain_right : K.lookup f_l_plain_right = some ⟨oc_l_plain_right, od_l_plain_right, .func (PySem.W.fnOf "_law_plain_right" "_law_plain_right" (defArgs s_l_plain_right) (defBody s_l_plain_right) (defScope s_l_plain_right) .none kV_l_plain_right dc_l_plain_right pm_l_plain_right an_l_plain_right cd_l_plain_right ct_l_plain_right), sl_l_plain_right⟩)
    (c_l_plain_right : PySem.W.codeIn K cd_l_plain_right "_law_plain_right" = true)
    (k_l_plain_right : PySem.W.keepIn K (.ref f_l_plain_right) = true)
    (a_l_right : PySem.W.nsIn K mainGlobals "_law_right" = some (some (.ref f_l_right)))
    (l_l_right : K.lookup f_l_right = some ⟨oc_l_right, od_l_right, .func (PySem.W.fnOf "_law_right" "_law_right" (defArgs s_l_right) (defBody s_l_right) (defScope s_l_right) .none kV_l_right dc_l_right pm_l_right an_l_right cd_l_right ct_l_right), sl_l_right⟩)
    (c_l_right : PySem.W.codeIn K cd_l_right "_law_right" = true)
    (k_l_right : PySem.W.keepIn K (.ref f_l_right) = true)
    (a_law : PySem.W.nsIn K mainGlobals "law" = some (some (.ref f_law)))
    (l_law : K.lookup f_law = some ⟨oc_law, od_law, .func (PySem.W.fnOf "law" "law" (defArgs s_law) (defBody s_law) (defScope s_law) .none kV_law dc_law pm_law an_law cd_law ct_law), sl_law⟩)
    (c_law : PySem.W.codeIn K cd_law "law" = true)
    (k_law : PySem.W.keepIn K (.ref f_law) = true)
    (z_isinstance : PySem.W.nsIn K mainGlobals "isinstance" = some none)
    (z_bool : PySem.W.nsIn K mainGlobals "bool" = some none)
    (z_int : PySem.W.nsIn K mainGlobals "int" = some none)
    (z_len : PySem.W.nsIn K mainGlobals "len" = some none)
    (z_abs : PySem.W.nsIn K mainGlobals "abs" = some none)
    (z_divmod : PySem.W.nsIn K mainGlobals "divmod" = some none)
    (z_str : PySem.W.nsIn K mainGlobals "str" = some none)
    (z_repr : PySem.W.nsIn K mainGlobals "repr" = some none)
    (z_list : PySem.W.nsIn K mainGlobals "list" = some none)
    (z_range : PySem.W.nsIn K mainGlobals "range" = some none)
    (z_all : PySem.W.nsIn K mainGlobals "all" = some none)
    (z_min : PySem.W.nsIn K mainGlobals "min" = some none)
    (z_max : PySem.W.nsIn K mainGlobals "max" = some none)
    (a_MOST_SIDE : PySem.W.nsIn K mainGlobals "MOST_SIDE" = some (some (.int 1000000 tk_MOST_SIDE)))
    (ca_Scaling : PySem.W.nsIn K mainGlobals "Scaling" = some (some (.ref C_Scaling)))
    (cg_Scaling : PySem.W.plainGet K C_Scaling Str.empty = true)
    (ch_Scaling : PySem.W.hasDictIn K C_Scaling = true)
    (cp_Scaling : PySem.W.plainOver K C_Scaling = true)
    (cs_Scaling : PySem.W.findIn K (.ref C_Scaling) "__setattr__" = some (some (.builtin "object.__setattr__")))
    (cr1_Scaling : PySem.W.readsIn K C_Scaling (.type "type") = true)
    (cr2_Scaling : PySem.W.specialIn K (.ref C_Scaling) "__getattribute__" = some (some (.builtin "type.__getattribute__")))
    (cfq_Scaling_init : PySem.W.findCls K (.ref C_Scaling) (.type "type") "__init__" = some (.val (.ref f_Scaling_init)))
    (ca_Shrink : PySem.W.nsIn K mainGlobals "Shrink" = some (some (.ref C_Shrink)))
    (cg_Shrink : PySem.W.plainGet K C_Shrink Str.empty = true)
    (ch_Shrink : PySem.W.hasDictIn K C_Shrink = true)
    (cp_Shrink : PySem.W.plainOver K C_Shrink = true)
    (cs_Shrink : PySem.W.findIn K (.ref C_Shrink) "__setattr__" = some (some (.builtin "object.__setattr__")))
    (nq_Shrink_width : PySem.W.findIn K (.ref C_Shrink) "width" = some none)
    (nq_Shrink_height : PySem.W.findIn K (.ref C_Shrink) "height" = some none)
    (nq_Shrink_cover : PySem.W.findIn K (.ref C_Shrink) "cover" = some none)
    (ca_Grow : PySem.W.nsIn K mainGlobals "Grow" = some (some (.ref C_Grow)))
    (cg_Grow : PySem.W.plainGet K C_Grow Str.empty = true)
    (ch_Grow : PySem.W.hasDictIn K C_Grow = true)
    (cp_Grow : PySem.W.plainOver K C_Grow = true)
    (cs_Grow : PySem.W.findIn K (.ref C_Grow) "__setattr__" = some (some (.builtin "object.__setattr__")))
    (nq_Grow_width : PySem.W.findIn K (.ref C_Grow) "width" = some none)
    (nq_Grow_height : PySem.W.findIn K (.ref C_Grow) "height" = some none)
    (nq_Grow_cover : PySem.W.findIn K (.ref C_Grow) "cover" = some none)
    (ca_Crop : PySem.W.nsIn K mainGlobals "Crop" = some (some (.ref C_Crop)))
    (cg_Crop : PySem.W.plainGet K C_Crop Str.empty = true)
    (ch_Crop : PySem.W.hasDictIn K C_Crop = true)
    (cp_Crop : PySem.W.plainOver K C_Crop = true)
    (cs_Crop : PySem.W.findIn K (.ref C_Crop) "__setattr__" = some (some (.builtin "object.__setattr__")))
    (cr1_Crop : PySem.W.readsIn K C_Crop (.type "type") = true)
    (cr2_Crop : PySem.W.specialIn K (.ref C_Crop) "__getattribute__" = some (some (.builtin "type.__getattribute__")))
    (cfq_Crop_init : PySem.W.findCls K (.ref C_Crop) (.type "type") "__init__" = some (.val (.ref f_Crop_init)))
    (ca_CropWidth : PySem.W.nsIn K mainGlobals "CropWidth" = some (some (.ref C_CropWidth)))
    (cg_CropWidth : PySem.W.plainGet K C_CropWidth Str.empty = true)
    (ch_CropWidth : PySem.W.hasDictIn K C_CropWidth = true)
    (cp_CropWidth : PySem.W.plainOver K C_CropWidth = true)
    (cs_CropWidth : PySem.W.findIn K (.ref C_CropWidth) "__setattr__" = some (some (.builtin "object.__setattr__")))
    (cr1_CropWidth : PySem.W.readsIn K C_CropWidth (.type "type") = true)
    (cr2_CropWidth : PySem.W.specialIn K (.ref C_CropWidth) "__getattribute__" = some (some (.builtin "type.__getattribute__")))
    (cvq_CropWidth_KEEPS : PySem.W.findCls K (.ref C_CropWidth) (.type "type") "KEEPS" = some (.val (.ref A_CropWidth_KEEPS)))
    (cvl_CropWidth_KEEPS : K.lookup A_CropWidth_KEEPS = some ⟨.type "tuple", odv_CropWidth_KEEPS, .seq #[.str "left" tkv_CropWidth_KEEPS_0, .str "center" tkv_CropWidth_KEEPS_1, .str "right" tkv_CropWidth_KEEPS_2] nv_CropWidth_KEEPS, slv_CropWidth_KEEPS⟩)
    (nq_CropWidth_width : PySem.W.findIn K (.ref C_CropWidth) "width" = some none)
    (nq_CropWidth_height : PySem.W.findIn K (.ref C_CropWidth) "height" = some none)
    (nq_CropWidth_keep : PySem.W.findIn K (.ref C_CropWidth) "keep" = some none)
    (ca_CropHeight : PySem.W.nsIn K mainGlobals "CropHeight" = some (some (.ref C_CropHeight)))
    (cg_CropHeight : PySem.W.plainGet K C_CropHeight Str.empty = true)
    (ch_CropHeight : PySem.W.hasDictIn K C_CropHeight = true)
    (cp_CropHeight : PySem.W.plainOver K C_CropHeight = true)
    (cs_CropHeight : PySem.W.findIn K (.ref C_CropHeight) "__setattr__" = some (some (.builtin "object.__setattr__")))
    (cr1_CropHeight : PySem.W.readsIn K C_CropHeight (.type "type") = true)
    (cr2_CropHeight : PySem.W.specialIn K (.ref C_CropHeight) "__getattribute__" = some (some (.builtin "type.__getattribute__")))
    (cvq_CropHeight_KEEPS : PySem.W.findCls K (.ref C_CropHeight) (.type "type") "KEEPS" = some (.val (.ref A_CropHeight_KEEPS)))
    (cvl_CropHeight_KEEPS : K.lookup A_CropHeight_KEEPS = some ⟨.type "tuple", odv_CropHeight_KEEPS, .seq #[.str "top" tkv_CropHeight_KEEPS_0, .str "center" tkv_CropHeight_KEEPS_1, .str "bottom" tkv_CropHeight_KEEPS_2] nv_CropHeight_KEEPS, slv_CropHeight_KEEPS⟩)
    (nq_CropHeight_width : PySem.W.findIn K (.ref C_CropHeight) "width" = some none)
    (nq_CropHeight_height : PySem.W.findIn K (.ref C_CropHeight) "height" = some none)
    (nq_CropHeight_keep : PySem.W.findIn K (.ref C_CropHeight) "keep" = some none)
    (ca_Turn : PySem.W.nsIn K mainGlobals "Turn" = some (some (.ref C_Turn)))
    (cg_Turn : PySem.W.plainGet K C_Turn Str.empty = true)
    (ch_Turn : PySem.W.hasDictIn K C_Turn = true)
    (cp_Turn : PySem.W.plainOver K C_Turn = true)
    (cs_Turn : PySem.W.findIn K (.ref C_Turn) "__setattr__" = some (some (.builtin "object.__setattr__")))
    (nq_Turn_times : PySem.W.findIn K (.ref C_Turn) "times" = some none)
    (mq_Shrink_details : PySem.W.findIn K (.ref C_Shrink) "details" = some (some (.ref f_Scaling_details)))
    (mi_Shrink_details : PySem.W.isFn K (.ref f_Scaling_details) = true)
    (mq_Grow_details : PySem.W.findIn K (.ref C_Grow) "details" = some (some (.ref f_Scaling_details)))
    (mi_Grow_details : PySem.W.isFn K (.ref f_Scaling_details) = true)
    (mq_CropWidth_details : PySem.W.findIn K (.ref C_CropWidth) "details" = some (some (.ref f_Crop_details)))
    (mi_CropWidth_details : PySem.W.isFn K (.ref f_Crop_details) = true)
    (mq_CropHeight_details : PySem.W.findIn K (.ref C_CropHeight) "details" = some (some (.ref f_Crop_details)))
    (mi_CropHeight_details : PySem.W.isFn K (.ref f_Crop_details) = true)
    (mq_Turn_details : PySem.W.findIn K (.ref C_Turn) "details" = some (some (.ref f_Turn_details)))
    (mi_Turn_details : PySem.W.isFn K (.ref f_Turn_details) = true)
    (ca_Landscape : PySem.W.nsIn K mainGlobals "Landscape" = some (some (.ref C_Landscape)))
    (cg_Landscape : PySem.W.plainGet K C_Landscape Str.empty = true)
    (ch_Landscape : PySem.W.hasDictIn K C_Landscape = true)
    (cp_Landscape : PySem.W.plainOver K C_Landscape = true)
    (cs_Landscape : PySem.W.findIn K (.ref C_Landscape) "__setattr__" = some (some (.builtin "object.__setattr__")))
    (mq_Landscape_details : PySem.W.findIn K (.ref C_Landscape) "details" = some (some (.ref f_Step_details)))
    (mi_Landscape_details : PySem.W.isFn K (.ref f_Step_details) = true)
    (ca_Portrait : PySem.W.nsIn K mainGlobals "Portrait" = some (some (.ref C_Portrait)))
    (cg_Portrait : PySem.W.plainGet K C_Portrait Str.empty = true)
    (ch_Portrait : PySem.W.hasDictIn K C_Portrait = true)
    (cp_Portrait : PySem.W.plainOver K C_Portrait = true)
    (cs_Portrait : PySem.W.findIn K (.ref C_Portrait) "__setattr__" = some (some (.builtin "object.__setattr__")))
    (mq_Portrait_details : PySem.W.findIn K (.ref C_Portrait) "details" = some (some (.ref f_Step_details)))
    (mi_Portrait_details : PySem.W.isFn K (.ref f_Step_details) = true)
    (icq_Shrink_WORD : PySem.W.findIn K (.ref C_Shrink) "WORD" = some (some (.str "shrink" tki_Shrink_WORD)))
    (icg_Shrink_WORD : PySem.W.specialIn K (.str "shrink" tki_Shrink_WORD) "__get__" = some none)
    (icq_Grow_WORD : PySem.W.findIn K (.ref C_Grow) "WORD" = some (some (.str "grow" tki_Grow_WORD)))
    (icg_Grow_WORD : PySem.W.specialIn K (.str "grow" tki_Grow_WORD) "__get__" = some none)
    (icq_CropWidth_WORD : PySem.W.findIn K (.ref C_CropWidth) "WORD" = some (some (.str "width" tki_CropWidth_WORD)))
    (icg_CropWidth_WORD : PySem.W.specialIn K (.str "width" tki_CropWidth_WORD) "__get__" = some none)
    (icq_CropHeight_WORD : PySem.W.findIn K (.ref C_CropHeight) "WORD" = some (some (.str "height" tki_CropHeight_WORD)))
    (icg_CropHeight_WORD : PySem.W.specialIn K (.str "height" tki_CropHeight_WORD) "__get__" = some none)
    (icq_Turn_WORD : PySem.W.findIn K (.ref C_Turn) "WORD" = some (some (.str "turn" tki_Turn_WORD)))
    (icg_Turn_WORD : PySem.W.specialIn K (.str "turn" tki_Turn_WORD) "__get__" = some none)
    (icq_Landscape_WORD : PySem.W.findIn K (.ref C_Landscape) "WORD" = some (some (.str "landscape" tki_Landscape_WORD)))
    (icg_Landscape_WORD : PySem.W.specialIn K (.str "landscape" tki_Landscape_WORD) "__get__" = some none)
    (icq_Portrait_WORD : PySem.W.findIn K (.ref C_Portrait) "WORD" = some (some (.str "portrait" tki_Portrait_WORD)))
    (icg_Portrait_WORD : PySem.W.specialIn K (.str "portrait" tki_Portrait_WORD) "__get__" = some none)
    (od1_Shrink_str : PySem.W.findIn K (.ref C_Shrink) "__str__" = some (some (.ref f_Step_str)))
    (od2_Shrink_str : PySem.W.isFn K (.ref f_Step_str) = true)
    (od1_Grow_str : PySem.W.findIn K (.ref C_Grow) "__str__" = some (some (.ref f_Step_str)))
    (od2_Grow_str : PySem.W.isFn K (.ref f_Step_str) = true)
    (od1_CropWidth_str : PySem.W.findIn K (.ref C_CropWidth) "__str__" = some (some (.ref f_Step_str)))
    (od2_CropWidth_str : PySem.W.isFn K (.ref f_Step_str) = true)
    (od1_CropHeight_str : PySem.W.findIn K (.ref C_CropHeight) "__str__" = some (some (.ref f_Step_str)))
    (od2_CropHeight_str : PySem.W.isFn K (.ref f_Step_str) = true)
    (od1_Turn_str : PySem.W.findIn K (.ref C_Turn) "__str__" = some (some (.ref f_Step_str)))
    (od2_Turn_str : PySem.W.isFn K (.ref f_Step_str) = true)
    (od1_Landscape_str : PySem.W.findIn K (.ref C_Landscape) "__str__" = some (some (.ref f_Step_str)))
    (od2_Landscape_str : PySem.W.isFn K (.ref f_Step_str) = true)
    (od1_Portrait_str : PySem.W.findIn K (.ref C_Portrait) "__str__" = some (some (.ref f_Step_str)))
    (od2_Portrait_str : PySem.W.isFn K (.ref f_Step_str) = true)
    (cm_Landscape : PySem.W.makesIn K C_Landscape = true)
    (ck_Landscape : PySem.W.keepIn K (.ref C_Landscape) = true)
    (ci_Landscape : PySem.W.findIn K (.ref C_Landscape) "__init__" = some (some (.builtin "object.__init__")))
    (co_Landscape : PySem.W.mroIn K C_Landscape (.type "object") = some true)
    (cm_Portrait : PySem.W.makesIn K C_Portrait = true)
    (ck_Portrait : PySem.W.keepIn K (.ref C_Portrait) = true)
    (ci_Portrait : PySem.W.findIn K (.ref C_Portrait) "__init__" = some (some (.builtin "object.__init__")))
    (co_Portrait : PySem.W.mroIn K C_Portrait (.type "object") = some true)
    (cm_Turn : PySem.W.makesIn K C_Turn = true)
    (ck_Turn : PySem.W.keepIn K (.ref C_Turn) = true)
    (ci_Turn : PySem.W.findIn K (.ref C_Turn) "__init__" = some (some (.ref f_Turn_init)))
    (cf2_Turn : PySem.W.isFn K (.ref f_Turn_init) = true)
    (cm_CropHeight : PySem.W.makesIn K C_CropHeight = true)
    (ck_CropHeight : PySem.W.keepIn K (.ref C_CropHeight) = true)
    (ci_CropHeight : PySem.W.findIn K (.ref C_CropHeight) "__init__" = some (some (.ref f_CropHeight_init)))
    (cf2_CropHeight : PySem.W.isFn K (.ref f_CropHeight_init) = true)
    (cm_CropWidth : PySem.W.makesIn K C_CropWidth = true)
    (ck_CropWidth : PySem.W.keepIn K (.ref C_CropWidth) = true)
    (ci_CropWidth : PySem.W.findIn K (.ref C_CropWidth) "__init__" = some (some (.ref f_CropWidth_init)))
    (cf2_CropWidth : PySem.W.isFn K (.ref f_CropWidth_init) = true)
    (cm_Grow : PySem.W.makesIn K C_Grow = true)
    (ck_Grow : PySem.W.keepIn K (.ref C_Grow) = true)
    (ci_Grow : PySem.W.findIn K (.ref C_Grow) "__init__" = some (some (.ref f_Grow_init)))
    (cf2_Grow : PySem.W.isFn K (.ref f_Grow_init) = true)
    (cm_Shrink : PySem.W.makesIn K C_Shrink = true)
    (ck_Shrink : PySem.W.keepIn K (.ref C_Shrink) = true)
    (ci_Shrink : PySem.W.findIn K (.ref C_Shrink) "__init__" = some (some (.ref f_Shrink_init)))
    (cf2_Shrink : PySem.W.isFn K (.ref f_Shrink_init) = true)
    (ca_Step : PySem.W.nsIn K mainGlobals "Step" = some (some (.ref C_Step)))
    (cg_Step : PySem.W.plainGet K C_Step Str.empty = true)
    (ch_Step : PySem.W.hasDictIn K C_Step = true)
    (cp_Step : PySem.W.plainOver K C_Step = true)
    (cs_Step : PySem.W.findIn K (.ref C_Step) "__setattr__" = some (some (.builtin "object.__setattr__")))
    (is1_Shrink : PySem.W.findIn K (.ref C_Shrink) "__class__" = some (some (.builtin "object.__class__")))
    (is2_Shrink : PySem.W.specialIn K (.builtin "object.__class__") "__get__" = some (some (.builtin "getset_descriptor.__get__")))
    (is3_Shrink : PySem.W.takesIn K (.builtin "object.__class__") = some true)
    (is4_Shrink : PySem.W.mroIn K C_Shrink (.type "object") = some true)
    (ktq_Shrink_Shrink : PySem.W.kitOne K (.ref C_Shrink) (.ref C_Shrink) = some true)
    (ktq_Shrink_Grow : PySem.W.kitOne K (.ref C_Shrink) (.ref C_Grow) = some false)
    (ktq_Shrink_CropWidth : PySem.W.kitOne K (.ref C_Shrink) (.ref C_CropWidth) = some false)
    (ktq_Shrink_CropHeight : PySem.W.kitOne K (.ref C_Shrink) (.ref C_CropHeight) = some false)
    (ktq_Shrink_Turn : PySem.W.kitOne K (.ref C_Shrink) (.ref C_Turn) = some false)
    (ktq_Shrink_Landscape : PySem.W.kitOne K (.ref C_Shrink) (.ref C_Landscape) = some false)
    (ktq_Shrink_Portrait : PySem.W.kitOne K (.ref C_Shrink) (.ref C_Portrait) = some false)
    (ktq_Shrink_Scaling : PySem.W.kitOne K (.ref C_Shrink) (.ref C_Scaling) = some true)
    (ktq_Shrink_Crop : PySem.W.kitOne K (.ref C_Shrink) (.ref C_Crop) = some false)
    (ktq_Shrink_Step : PySem.W.kitOne K (.ref C_Shrink) (.ref C_Step) = some true)
    (is1_Grow : PySem.W.findIn K (.ref C_Grow) "__class__" = some (some (.builtin "object.__class__")))
    (is2_Grow : PySem.W.specialIn K (.builtin "object.__class__") "__get__" = some (some (.builtin "getset_descriptor.__get__")))
    (is3_Grow : PySem.W.takesIn K (.builtin "object.__class__") = some true)
    (is4_Grow : PySem.W.mroIn K C_Grow (.type "object") = some true)
    (ktq_Grow_Shrink : PySem.W.kitOne K (.ref C_Grow) (.ref C_Shrink) = some false)
    (ktq_Grow_Grow : PySem.W.kitOne K (.ref C_Grow) (.ref C_Grow) = some true)
    (ktq_Grow_CropWidth : PySem.W.kitOne K (.ref C_Grow) (.ref C_CropWidth) = some false)
    (ktq_Grow_CropHeight : PySem.W.kitOne K (.ref C_Grow) (.ref C_CropHeight) = some false)
    (ktq_Grow_Turn : PySem.W.kitOne K (.ref C_Grow) (.ref C_Turn) = some false)
    (ktq_Grow_Landscape : PySem.W.kitOne K (.ref C_Grow) (.ref C_Landscape) = some false)
    (ktq_Grow_Portrait : PySem.W.kitOne K (.ref C_Grow) (.ref C_Portrait) = some false)
    (ktq_Grow_Scaling : PySem.W.kitOne K (.ref C_Grow) (.ref C_Scaling) = some true)
    (ktq_Grow_Crop : PySem.W.kitOne K (.ref C_Grow) (.ref C_Crop) = some false)
    (ktq_Grow_Step : PySem.W.kitOne K (.ref C_Grow) (.ref C_Step) = some true)
    (is1_CropWidth : PySem.W.findIn K (.ref C_CropWidth) "__class__" = some (some (.builtin "object.__class__")))
    (is2_CropWidth : PySem.W.specialIn K (.builtin "object.__class__") "__get__" = some (some (.builtin "getset_descriptor.__get__")))
    (is3_CropWidth : PySem.W.takesIn K (.builtin "object.__class__") = some true)
    (is4_CropWidth : PySem.W.mroIn K C_CropWidth (.type "object") = some true)
    (ktq_CropWidth_Shrink : PySem.W.kitOne K (.ref C_CropWidth) (.ref C_Shrink) = some false)
    (ktq_CropWidth_Grow : PySem.W.kitOne K (.ref C_CropWidth) (.ref C_Grow) = some false)
    (ktq_CropWidth_CropWidth : PySem.W.kitOne K (.ref C_CropWidth) (.ref C_CropWidth) = some true)
    (ktq_CropWidth_CropHeight : PySem.W.kitOne K (.ref C_CropWidth) (.ref C_CropHeight) = some false)
    (ktq_CropWidth_Turn : PySem.W.kitOne K (.ref C_CropWidth) (.ref C_Turn) = some false)
    (ktq_CropWidth_Landscape : PySem.W.kitOne K (.ref C_CropWidth) (.ref C_Landscape) = some false)
    (ktq_CropWidth_Portrait : PySem.W.kitOne K (.ref C_CropWidth) (.ref C_Portrait) = some false)
    (ktq_CropWidth_Scaling : PySem.W.kitOne K (.ref C_CropWidth) (.ref C_Scaling) = some false)
    (ktq_CropWidth_Crop : PySem.W.kitOne K (.ref C_CropWidth) (.ref C_Crop) = some true)
    (ktq_CropWidth_Step : PySem.W.kitOne K (.ref C_CropWidth) (.ref C_Step) = some true)
    (is1_CropHeight : PySem.W.findIn K (.ref C_CropHeight) "__class__" = some (some (.builtin "object.__class__")))
    (is2_CropHeight : PySem.W.specialIn K (.builtin "object.__class__") "__get__" = some (some (.builtin "getset_descriptor.__get__")))
    (is3_CropHeight : PySem.W.takesIn K (.builtin "object.__class__") = some true)
    (is4_CropHeight : PySem.W.mroIn K C_CropHeight (.type "object") = some true)
    (ktq_CropHeight_Shrink : PySem.W.kitOne K (.ref C_CropHeight) (.ref C_Shrink) = some false)
    (ktq_CropHeight_Grow : PySem.W.kitOne K (.ref C_CropHeight) (.ref C_Grow) = some false)
    (ktq_CropHeight_CropWidth : PySem.W.kitOne K (.ref C_CropHeight) (.ref C_CropWidth) = some false)
    (ktq_CropHeight_CropHeight : PySem.W.kitOne K (.ref C_CropHeight) (.ref C_CropHeight) = some true)
    (ktq_CropHeight_Turn : PySem.W.kitOne K (.ref C_CropHeight) (.ref C_Turn) = some false)
    (ktq_CropHeight_Landscape : PySem.W.kitOne K (.ref C_CropHeight) (.ref C_Landscape) = some false)
    (ktq_CropHeight_Portrait : PySem.W.kitOne K (.ref C_CropHeight) (.ref C_Portrait) = some false)
    (ktq_CropHeight_Scaling : PySem.W.kitOne K (.ref C_CropHeight) (.ref C_Scaling) = some false)
    (ktq_CropHeight_Crop : PySem.W.kitOne K (.ref C_CropHeight) (.ref C_Crop) = some true)
    (ktq_CropHeight_Step : PySem.W.kitOne K (.ref C_CropHeight) (.ref C_Step) = some true)
    (is1_Turn : PySem.W.findIn K (.ref C_Turn) "__class__" = some (some (.builtin "object.__class__")))
    (is2_Turn : PySem.W.specialIn K (.builtin "object.__class__") "__get__" = some (some (.builtin "getset_descriptor.__get__")))
    (is3_Turn : PySem.W.takesIn K (.builtin "object.__class__") = some true)
    (is4_Turn : PySem.W.mroIn K C_Turn (.type "object") = some true)
    (ktq_Turn_Shrink : PySem.W.kitOne K (.ref C_Turn) (.ref C_Shrink) = some false)
    (ktq_Turn_Grow : PySem.W.kitOne K (.ref C_Turn) (.ref C_Grow) = some false)
    (ktq_Turn_CropWidth : PySem.W.kitOne K (.ref C_Turn) (.ref C_CropWidth) = some false)
    (ktq_Turn_CropHeight : PySem.W.kitOne K (.ref C_Turn) (.ref C_CropHeight) = some false)
    (ktq_Turn_Turn : PySem.W.kitOne K (.ref C_Turn) (.ref C_Turn) = some true)
    (ktq_Turn_Landscape : PySem.W.kitOne K (.ref C_Turn) (.ref C_Landscape) = some false)
    (ktq_Turn_Portrait : PySem.W.kitOne K (.ref C_Turn) (.ref C_Portrait) = some false)
    (ktq_Turn_Scaling : PySem.W.kitOne K (.ref C_Turn) (.ref C_Scaling) = some false)
    (ktq_Turn_Crop : PySem.W.kitOne K (.ref C_Turn) (.ref C_Crop) = some false)
    (ktq_Turn_Step : PySem.W.kitOne K (.ref C_Turn) (.ref C_Step) = some true)
    (is1_Landscape : PySem.W.findIn K (.ref C_Landscape) "__class__" = some (some (.builtin "object.__class__")))
    (is2_Landscape : PySem.W.specialIn K (.builtin "object.__class__") "__get__" = some (some (.builtin "getset_descriptor.__get__")))
    (is3_Landscape : PySem.W.takesIn K (.builtin "object.__class__") = some true)
    (is4_Landscape : PySem.W.mroIn K C_Landscape (.type "object") = some true)
    (ktq_Landscape_Shrink : PySem.W.kitOne K (.ref C_Landscape) (.ref C_Shrink) = some false)
    (ktq_Landscape_Grow : PySem.W.kitOne K (.ref C_Landscape) (.ref C_Grow) = some false)
    (ktq_Landscape_CropWidth : PySem.W.kitOne K (.ref C_Landscape) (.ref C_CropWidth) = some false)
    (ktq_Landscape_CropHeight : PySem.W.kitOne K (.ref C_Landscape) (.ref C_CropHeight) = some false)
    (ktq_Landscape_Turn : PySem.W.kitOne K (.ref C_Landscape) (.ref C_Turn) = some false)
    (ktq_Landscape_Landscape : PySem.W.kitOne K (.ref C_Landscape) (.ref C_Landscape) = some true)
    (ktq_Landscape_Portrait : PySem.W.kitOne K (.ref C_Landscape) (.ref C_Portrait) = some false)
    (ktq_Landscape_Scaling : PySem.W.kitOne K (.ref C_Landscape) (.ref C_Scaling) = some false)
    (ktq_Landscape_Crop : PySem.W.kitOne K (.ref C_Landscape) (.ref C_Crop) = some false)
    (ktq_Landscape_Step : PySem.W.kitOne K (.ref C_Landscape) (.ref C_Step) = some true)
    (is1_Portrait : PySem.W.findIn K (.ref C_Portrait) "__class__" = some (some (.builtin "object.__class__")))
    (is2_Portrait : PySem.W.specialIn K (.builtin "object.__class__") "__get__" = some (some (.builtin "getset_descriptor.__get__")))
    (is3_Portrait : PySem.W.takesIn K (.builtin "object.__class__") = some true)
    (is4_Portrait : PySem.W.mroIn K C_Portrait (.type "object") = some true)
    (ktq_Portrait_Shrink : PySem.W.kitOne K (.ref C_Portrait) (.ref C_Shrink) = some false)
    (ktq_Portrait_Grow : PySem.W.kitOne K (.ref C_Portrait) (.ref C_Grow) = some false)
    (ktq_Portrait_CropWidth : PySem.W.kitOne K (.ref C_Portrait) (.ref C_CropWidth) = some false)
    (ktq_Portrait_CropHeight : PySem.W.kitOne K (.ref C_Portrait) (.ref C_CropHeight) = some false)
    (ktq_Portrait_Turn : PySem.W.kitOne K (.ref C_Portrait) (.ref C_Turn) = some false)
    (ktq_Portrait_Landscape : PySem.W.kitOne K (.ref C_Portrait) (.ref C_Landscape) = some false)
    (ktq_Portrait_Portrait : PySem.W.kitOne K (.ref C_Portrait) (.ref C_Portrait) = some true)
    (ktq_Portrait_Scaling : PySem.W.kitOne K (.ref C_Portrait) (.ref C_Scaling) = some false)
    (ktq_Portrait_Crop : PySem.W.kitOne K (.ref C_Portrait) (.ref C_Crop) = some false)
    (ktq_Portrait_Step : PySem.W.kitOne K (.ref C_Portrait) (.ref C_Step) = some true)
    (od1_Shrink_repr : PySem.W.findIn K (.ref C_Shrink) "__repr__" = some (some (.ref f_Step_repr)))
    (od2_Shrink_repr : PySem.W.isFn K (.ref f_Step_repr) = true)
    (od1_Grow_repr : PySem.W.findIn K (.ref C_Grow) "__repr__" = some (some (.ref f_Step_repr)))
    (od2_Grow_repr : PySem.W.isFn K (.ref f_Step_repr) = true)
    (od1_CropWidth_repr : PySem.W.findIn K (.ref C_CropWidth) "__repr__" = some (some (.ref f_Step_repr)))
    (od2_CropWidth_repr : PySem.W.isFn K (.ref f_Step_repr) = true)
    (od1_CropHeight_repr : PySem.W.findIn K (.ref C_CropHeight) "__repr__" = some (some (.ref f_Step_repr)))
    (od2_CropHeight_repr : PySem.W.isFn K (.ref f_Step_repr) = true)
    (od1_Turn_repr : PySem.W.findIn K (.ref C_Turn) "__repr__" = some (some (.ref f_Step_repr)))
    (od2_Turn_repr : PySem.W.isFn K (.ref f_Step_repr) = true)
    (od1_Landscape_repr : PySem.W.findIn K (.ref C_Landscape) "__repr__" = some (some (.ref f_Step_repr)))
    (od2_Landscape_repr : PySem.W.isFn K (.ref f_Step_repr) = true)
    (od1_Portrait_repr : PySem.W.findIn K (.ref C_Portrait) "__repr__" = some (some (.ref f_Step_repr)))
    (od2_Portrait_repr : PySem.W.isFn K (.ref f_Step_repr) = true)
    (cr1_Portrait : PySem.W.readsIn K C_Portrait (.type "type") = true)
    (cr2_Portrait : PySem.W.specialIn K (.ref C_Portrait) "__getattribute__" = some (some (.builtin "type.__getattribute__")))
    (cvq_Portrait_WORD : PySem.W.findCls K (.ref C_Portrait) (.type "type") "WORD" = some (.val (.str "portrait" tkv_Portrait_WORD)))
    (cr1_Landscape : PySem.W.readsIn K C_Landscape (.type "type") = true)
    (cr2_Landscape : PySem.W.specialIn K (.ref C_Landscape) "__getattribute__" = some (some (.builtin "type.__getattribute__")))
    (cvq_Landscape_WORD : PySem.W.findCls K (.ref C_Landscape) (.type "type") "WORD" = some (.val (.str "landscape" tkv_Landscape_WORD)))
    (cr1_Turn : PySem.W.readsIn K C_Turn (.type "type") = true)
    (cr2_Turn : PySem.W.specialIn K (.ref C_Turn) "__getattribute__" = some (some (.builtin "type.__getattribute__")))
    (cvq_Turn_WORD : PySem.W.findCls K (.ref C_Turn) (.type "type") "WORD" = some (.val (.str "turn" tkv_Turn_WORD)))
    (cvq_CropHeight_WORD : PySem.W.findCls K (.ref C_CropHeight) (.type "type") "WORD" = some (.val (.str "height" tkv_CropHeight_WORD)))
    (cvq_CropWidth_WORD : PySem.W.findCls K (.ref C_CropWidth) (.type "type") "WORD" = some (.val (.str "width" tkv_CropWidth_WORD)))
    (cr1_Grow : PySem.W.readsIn K C_Grow (.type "type") = true)
    (cr2_Grow : PySem.W.specialIn K (.ref C_Grow) "__getattribute__" = some (some (.builtin "type.__getattribute__")))
    (cvq_Grow_WORD : PySem.W.findCls K (.ref C_Grow) (.type "type") "WORD" = some (.val (.str "grow" tkv_Grow_WORD)))
    (cr1_Shrink : PySem.W.readsIn K C_Shrink (.type "type") = true)
    (cr2_Shrink : PySem.W.specialIn K (.ref C_Shrink) "__getattribute__" = some (some (.builtin "type.__getattribute__")))
    (cvq_Shrink_WORD : PySem.W.findCls K (.ref C_Shrink) (.type "type") "WORD" = some (.val (.str "shrink" tkv_Shrink_WORD)))
    (l_Scaling_init : K.lookup f_Scaling_init = some ⟨oc_Scaling_init, od_Scaling_init, .func (PySem.W.fnOf "__init__" "Scaling.__init__" (defArgs s_Scaling_init) (defBody s_Scaling_init) (defScope s_Scaling_init) .none kV_Scaling_init dc_Scaling_init pm_Scaling_init an_Scaling_init cd_Scaling_init ct_Scaling_init), sl_Scaling_init⟩)
    (c_Scaling_init : PySem.W.codeIn K cd_Scaling_init "Scaling.__init__" = true)
    (k_Scaling_init : PySem.W.keepIn K (.ref f_Scaling_init) = true)
    (l_Shrink_init : K.lookup f_Shrink_init = some ⟨oc_Shrink_init, od_Shrink_init, .func (PySem.W.fnOf "__init__" "Shrink.__init__" (defArgs s_Shrink_init) (defBody s_Shrink_init) (defScope s_Shrink_init) .none (.ref D_Shrink_init) dc_Shrink_init pm_Shrink_init an_Shrink_init cd_Shrink_init ct_Shrink_init), sl_Shrink_init⟩)
    (c_Shrink_init : PySem.W.codeIn K cd_Shrink_init "Shrink.__init__" = true)
    (k_Shrink_init : PySem.W.keepIn K (.ref f_Shrink_init) = true)
    (kd_Shrink_init_cover : PySem.W.nsIn K D_Shrink_init "cover" = some (some (.bool false)))
    (l_Grow_init : K.lookup f_Grow_init = some ⟨oc_Grow_init, od_Grow_init, .func (PySem.W.fnOf "__init__" "Grow.__init__" (defArgs s_Grow_init) (defBody s_Grow_init) (defScope s_Grow_init) .none (.ref D_Grow_init) dc_Grow_init pm_Grow_init an_Grow_init cd_Grow_init ct_Grow_init), sl_Grow_init⟩)
    (c_Grow_init : PySem.W.codeIn K cd_Grow_init "Grow.__init__" = true)
    (k_Grow_init : PySem.W.keepIn K (.ref f_Grow_init) = true)
    (kd_Grow_init_cover : PySem.W.nsIn K D_Grow_init "cover" = some (some (.bool false)))
    (l_Crop_init : K.lookup f_Crop_init = some ⟨oc_Crop_init, od_Crop_init, .func (PySem.W.fnOf "__init__" "Crop.__init__" (defArgs s_Crop_init) (defBody s_Crop_init) (defScope s_Crop_init) .none kV_Crop_init dc_Crop_init pm_Crop_init an_Crop_init cd_Crop_init ct_Crop_init), sl_Crop_init⟩)
    (c_Crop_init : PySem.W.codeIn K cd_Crop_init "Crop.__init__" = true)
    (k_Crop_init : PySem.W.keepIn K (.ref f_Crop_init) = true)
    (l_CropWidth_init : K.lookup f_CropWidth_init = some ⟨oc_CropWidth_init, od_CropWidth_init, .func (PySem.W.fnOf "__init__" "CropWidth.__init__" (defArgs s_CropWidth_init) (defBody s_CropWidth_init) (defScope s_CropWidth_init) .none (.ref D_CropWidth_init) dc_CropWidth_init pm_CropWidth_init an_CropWidth_init cd_CropWidth_init ct_CropWidth_init), sl_CropWidth_init⟩)
    (c_CropWidth_init : PySem.W.codeIn K cd_CropWidth_init "CropWidth.__init__" = true)
    (k_CropWidth_init : PySem.W.keepIn K (.ref f_CropWidth_init) = true)
    (kd_CropWidth_init_keep : PySem.W.nsIn K D_CropWidth_init "keep" = some (some (.str "center" tk_CropWidth_init)))
    (l_CropHeight_init : K.lookup f_CropHeight_init = some ⟨oc_CropHeight_init, od_CropHeight_init, .func (PySem.W.fnOf "__init__" "CropHeight.__init__" (defArgs s_CropHeight_init) (defBody s_CropHeight_init) (defScope s_CropHeight_init) .none (.ref D_CropHeight_init) dc_CropHeight_init pm_CropHeight_init an_CropHeight_init cd_CropHeight_init ct_CropHeight_init), sl_CropHeight_init⟩)
    (c_CropHeight_init : PySem.W.codeIn K cd_CropHeight_init "CropHeight.__init__" = true)
    (k_CropHeight_init : PySem.W.keepIn K (.ref f_CropHeight_init) = true)
    (kd_CropHeight_init_keep : PySem.W.nsIn K D_CropHeight_init "keep" = some (some (.str "center" tk_CropHeight_init)))
    (l_Turn_init : K.lookup f_Turn_init = some ⟨oc_Turn_init, od_Turn_init, .func (PySem.W.fnOf "__init__" "Turn.__init__" (defArgs s_Turn_init) (defBody s_Turn_init) (defScope s_Turn_init) (.ref T_Turn_init) kV_Turn_init dc_Turn_init pm_Turn_init an_Turn_init cd_Turn_init ct_Turn_init), sl_Turn_init⟩)
    (c_Turn_init : PySem.W.codeIn K cd_Turn_init "Turn.__init__" = true)
    (k_Turn_init : PySem.W.keepIn K (.ref f_Turn_init) = true)
    (t_Turn_init : K.lookup T_Turn_init = some ⟨toc_Turn_init, tod_Turn_init, .seq #[.int 1 tk_Turn_init] tn_Turn_init, tsl_Turn_init⟩)
    (l_Step_details : K.lookup f_Step_details = some ⟨oc_Step_details, od_Step_details, .func (PySem.W.fnOf "details" "Step.details" (defArgs s_Step_details) (defBody s_Step_details) (defScope s_Step_details) .none kV_Step_details dc_Step_details pm_Step_details an_Step_details cd_Step_details ct_Step_details), sl_Step_details⟩)
    (c_Step_details : PySem.W.codeIn K cd_Step_details "Step.details" = true)
    (k_Step_details : PySem.W.keepIn K (.ref f_Step_details) = true)
    (l_Scaling_details : K.lookup f_Scaling_details = some ⟨oc_Scaling_details, od_Scaling_details, .func (PySem.W.fnOf "details" "Scaling.details" (defArgs s_Scaling_details) (defBody s_Scaling_details) (defScope s_Scaling_details) .none kV_Scaling_details dc_Scaling_details pm_Scaling_details an_Scaling_details cd_Scaling_details ct_Scaling_details), sl_Scaling_details⟩)
    (c_Scaling_details : PySem.W.codeIn K cd_Scaling_details "Scaling.details" = true)
    (k_Scaling_details : PySem.W.keepIn K (.ref f_Scaling_details) = true)
    (l_Crop_details : K.lookup f_Crop_details = some ⟨oc_Crop_details, od_Crop_details, .func (PySem.W.fnOf "details" "Crop.details" (defArgs s_Crop_details) (defBody s_Crop_details) (defScope s_Crop_details) .none kV_Crop_details dc_Crop_details pm_Crop_details an_Crop_details cd_Crop_details ct_Crop_details), sl_Crop_details⟩)
    (c_Crop_details : PySem.W.codeIn K cd_Crop_details "Crop.details" = true)
    (k_Crop_details : PySem.W.keepIn K (.ref f_Crop_details) = true)
    (l_Turn_details : K.lookup f_Turn_details = some ⟨oc_Turn_details, od_Turn_details, .func (PySem.W.fnOf "details" "Turn.details" (defArgs s_Turn_details) (defBody s_Turn_details) (defScope s_Turn_details) .none kV_Turn_details dc_Turn_details pm_Turn_details an_Turn_details cd_Turn_details ct_Turn_details), sl_Turn_details⟩)
    (c_Turn_details : PySem.W.codeIn K cd_Turn_details "Turn.details" = true)
    (k_Turn_details : PySem.W.keepIn K (.ref f_Turn_details) = true)
    (l_Step_str : K.lookup f_Step_str = some ⟨oc_Step_str, od_Step_str, .func (PySem.W.fnOf "__str__" "Step.__str__" (defArgs s_Step_str) (defBody s_Step_str) (defScope s_Step_str) .none kV_Step_str dc_Step_str pm_Step_str an_Step_str cd_Step_str ct_Step_str), sl_Step_str⟩)
    (c_Step_str : PySem.W.codeIn K cd_Step_str "Step.__str__" = true)
    (k_Step_str : PySem.W.keepIn K (.ref f_Step_str) = true)
    (l_Step_repr : K.lookup f_Step_repr = some ⟨oc_Step_repr, od_Step_repr, .func (PySem.W.fnOf "__repr__" "Step.__repr__" (defArgs s_Step_repr) (defBody s_Step_repr) (defScope s_Step_repr) .none kV_Step_repr dc_Step_repr pm_Step_repr an_Step_repr cd_Step_repr ct_Step_repr), sl_Step_repr⟩)
    (c_Step_repr : PySem.W.codeIn K cd_Step_repr "Step.__repr__" = true)
    (k_Step_repr : PySem.W.keepIn K (.ref f_Step_repr) = true)
    : ∃ fd : FuncData, (∀ (s : Shared) (u : Value), BindsTo s fd ⟨[u], []⟩ [("_law_script", u)]) ∧ ∀ base : Heap, K.In base → base.Ns mainGlobals mg → FnT l.prog w K mg base 10 fa fd ["_law_script"] sp_law := by
  have e := hfa.symm.trans (PySem.W.mg_of X G a_law)
  cases e
  have F_is_integer := fun_mk (st := s_is_integer) l_is_integer c_is_integer k_is_integer
  have b_is_integer := F_is_integer.binds (ps := ["value"]) fun _ _ _ _ _ _ us hl => match us, hl with | [_], _ => rfl
  have m_is_integer := PySem.W.mg_of X G a_is_integer
  have F_is_positive := fun_mk (st := s_is_positive) l_is_positive c_is_positive k_is_positive
  have b_is_positive := F_is_positive.binds (ps := ["value"]) fun _ _ _ _ _ _ us hl => match us, hl with | [_], _ => rfl
  have m_is_positive := PySem.W.mg_of X G a_is_positive
  have F_l_cell := fun_mk (st := s_l_cell) l_l_cell c_l_cell k_l_cell
  have b_l_cell := F_l_cell.binds (ps := ["_law_script", "_law_k"]) fun _ _ _ _ _ _ us hl => match us, hl with | [_, _], _ => rfl
  have m_l_cell := PySem.W.mg_of X G a_l_cell
  have F_l_pool := fun_mk (st := s_l_pool) l_l_pool c_l_pool k_l_pool
  have b_l_pool := F_l_pool.binds (ps := ["_law_figure"]) fun _ _ _ _ _ _ us hl => match us, hl with | [_], _ => rfl
  have m_l_pool := PySem.W.mg_of X G a_l_pool
  have F_l_draw := fun_mk (st := s_l_draw) l_l_draw c_l_draw k_l_draw
  have b_l_draw := F_l_draw.binds (ps := ["_law_pool_here", "_law_most"]) fun _ _ _ _ _ _ us hl => match us, hl with | [_, _], _ => rfl
  have m_l_draw := PySem.W.mg_of X G a_l_draw
  have F_check_box := fun_mk (st := s_check_box) l_check_box c_check_box k_check_box
  have b_check_box := F_check_box.binds (ps := ["width", "height"]) fun _ _ _ _ _ _ us hl => match us, hl with | [_, _], _ => rfl
  have m_check_box := PySem.W.mg_of X G a_check_box
  have F_Scaling_init := fun_mk (st := s_Scaling_init) l_Scaling_init c_Scaling_init k_Scaling_init
  have b_Scaling_init := F_Scaling_init.binds (ps := ["self", "width", "height", "cover"]) fun _ _ _ _ _ _ us hl => match us, hl with | [_, _, _, _], _ => rfl
  have F_Shrink_init : FunD K "__init__" "Shrink.__init__" (defArgs s_Shrink_init) (defBody s_Shrink_init) (defScope s_Shrink_init) [] [("cover", .bl false)] f_Shrink_init _ := ⟨⟨_, _, _, _, _, _, _, _, _, _, rfl, l_Shrink_init, c_Shrink_init, .inl ⟨rfl, rfl⟩, .inr ⟨D_Shrink_init, rfl, by intro z hz; simp only [List.mem_cons, List.not_mem_nil, or_false] at hz; subst hz; exact ⟨_, kd_Shrink_init_cover, rfl⟩⟩⟩, k_Shrink_init⟩
  have F_Grow_init : FunD K "__init__" "Grow.__init__" (defArgs s_Grow_init) (defBody s_Grow_init) (defScope s_Grow_init) [] [("cover", .bl false)] f_Grow_init _ := ⟨⟨_, _, _, _, _, _, _, _, _, _, rfl, l_Grow_init, c_Grow_init, .inl ⟨rfl, rfl⟩, .inr ⟨D_Grow_init, rfl, by intro z hz; simp only [List.mem_cons, List.not_mem_nil, or_false] at hz; subst hz; exact ⟨_, kd_Grow_init_cover, rfl⟩⟩⟩, k_Grow_init⟩
  have F_Crop_init := fun_mk (st := s_Crop_init) l_Crop_init c_Crop_init k_Crop_init
  have b_Crop_init := F_Crop_init.binds (ps := ["self", "width", "height", "keep", "words"]) fun _ _ _ _ _ _ us hl => match us, hl with | [_, _, _, _, _], _ => rfl
  have F_CropWidth_init : FunD K "__init__" "CropWidth.__init__" (defArgs s_CropWidth_init) (defBody s_CropWidth_init) (defScope s_CropWidth_init) [] [("keep", .str "center")] f_CropWidth_init _ := ⟨⟨_, _, _, _, _, _, _, _, _, _, rfl, l_CropWidth_init, c_CropWidth_init, .inl ⟨rfl, rfl⟩, .inr ⟨D_CropWidth_init, rfl, by intro z hz; simp only [List.mem_cons, List.not_mem_nil, or_false] at hz; subst hz; exact ⟨_, kd_CropWidth_init_keep, ⟨_, rfl⟩⟩⟩⟩, k_CropWidth_init⟩
  have F_CropHeight_init : FunD K "__init__" "CropHeight.__init__" (defArgs s_CropHeight_init) (defBody s_CropHeight_init) (defScope s_CropHeight_init) [] [("keep", .str "center")] f_CropHeight_init _ := ⟨⟨_, _, _, _, _, _, _, _, _, _, rfl, l_CropHeight_init, c_CropHeight_init, .inl ⟨rfl, rfl⟩, .inr ⟨D_CropHeight_init, rfl, by intro z hz; simp only [List.mem_cons, List.not_mem_nil, or_false] at hz; subst hz; exact ⟨_, kd_CropHeight_init_keep, ⟨_, rfl⟩⟩⟩⟩, k_CropHeight_init⟩
  have F_Turn_init : FunD K "__init__" "Turn.__init__" (defArgs s_Turn_init) (defBody s_Turn_init) (defScope s_Turn_init) [.int 1] [] f_Turn_init _ := ⟨⟨_, _, _, _, _, _, _, _, _, _, rfl, l_Turn_init, c_Turn_init, .inr ⟨by simp, T_Turn_init, _, [.int 1 tk_Turn_init], tn_Turn_init, rfl, t_Turn_init, rfl, .cons ⟨_, rfl⟩ .nil⟩, .inl rfl⟩, k_Turn_init⟩
  have b_Turn_init : Binds K _ ["self", "times"] [] := FunP.b F_Turn_init (by simp) fun T _ _ _ _ _ _ us its h1 h2 => match us, its, h1, h2 with | [_, _], [_], _, _ => ⟨_, rfl, rfl⟩
  have F_l_side := fun_mk (st := s_l_side) l_l_side c_l_side k_l_side
  have b_l_side := F_l_side.binds (ps := ["_law_pool_here", "_law_great"]) fun _ _ _ _ _ _ us hl => match us, hl with | [_, _], _ => rfl
  have m_l_side := PySem.W.mg_of X G a_l_side
  have F_l_drawn := fun_mk (st := s_l_drawn) l_l_drawn c_l_drawn k_l_drawn
  have b_l_drawn := F_l_drawn.binds (ps := ["_law_pool_here", "_law_great"]) fun _ _ _ _ _ _ us hl => match us, hl with | [_, _], _ => rfl
  have m_l_drawn := PySem.W.mg_of X G a_l_drawn
  have F_Step_details := fun_mk (st := s_Step_details) l_Step_details c_Step_details k_Step_details
  have b_Step_details := F_Step_details.binds (ps := ["self"]) fun _ _ _ _ _ _ us hl => match us, hl with | [_], _ => rfl
  have F_Scaling_details := fun_mk (st := s_Scaling_details) l_Scaling_details c_Scaling_details k_Scaling_details
  have b_Scaling_details := F_Scaling_details.binds (ps := ["self"]) fun _ _ _ _ _ _ us hl => match us, hl with | [_], _ => rfl
  have F_Crop_details := fun_mk (st := s_Crop_details) l_Crop_details c_Crop_details k_Crop_details
  have b_Crop_details := F_Crop_details.binds (ps := ["self"]) fun _ _ _ _ _ _ us hl => match us, hl with | [_], _ => rfl
  have F_Turn_details := fun_mk (st := s_Turn_details) l_Turn_details c_Turn_details k_Turn_details
  have b_Turn_details := F_Turn_details.binds (ps := ["self"]) fun _ _ _ _ _ _ us hl => match us, hl with | [_], _ => rfl
  have F_Step_str := fun_mk (st := s_Step_str) l_Step_str c_Step_str k_Step_str
  have b_Step_str := F_Step_str.binds (ps := ["self"]) fun _ _ _ _ _ _ us hl => match us, hl with | [_], _ => rfl
  have F_Step_repr := fun_mk (st := s_Step_repr) l_Step_repr c_Step_repr k_Step_repr
  have b_Step_repr := F_Step_repr.binds (ps := ["self"]) fun _ _ _ _ _ _ us hl => match us, hl with | [_], _ => rfl
  have F_l_shown := fun_mk (st := s_l_shown) l_l_shown c_l_shown k_l_shown
  have b_l_shown := F_l_shown.binds (ps := ["_law_spec"]) fun _ _ _ _ _ _ us hl => match us, hl with | [_], _ => rfl
  have m_l_shown := PySem.W.mg_of X G a_l_shown
  have F_l_made_twice := fun_mk (st := s_l_made_twice) l_l_made_twice c_l_made_twice k_l_made_twice
  have b_l_made_twice := F_l_made_twice.binds (ps := ["_law_spec"]) fun _ _ _ _ _ _ us hl => match us, hl with | [_], _ => rfl
  have m_l_made_twice := PySem.W.mg_of X G a_l_made_twice
  have F_l_classes := fun_mk (st := s_l_classes) l_l_classes c_l_classes k_l_classes
  have b_l_classes := F_l_classes.binds (ps := ["_law_made"]) fun _ _ _ _ _ _ us hl => match us, hl with | [_], _ => rfl
  have m_l_classes := PySem.W.mg_of X G a_l_classes
  have F_l_parts := fun_mk (st := s_l_parts) l_l_parts c_l_parts k_l_parts
  have b_l_parts := F_l_parts.binds (ps := ["_law_spec", "_law_made"]) fun _ _ _ _ _ _ us hl => match us, hl with | [_, _], _ => rfl
  have m_l_parts := PySem.W.mg_of X G a_l_parts
  have F_l_spec_right := fun_mk (st := s_l_spec_right) l_l_spec_right c_l_spec_right k_l_spec_right
  have b_l_spec_right := F_l_spec_right.binds (ps := ["_law_spec"]) fun _ _ _ _ _ _ us hl => match us, hl with | [_], _ => rfl
  have m_l_spec_right := PySem.W.mg_of X G a_l_spec_right
  have F_l_plain_right := fun_mk (st := s_l_plain_right) l_l_plain_right c_l_plain_right k_l_plain_right
  have b_l_plain_right := F_l_plain_right.binds (ps := ["_law_one", "_law_more"]) fun _ _ _ _ _ _ us hl => match us, hl with | [_, _], _ => rfl
  have m_l_plain_right := PySem.W.mg_of X G a_l_plain_right
  have F_l_right := fun_mk (st := s_l_right) l_l_right c_l_right k_l_right
  have b_l_right := F_l_right.binds (ps := ["_law_pool_here"]) fun _ _ _ _ _ _ us hl => match us, hl with | [_], _ => rfl
  have m_l_right := PySem.W.mg_of X G a_l_right
  have F_law := fun_mk (st := s_law) l_law c_law k_law
  have b_law := F_law.binds (ps := ["_law_script"]) fun _ _ _ _ _ _ us hl => match us, hl with | [_], _ => rfl
  have m_law := PySem.W.mg_of X G a_law
  have kb_Turn_init_1_times : CallB K _ ["self", "times"] 1 ["times"] (fun ts zs => pickG [(0, 0), (2, 0)] ts [.int 1] zs) := FunP.cb F_Turn_init 1 ["times"] [(0, 0), (2, 0)] (by simp) (DefT.int DefT.nil) fun T _ _ _ _ _ _ us its ws h1 h2 h3 => match us, its, ws, h1, h2, h3 with | [_], [_], [_], _, _, _ => ⟨_, rfl, rfl⟩
  have kb_CropHeight_init_1_keep_height_width : CallB K _ ["self", "width", "height", "keep"] 1 ["keep", "height", "width"] (fun ts zs => pickG [(0, 0), (2, 2), (2, 1), (2, 0)] ts [] zs) := FunK.cb F_CropHeight_init 1 ["keep", "height", "width"] [(0, 0), (2, 2), (2, 1), (2, 0)] fun _ _ _ _ _ _ us ws h1 h2 => match us, ws, h1, h2 with | [_], [_, _, _], _, _ => rfl
  have kb_CropHeight_init_3_keep : CallB K _ ["self", "width", "height", "keep"] 3 ["keep"] (fun ts zs => pickG [(0, 0), (0, 1), (0, 2), (2, 0)] ts [] zs) := FunK.cb F_CropHeight_init 3 ["keep"] [(0, 0), (0, 1), (0, 2), (2, 0)] fun _ _ _ _ _ _ us ws h1 h2 => match us, ws, h1, h2 with | [_, _, _], [_], _, _ => rfl
  have kb_CropWidth_init_1_keep_height_width : CallB K _ ["self", "width", "height", "keep"] 1 ["keep", "height", "width"] (fun ts zs => pickG [(0, 0), (2, 2), (2, 1), (2, 0)] ts [] zs) := FunK.cb F_CropWidth_init 1 ["keep", "height", "width"] [(0, 0), (2, 2), (2, 1), (2, 0)] fun _ _ _ _ _ _ us ws h1 h2 => match us, ws, h1, h2 with | [_], [_, _, _], _, _ => rfl
  have kb_CropWidth_init_3_keep : CallB K _ ["self", "width", "height", "keep"] 3 ["keep"] (fun ts zs => pickG [(0, 0), (0, 1), (0, 2), (2, 0)] ts [] zs) := FunK.cb F_CropWidth_init 3 ["keep"] [(0, 0), (0, 1), (0, 2), (2, 0)] fun _ _ _ _ _ _ us ws h1 h2 => match us, ws, h1, h2 with | [_, _, _], [_], _, _ => rfl
  have kb_Grow_init_1_height_cover_width : CallB K _ ["self", "width", "height", "cover"] 1 ["height", "cover", "width"] (fun ts zs => pickG [(0, 0), (2, 2), (2, 0), (2, 1)] ts [] zs) := FunK.cb F_Grow_init 1 ["height", "cover", "width"] [(0, 0), (2, 2), (2, 0), (2, 1)] fun _ _ _ _ _ _ us ws h1 h2 => match us, ws, h1, h2 with | [_], [_, _, _], _, _ => rfl
  have kb_Grow_init_3_cover : CallB K _ ["self", "width", "height", "cover"] 3 ["cover"] (fun ts zs => pickG [(0, 0), (0, 1), (0, 2), (2, 0)] ts [] zs) := FunK.cb F_Grow_init 3 ["cover"] [(0, 0), (0, 1), (0, 2), (2, 0)] fun _ _ _ _ _ _ us ws h1 h2 => match us, ws, h1, h2 with | [_, _, _], [_], _, _ => rfl
  have kb_Shrink_init_1_height_cover_width : CallB K _ ["self", "width", "height", "cover"] 1 ["height", "cover", "width"] (fun ts zs => pickG [(0, 0), (2, 2), (2, 0), (2, 1)] ts [] zs) := FunK.cb F_Shrink_init 1 ["height", "cover", "width"] [(0, 0), (2, 2), (2, 0), (2, 1)] fun _ _ _ _ _ _ us ws h1 h2 => match us, ws, h1, h2 with | [_], [_, _, _], _, _ => rfl
  have kb_Shrink_init_3_cover : CallB K _ ["self", "width", "height", "cover"] 3 ["cover"] (fun ts zs => pickG [(0, 0), (0, 1), (0, 2), (2, 0)] ts [] zs) := FunK.cb F_Shrink_init 3 ["cover"] [(0, 0), (0, 1), (0, 2), (2, 0)] fun _ _ _ _ _ _ us ws h1 h2 => match us, ws, h1, h2 with | [_, _, _], [_], _, _ => rfl
  have cd_Turn_init_1 : CallD K _ ["self", "times"] [.int 1] := FunP.cd F_Turn_init 1 0 (by simp) rfl (DefT.int DefT.nil) fun T _ _ _ _ _ _ us its h1 h2 => match us, its, h1, h2 with | [_], [_], _, _ => ⟨_, rfl, rfl⟩
  have cd_CropHeight_init_1 : CallD K _ ["self", "width", "height", "keep"] [.str "center"] := FunK.cd F_CropHeight_init 3 (by simp) rfl (DefT.str (DefT.nil)) fun D _ _ _ _ _ us ks h1 h2 => match us, ks, h1, h2 with | [_, _, _], [_], _, _ => ⟨_, _, _, _, _, _, rfl, rfl, rfl⟩
  have cd_CropWidth_init_1 : CallD K _ ["self", "width", "height", "keep"] [.str "center"] := FunK.cd F_CropWidth_init 3 (by simp) rfl (DefT.str (DefT.nil)) fun D _ _ _ _ _ us ks h1 h2 => match us, ks, h1, h2 with | [_, _, _], [_], _, _ => ⟨_, _, _, _, _, _, rfl, rfl, rfl⟩
  have cd_Grow_init_1 : CallD K _ ["self", "width", "height", "cover"] [.bl false] := FunK.cd F_Grow_init 3 (by simp) rfl (DefT.bl (DefT.nil)) fun D _ _ _ _ _ us ks h1 h2 => match us, ks, h1, h2 with | [_, _, _], [_], _, _ => ⟨_, _, _, _, _, _, rfl, rfl, rfl⟩
  have cd_Shrink_init_1 : CallD K _ ["self", "width", "height", "cover"] [.bl false] := FunK.cd F_Shrink_init 3 (by simp) rfl (DefT.bl (DefT.nil)) fun D _ _ _ _ _ us ks h1 h2 => match us, ks, h1, h2 with | [_, _, _], [_], _, _ => ⟨_, _, _, _, _, _, rfl, rfl, rfl⟩
  have n_isinstance := PySem.W.mg_none_of X G z_isinstance
  have n_bool := PySem.W.mg_none_of X G z_bool
  have n_int := PySem.W.mg_none_of X G z_int
  have n_len := PySem.W.mg_none_of X G z_len
  have n_abs := PySem.W.mg_none_of X G z_abs
  have n_divmod := PySem.W.mg_none_of X G z_divmod
  have n_str := PySem.W.mg_none_of X G z_str
  have n_repr := PySem.W.mg_none_of X G z_repr
  have n_list := PySem.W.mg_none_of X G z_list
  have n_range := PySem.W.mg_none_of X G z_range
  have n_all := PySem.W.mg_none_of X G z_all
  have n_min := PySem.W.mg_none_of X G z_min
  have n_max := PySem.W.mg_none_of X G z_max
  have c_MOST_SIDE := PySem.W.mg_of X G a_MOST_SIDE
  have m_Scaling := PySem.W.mg_of X G ca_Scaling
  have cl_Scaling : Cls K C_Scaling := ⟨cg_Scaling, ch_Scaling, cp_Scaling, cs_Scaling⟩
  have cr_Scaling : ClX.CRead K C_Scaling (.type "type") := ⟨cr1_Scaling, cr2_Scaling⟩
  have cf_Scaling_init := cfq_Scaling_init
  have m_Shrink := PySem.W.mg_of X G ca_Shrink
  have cl_Shrink : Cls K C_Shrink := ⟨cg_Shrink, ch_Shrink, cp_Shrink, cs_Shrink⟩
  have nf_Shrink_width : InF K C_Shrink "width" := ⟨cl_Shrink, nq_Shrink_width⟩
  have nf_Shrink_height : InF K C_Shrink "height" := ⟨cl_Shrink, nq_Shrink_height⟩
  have nf_Shrink_cover : InF K C_Shrink "cover" := ⟨cl_Shrink, nq_Shrink_cover⟩
  have m_Grow := PySem.W.mg_of X G ca_Grow
  have cl_Grow : Cls K C_Grow := ⟨cg_Grow, ch_Grow, cp_Grow, cs_Grow⟩
  have nf_Grow_width : InF K C_Grow "width" := ⟨cl_Grow, nq_Grow_width⟩
  have nf_Grow_height : InF K C_Grow "height" := ⟨cl_Grow, nq_Grow_height⟩
  have nf_Grow_cover : InF K C_Grow "cover" := ⟨cl_Grow, nq_Grow_cover⟩
  have m_Crop := PySem.W.mg_of X G ca_Crop
  have cl_Crop : Cls K C_Crop := ⟨cg_Crop, ch_Crop, cp_Crop, cs_Crop⟩
  have cr_Crop : ClX.CRead K C_Crop (.type "type") := ⟨cr1_Crop, cr2_Crop⟩
  have cf_Crop_init := cfq_Crop_init
  have m_CropWidth := PySem.W.mg_of X G ca_CropWidth
  have cl_CropWidth : Cls K C_CropWidth := ⟨cg_CropWidth, ch_CropWidth, cp_CropWidth, cs_CropWidth⟩
  have cr_CropWidth : ClX.CRead K C_CropWidth (.type "type") := ⟨cr1_CropWidth, cr2_CropWidth⟩
  have cv_CropWidth_KEEPS : CValT K C_CropWidth "KEEPS" (.tup [(.str "left"), (.str "center"), (.str "right")]) := ⟨.ref A_CropWidth_KEEPS, _, ⟨cvq_CropWidth_KEEPS, rfl⟩, fun _ _ _ => .tup (.inr ⟨_, _, _, cvl_CropWidth_KEEPS, rfl, rfl, (show 3 ≤ sizeLine by decide), .cons (a := V.str "left") ⟨_, rfl⟩ (.cons (a := V.str "center") ⟨_, rfl⟩ (.cons (a := V.str "right") ⟨_, rfl⟩ (.nil)))⟩) (.cons (.str _) (.cons (.str _) (.cons (.str _) (.nil))))⟩
  have nf_CropWidth_width : InF K C_CropWidth "width" := ⟨cl_CropWidth, nq_CropWidth_width⟩
  have nf_CropWidth_height : InF K C_CropWidth "height" := ⟨cl_CropWidth, nq_CropWidth_height⟩
  have nf_CropWidth_keep : InF K C_CropWidth "keep" := ⟨cl_CropWidth, nq_CropWidth_keep⟩
  have m_CropHeight := PySem.W.mg_of X G ca_CropHeight
  have cl_CropHeight : Cls K C_CropHeight := ⟨cg_CropHeight, ch_CropHeight, cp_CropHeight, cs_CropHeight⟩
  have cr_CropHeight : ClX.CRead K C_CropHeight (.type "type") := ⟨cr1_CropHeight, cr2_CropHeight⟩
  have cv_CropHeight_KEEPS : CValT K C_CropHeight "KEEPS" (.tup [(.str "top"), (.str "center"), (.str "bottom")]) := ⟨.ref A_CropHeight_KEEPS, _, ⟨cvq_CropHeight_KEEPS, rfl⟩, fun _ _ _ => .tup (.inr ⟨_, _, _, cvl_CropHeight_KEEPS, rfl, rfl, (show 3 ≤ sizeLine by decide), .cons (a := V.str "top") ⟨_, rfl⟩ (.cons (a := V.str "center") ⟨_, rfl⟩ (.cons (a := V.str "bottom") ⟨_, rfl⟩ (.nil)))⟩) (.cons (.str _) (.cons (.str _) (.cons (.str _) (.nil))))⟩
  have nf_CropHeight_width : InF K C_CropHeight "width" := ⟨cl_CropHeight, nq_CropHeight_width⟩
  have nf_CropHeight_height : InF K C_CropHeight "height" := ⟨cl_CropHeight, nq_CropHeight_height⟩
  have nf_CropHeight_keep : InF K C_CropHeight "keep" := ⟨cl_CropHeight, nq_CropHeight_keep⟩
  have m_Turn := PySem.W.mg_of X G ca_Turn
  have cl_Turn : Cls K C_Turn := ⟨cg_Turn, ch_Turn, cp_Turn, cs_Turn⟩
  have nf_Turn_times : InF K C_Turn "times" := ⟨cl_Turn, nq_Turn_times⟩
  have me_Shrink_details : Meth K C_Shrink "details" f_Scaling_details := ⟨mq_Shrink_details, mi_Shrink_details, k_Scaling_details⟩
  have me_Grow_details : Meth K C_Grow "details" f_Scaling_details := ⟨mq_Grow_details, mi_Grow_details, k_Scaling_details⟩
  have me_CropWidth_details : Meth K C_CropWidth "details" f_Crop_details := ⟨mq_CropWidth_details, mi_CropWidth_details, k_Crop_details⟩
  have me_CropHeight_details : Meth K C_CropHeight "details" f_Crop_details := ⟨mq_CropHeight_details, mi_CropHeight_details, k_Crop_details⟩
  have me_Turn_details : Meth K C_Turn "details" f_Turn_details := ⟨mq_Turn_details, mi_Turn_details, k_Turn_details⟩
  have m_Landscape := PySem.W.mg_of X G ca_Landscape
  have cl_Landscape : Cls K C_Landscape := ⟨cg_Landscape, ch_Landscape, cp_Landscape, cs_Landscape⟩
  have me_Landscape_details : Meth K C_Landscape "details" f_Step_details := ⟨mq_Landscape_details, mi_Landscape_details, k_Step_details⟩
  have m_Portrait := PySem.W.mg_of X G ca_Portrait
  have cl_Portrait : Cls K C_Portrait := ⟨cg_Portrait, ch_Portrait, cp_Portrait, cs_Portrait⟩
  have me_Portrait_details : Meth K C_Portrait "details" f_Step_details := ⟨mq_Portrait_details, mi_Portrait_details, k_Step_details⟩
  have ic_Shrink_WORD : InC K C_Shrink "WORD" (.str "shrink") := ⟨cl_Shrink, .str "shrink", _, ⟨icq_Shrink_WORD, ⟨_, rfl⟩, icg_Shrink_WORD, by decide⟩, fun _ _ _ => .str _⟩
  have ic_Grow_WORD : InC K C_Grow "WORD" (.str "grow") := ⟨cl_Grow, .str "grow", _, ⟨icq_Grow_WORD, ⟨_, rfl⟩, icg_Grow_WORD, by decide⟩, fun _ _ _ => .str _⟩
  have ic_CropWidth_WORD : InC K C_CropWidth "WORD" (.str "width") := ⟨cl_CropWidth, .str "width", _, ⟨icq_CropWidth_WORD, ⟨_, rfl⟩, icg_CropWidth_WORD, by decide⟩, fun _ _ _ => .str _⟩
  have ic_CropHeight_WORD : InC K C_CropHeight "WORD" (.str "height") := ⟨cl_CropHeight, .str "height", _, ⟨icq_CropHeight_WORD, ⟨_, rfl⟩, icg_CropHeight_WORD, by decide⟩, fun _ _ _ => .str _⟩
  have ic_Turn_WORD : InC K C_Turn "WORD" (.str "turn") := ⟨cl_Turn, .str "turn", _, ⟨icq_Turn_WORD, ⟨_, rfl⟩, icg_Turn_WORD, by decide⟩, fun _ _ _ => .str _⟩
  have ic_Landscape_WORD : InC K C_Landscape "WORD" (.str "landscape") := ⟨cl_Landscape, .str "landscape", _, ⟨icq_Landscape_WORD, ⟨_, rfl⟩, icg_Landscape_WORD, by decide⟩, fun _ _ _ => .str _⟩
  have ic_Portrait_WORD : InC K C_Portrait "WORD" (.str "portrait") := ⟨cl_Portrait, .str "portrait", _, ⟨icq_Portrait_WORD, ⟨_, rfl⟩, icg_Portrait_WORD, by decide⟩, fun _ _ _ => .str _⟩
  have od_Shrink_str : OwnDef K C_Shrink "__str__" f_Step_str := ⟨od1_Shrink_str, od2_Shrink_str⟩
  have od_Grow_str : OwnDef K C_Grow "__str__" f_Step_str := ⟨od1_Grow_str, od2_Grow_str⟩
  have od_CropWidth_str : OwnDef K C_CropWidth "__str__" f_Step_str := ⟨od1_CropWidth_str, od2_CropWidth_str⟩
  have od_CropHeight_str : OwnDef K C_CropHeight "__str__" f_Step_str := ⟨od1_CropHeight_str, od2_CropHeight_str⟩
  have od_Turn_str : OwnDef K C_Turn "__str__" f_Step_str := ⟨od1_Turn_str, od2_Turn_str⟩
  have od_Landscape_str : OwnDef K C_Landscape "__str__" f_Step_str := ⟨od1_Landscape_str, od2_Landscape_str⟩
  have od_Portrait_str : OwnDef K C_Portrait "__str__" f_Step_str := ⟨od1_Portrait_str, od2_Portrait_str⟩
  have mp_Landscape : MkP K C_Landscape := ⟨cm_Landscape, ck_Landscape, ci_Landscape, co_Landscape⟩
  have mp_Portrait : MkP K C_Portrait := ⟨cm_Portrait, ck_Portrait, ci_Portrait, co_Portrait⟩
  have M_Turn : Mk K C_Turn f_Turn_init := ⟨cm_Turn, ci_Turn, cf2_Turn, ck_Turn⟩
  have M_CropHeight : Mk K C_CropHeight f_CropHeight_init := ⟨cm_CropHeight, ci_CropHeight, cf2_CropHeight, ck_CropHeight⟩
  have M_CropWidth : Mk K C_CropWidth f_CropWidth_init := ⟨cm_CropWidth, ci_CropWidth, cf2_CropWidth, ck_CropWidth⟩
  have M_Grow : Mk K C_Grow f_Grow_init := ⟨cm_Grow, ci_Grow, cf2_Grow, ck_Grow⟩
  have M_Shrink : Mk K C_Shrink f_Shrink_init := ⟨cm_Shrink, ci_Shrink, cf2_Shrink, ck_Shrink⟩
  have m_Step := PySem.W.mg_of X G ca_Step
  have cl_Step : Cls K C_Step := ⟨cg_Step, ch_Step, cp_Step, cs_Step⟩
  have is_Shrink : InsC K C_Shrink := ⟨cl_Shrink, is1_Shrink, is2_Shrink, is3_Shrink, is4_Shrink⟩
  have kt_Shrink_Shrink := ktq_Shrink_Shrink
  have kt_Shrink_Grow := ktq_Shrink_Grow
  have kt_Shrink_CropWidth := ktq_Shrink_CropWidth
  have kt_Shrink_CropHeight := ktq_Shrink_CropHeight
  have kt_Shrink_Turn := ktq_Shrink_Turn
  have kt_Shrink_Landscape := ktq_Shrink_Landscape
  have kt_Shrink_Portrait := ktq_Shrink_Portrait
  have kt_Shrink_Scaling := ktq_Shrink_Scaling
  have kt_Shrink_Crop := ktq_Shrink_Crop
  have kt_Shrink_Step := ktq_Shrink_Step
  have is_Grow : InsC K C_Grow := ⟨cl_Grow, is1_Grow, is2_Grow, is3_Grow, is4_Grow⟩
  have kt_Grow_Shrink := ktq_Grow_Shrink
  have kt_Grow_Grow := ktq_Grow_Grow
  have kt_Grow_CropWidth := ktq_Grow_CropWidth
  have kt_Grow_CropHeight := ktq_Grow_CropHeight
  have kt_Grow_Turn := ktq_Grow_Turn
  have kt_Grow_Landscape := ktq_Grow_Landscape
  have kt_Grow_Portrait := ktq_Grow_Portrait
  have kt_Grow_Scaling := ktq_Grow_Scaling
  have kt_Grow_Crop := ktq_Grow_Crop
  have kt_Grow_Step := ktq_Grow_Step
  have is_CropWidth : InsC K C_CropWidth := ⟨cl_CropWidth, is1_CropWidth, is2_CropWidth, is3_CropWidth, is4_CropWidth⟩
  have kt_CropWidth_Shrink := ktq_CropWidth_Shrink
  have kt_CropWidth_Grow := ktq_CropWidth_Grow
  have kt_CropWidth_CropWidth := ktq_CropWidth_CropWidth
  have kt_CropWidth_CropHeight := ktq_CropWidth_CropHeight
  have kt_CropWidth_Turn := ktq_CropWidth_Turn
  have kt_CropWidth_Landscape := ktq_CropWidth_Landscape
  have kt_CropWidth_Portrait := ktq_CropWidth_Portrait
  have kt_CropWidth_Scaling := ktq_CropWidth_Scaling
  have kt_CropWidth_Crop := ktq_CropWidth_Crop
  have kt_CropWidth_Step := ktq_CropWidth_Step
  have is_CropHeight : InsC K C_CropHeight := ⟨cl_CropHeight, is1_CropHeight, is2_CropHeight, is3_CropHeight, is4_CropHeight⟩
  have kt_CropHeight_Shrink := ktq_CropHeight_Shrink
  have kt_CropHeight_Grow := ktq_CropHeight_Grow
  have kt_CropHeight_CropWidth := ktq_CropHeight_CropWidth
  have kt_CropHeight_CropHeight := ktq_CropHeight_CropHeight
  have kt_CropHeight_Turn := ktq_CropHeight_Turn
  have kt_CropHeight_Landscape := ktq_CropHeight_Landscape
  have kt_CropHeight_Portrait := ktq_CropHeight_Portrait
  have kt_CropHeight_Scaling := ktq_CropHeight_Scaling
  have kt_CropHeight_Crop := ktq_CropHeight_Crop
  have kt_CropHeight_Step := ktq_CropHeight_Step
  have is_Turn : InsC K C_Turn := ⟨cl_Turn, is1_Turn, is2_Turn, is3_Turn, is4_Turn⟩
  have kt_Turn_Shrink := ktq_Turn_Shrink
  have kt_Turn_Grow := ktq_Turn_Grow
  have kt_Turn_CropWidth := ktq_Turn_CropWidth
  have kt_Turn_CropHeight := ktq_Turn_CropHeight
  have kt_Turn_Turn := ktq_Turn_Turn
  have kt_Turn_Landscape := ktq_Turn_Landscape
  have kt_Turn_Portrait := ktq_Turn_Portrait
  have kt_Turn_Scaling := ktq_Turn_Scaling
  have kt_Turn_Crop := ktq_Turn_Crop
  have kt_Turn_Step := ktq_Turn_Step
  have is_Landscape : InsC K C_Landscape := ⟨cl_Landscape, is1_Landscape, is2_Landscape, is3_Landscape, is4_Landscape⟩
  have kt_Landscape_Shrink := ktq_Landscape_Shrink
  have kt_Landscape_Grow := ktq_Landscape_Grow
  have kt_Landscape_CropWidth := ktq_Landscape_CropWidth
  have kt_Landscape_CropHeight := ktq_Landscape_CropHeight
  have kt_Landscape_Turn := ktq_Landscape_Turn
  have kt_Landscape_Landscape := ktq_Landscape_Landscape
  have kt_Landscape_Portrait := ktq_Landscape_Portrait
  have kt_Landscape_Scaling := ktq_Landscape_Scaling
  have kt_Landscape_Crop := ktq_Landscape_Crop
  have kt_Landscape_Step := ktq_Landscape_Step
  have is_Portrait : InsC K C_Portrait := ⟨cl_Portrait, is1_Portrait, is2_Portrait, is3_Portrait, is4_Portrait⟩
  have kt_Portrait_Shrink := ktq_Portrait_Shrink
  have kt_Portrait_Grow := ktq_Portrait_Grow
  have kt_Portrait_CropWidth := ktq_Portrait_CropWidth
  have kt_Portrait_CropHeight := ktq_Portrait_CropHeight
  have kt_Portrait_Turn := ktq_Portrait_Turn
  have kt_Portrait_Landscape := ktq_Portrait_Landscape
  have kt_Portrait_Portrait := ktq_Portrait_Portrait
  have kt_Portrait_Scaling := ktq_Portrait_Scaling
  have kt_Portrait_Crop := ktq_Portrait_Crop
  have kt_Portrait_Step := ktq_Portrait_Step
  have od_Shrink_repr : OwnDef K C_Shrink "__repr__" f_Step_repr := ⟨od1_Shrink_repr, od2_Shrink_repr⟩
  have od_Grow_repr : OwnDef K C_Grow "__repr__" f_Step_repr := ⟨od1_Grow_repr, od2_Grow_repr⟩
  have od_CropWidth_repr : OwnDef K C_CropWidth "__repr__" f_Step_repr := ⟨od1_CropWidth_repr, od2_CropWidth_repr⟩
  have od_CropHeight_repr : OwnDef K C_CropHeight "__repr__" f_Step_repr := ⟨od1_CropHeight_repr, od2_CropHeight_repr⟩
  have od_Turn_repr : OwnDef K C_Turn "__repr__" f_Step_repr := ⟨od1_Turn_repr, od2_Turn_repr⟩
  have od_Landscape_repr : OwnDef K C_Landscape "__repr__" f_Step_repr := ⟨od1_Landscape_repr, od2_Landscape_repr⟩
  have od_Portrait_repr : OwnDef K C_Portrait "__repr__" f_Step_repr := ⟨od1_Portrait_repr, od2_Portrait_repr⟩
  have cr_Portrait : ClX.CRead K C_Portrait (.type "type") := ⟨cr1_Portrait, cr2_Portrait⟩
  have cv_Portrait_WORD : CValT K C_Portrait "WORD" (.str "portrait") := ⟨.str "portrait", _, ⟨cvq_Portrait_WORD, ⟨_, rfl⟩⟩, fun _ _ _ => .str _⟩
  have cr_Landscape : ClX.CRead K C_Landscape (.type "type") := ⟨cr1_Landscape, cr2_Landscape⟩
  have cv_Landscape_WORD : CValT K C_Landscape "WORD" (.str "landscape") := ⟨.str "landscape", _, ⟨cvq_Landscape_WORD, ⟨_, rfl⟩⟩, fun _ _ _ => .str _⟩
  have cr_Turn : ClX.CRead K C_Turn (.type "type") := ⟨cr1_Turn, cr2_Turn⟩
  have cv_Turn_WORD : CValT K C_Turn "WORD" (.str "turn") := ⟨.str "turn", _, ⟨cvq_Turn_WORD, ⟨_, rfl⟩⟩, fun _ _ _ => .str _⟩
  have cv_CropHeight_WORD : CValT K C_CropHeight "WORD" (.str "height") := ⟨.str "height", _, ⟨cvq_CropHeight_WORD, ⟨_, rfl⟩⟩, fun _ _ _ => .str _⟩
  have cv_CropWidth_WORD : CValT K C_CropWidth "WORD" (.str "width") := ⟨.str "width", _, ⟨cvq_CropWidth_WORD, ⟨_, rfl⟩⟩, fun _ _ _ => .str _⟩
  have cr_Grow : ClX.CRead K C_Grow (.type "type") := ⟨cr1_Grow, cr2_Grow⟩
  have cv_Grow_WORD : CValT K C_Grow "WORD" (.str "grow") := ⟨.str "grow", _, ⟨cvq_Grow_WORD, ⟨_, rfl⟩⟩, fun _ _ _ => .str _⟩
  have cr_Shrink : ClX.CRead K C_Shrink (.type "type") := ⟨cr1_Shrink, cr2_Shrink⟩
  have cv_Shrink_WORD : CValT K C_Shrink "WORD" (.str "shrink") := ⟨.str "shrink", _, ⟨cvq_Shrink_WORD, ⟨_, rfl⟩⟩, fun _ _ _ => .str _⟩
  refine ⟨PySem.W.fnOf "law" "law" (defArgs s_law) (defBody s_law) (defScope s_law) .none kV_law dc_law pm_law an_law cd_law ct_law, fun s u => .of_eq rfl, fun base inB nsB => ?_⟩
  have G_is_integer := ok_is_integer (P := l.prog) (w := w) (mg := mg) (base := base) F_is_integer n_isinstance n_bool n_int
  have G_is_positive := ok_is_positive (P := l.prog) (w := w) (mg := mg) (base := base) F_is_positive G_is_integer m_is_integer k_is_integer b_is_integer
  have G_l_cell := ok_l_cell (P := l.prog) (w := w) (mg := mg) (base := base) F_l_cell n_len
  have G_l_pool := ok_l_pool (P := l.prog) (w := w) (mg := mg) (base := base) F_l_pool n_abs
  have G_l_draw := ok_l_draw (P := l.prog) (w := w) (mg := mg) (base := base) F_l_draw n_divmod
  have G_check_box := ok_check_box (P := l.prog) (w := w) (mg := mg) (base := base) F_check_box c_MOST_SIDE G_is_positive m_is_positive k_is_positive b_is_positive
  have G_Scaling_init := ok_Scaling_init (P := l.prog) (w := w) (mg := mg) (base := base) F_Scaling_init G_check_box m_check_box k_check_box b_check_box
  have G_Shrink_init := ok_Shrink_init (P := l.prog) (w := w) (mg := mg) (base := base) F_Shrink_init G_Scaling_init b_Scaling_init m_Scaling cr_Scaling cf_Scaling_init k_Scaling_init nf_Shrink_width nf_Shrink_height nf_Shrink_cover
  have G_Grow_init := ok_Grow_init (P := l.prog) (w := w) (mg := mg) (base := base) F_Grow_init G_Scaling_init b_Scaling_init m_Scaling cr_Scaling cf_Scaling_init k_Scaling_init nf_Grow_width nf_Grow_height nf_Grow_cover
  have G_Crop_init := ok_Crop_init (P := l.prog) (w := w) (mg := mg) (base := base) F_Crop_init n_isinstance n_str G_check_box m_check_box k_check_box b_check_box
  have G_CropWidth_init := ok_CropWidth_init (P := l.prog) (w := w) (mg := mg) (base := base) F_CropWidth_init G_Crop_init b_Crop_init m_Crop cr_Crop cf_Crop_init k_Crop_init m_CropWidth cr_CropWidth cv_CropWidth_KEEPS nf_CropWidth_width nf_CropWidth_height nf_CropWidth_keep
  have G_CropHeight_init := ok_CropHeight_init (P := l.prog) (w := w) (mg := mg) (base := base) F_CropHeight_init G_Crop_init b_Crop_init m_Crop cr_Crop cf_Crop_init k_Crop_init m_CropHeight cr_CropHeight cv_CropHeight_KEEPS nf_CropHeight_width nf_CropHeight_height nf_CropHeight_keep
  have G_Turn_init := ok_Turn_init (P := l.prog) (w := w) (mg := mg) (base := base) F_Turn_init G_is_positive m_is_positive k_is_positive b_is_positive nf_Turn_times
  have G_l_side := ok_l_side (P := l.prog) (w := w) (mg := mg) (base := base) F_l_side G_l_draw m_l_draw k_l_draw b_l_draw
  have G_l_drawn := ok_l_drawn (P := l.prog) (w := w) (mg := mg) (base := base) F_l_drawn G_l_draw m_l_draw k_l_draw b_l_draw G_l_side m_l_side k_l_side b_l_side
  have G_Step_details := ok_Step_details (P := l.prog) (w := w) (mg := mg) (base := base) F_Step_details 
  have G_Scaling_details := ok_Scaling_details (P := l.prog) (w := w) (mg := mg) (base := base) F_Scaling_details 
  have G_Crop_details := ok_Crop_details (P := l.prog) (w := w) (mg := mg) (base := base) F_Crop_details 
  have G_Turn_details := ok_Turn_details (P := l.prog) (w := w) (mg := mg) (base := base) F_Turn_details nf_Turn_times
  have G_Step_str := ok_Step_str (P := l.prog) (w := w) (mg := mg) (base := base) F_Step_str G_Scaling_details b_Scaling_details G_Crop_details b_Crop_details G_Turn_details b_Turn_details G_Step_details b_Step_details cl_Shrink me_Shrink_details cl_Grow me_Grow_details cl_CropWidth me_CropWidth_details cl_CropHeight me_CropHeight_details cl_Turn me_Turn_details cl_Landscape me_Landscape_details cl_Portrait me_Portrait_details ic_Shrink_WORD nf_Shrink_width nf_Shrink_height nf_Shrink_cover ic_Grow_WORD nf_Grow_width nf_Grow_height nf_Grow_cover ic_CropWidth_WORD nf_CropWidth_width nf_CropWidth_height nf_CropWidth_keep ic_CropHeight_WORD nf_CropHeight_width nf_CropHeight_height nf_CropHeight_keep ic_Turn_WORD ic_Landscape_WORD ic_Portrait_WORD
  have G_Step_repr := ok_Step_repr (P := l.prog) (w := w) (mg := mg) (base := base) F_Step_repr n_str G_Step_str b_Step_str od_Shrink_str od_Grow_str od_CropWidth_str od_CropHeight_str od_Turn_str od_Landscape_str od_Portrait_str
  have G_l_shown := ok_l_shown (P := l.prog) (w := w) (mg := mg) (base := base) F_l_shown n_str
  have G_l_made_twice := ok_l_made_twice (P := l.prog) (w := w) (mg := mg) (base := base) F_l_made_twice G_Turn_init b_Turn_init kb_Turn_init_1_times G_CropHeight_init kb_CropHeight_init_1_keep_height_width kb_CropHeight_init_3_keep G_CropWidth_init kb_CropWidth_init_1_keep_height_width kb_CropWidth_init_3_keep G_Grow_init kb_Grow_init_1_height_cover_width kb_Grow_init_3_cover G_Shrink_init kb_Shrink_init_1_height_cover_width kb_Shrink_init_3_cover m_Landscape mp_Landscape m_Portrait mp_Portrait m_Turn M_Turn m_CropHeight M_CropHeight m_CropWidth M_CropWidth m_Grow M_Grow m_Shrink M_Shrink
  have G_l_classes := ok_l_classes (P := l.prog) (w := w) (mg := mg) (base := base) F_l_classes n_isinstance m_Step m_Crop m_Scaling m_Portrait m_Landscape m_Turn m_CropHeight m_CropWidth m_Grow m_Shrink is_Shrink kt_Shrink_Shrink kt_Shrink_Grow kt_Shrink_CropWidth kt_Shrink_CropHeight kt_Shrink_Turn kt_Shrink_Landscape kt_Shrink_Portrait kt_Shrink_Scaling kt_Shrink_Crop kt_Shrink_Step is_Grow kt_Grow_Shrink kt_Grow_Grow kt_Grow_CropWidth kt_Grow_CropHeight kt_Grow_Turn kt_Grow_Landscape kt_Grow_Portrait kt_Grow_Scaling kt_Grow_Crop kt_Grow_Step is_CropWidth kt_CropWidth_Shrink kt_CropWidth_Grow kt_CropWidth_CropWidth kt_CropWidth_CropHeight kt_CropWidth_Turn kt_CropWidth_Landscape kt_CropWidth_Portrait kt_CropWidth_Scaling kt_CropWidth_Crop kt_CropWidth_Step is_CropHeight kt_CropHeight_Shrink kt_CropHeight_Grow kt_CropHeight_CropWidth kt_CropHeight_CropHeight kt_CropHeight_Turn kt_CropHeight_Landscape kt_CropHeight_Portrait kt_CropHeight_Scaling kt_CropHeight_Crop kt_CropHeight_Step is_Turn kt_Turn_Shrink kt_Turn_Grow kt_Turn_CropWidth kt_Turn_CropHeight kt_Turn_Turn kt_Turn_Landscape kt_Turn_Portrait kt_Turn_Scaling kt_Turn_Crop kt_Turn_Step is_Landscape kt_Landscape_Shrink kt_Landscape_Grow kt_Landscape_CropWidth kt_Landscape_CropHeight kt_Landscape_Turn kt_Landscape_Landscape kt_Landscape_Portrait kt_Landscape_Scaling kt_Landscape_Crop kt_Landscape_Step is_Portrait kt_Portrait_Shrink kt_Portrait_Grow kt_Portrait_CropWidth kt_Portrait_CropHeight kt_Portrait_Turn kt_Portrait_Landscape kt_Portrait_Portrait kt_Portrait_Scaling kt_Portrait_Crop kt_Portrait_Step
  have G_l_parts := ok_l_parts (P := l.prog) (w := w) (mg := mg) (base := base) F_l_parts nf_Shrink_width nf_Shrink_height nf_Shrink_cover nf_Grow_width nf_Grow_height nf_Grow_cover nf_CropWidth_width nf_CropWidth_height nf_CropWidth_keep nf_CropHeight_width nf_CropHeight_height nf_CropHeight_keep nf_Turn_times ic_Landscape_WORD ic_Portrait_WORD
  have G_l_spec_right := ok_l_spec_right (P := l.prog) (w := w) (mg := mg) (base := base) F_l_spec_right n_repr n_str n_list n_range G_l_made_twice m_l_made_twice k_l_made_twice b_l_made_twice G_Step_repr b_Step_repr G_Step_str b_Step_str G_l_shown m_l_shown k_l_shown b_l_shown G_l_parts m_l_parts k_l_parts b_l_parts G_l_classes m_l_classes k_l_classes b_l_classes od_Shrink_repr od_Grow_repr od_CropWidth_repr od_CropHeight_repr od_Turn_repr od_Landscape_repr od_Portrait_repr od_Shrink_str od_Grow_str od_CropWidth_str od_CropHeight_str od_Turn_str od_Landscape_str od_Portrait_str ic_Shrink_WORD ic_Grow_WORD ic_CropWidth_WORD ic_CropHeight_WORD ic_Turn_WORD ic_Landscape_WORD ic_Portrait_WORD
  have G_l_plain_right := ok_l_plain_right (P := l.prog) (w := w) (mg := mg) (base := base) F_l_plain_right n_repr G_Turn_init cd_Turn_init_1 G_CropHeight_init cd_CropHeight_init_1 G_CropWidth_init cd_CropWidth_init_1 G_Grow_init cd_Grow_init_1 G_Shrink_init cd_Shrink_init_1 m_Turn M_Turn m_CropHeight M_CropHeight m_CropWidth M_CropWidth m_Grow M_Grow m_Shrink M_Shrink nf_Shrink_cover nf_Grow_cover nf_CropWidth_keep nf_CropHeight_keep nf_Turn_times
  have G_l_right := ok_l_right (P := l.prog) (w := w) (mg := mg) (base := base) F_l_right n_all n_range G_l_plain_right m_l_plain_right k_l_plain_right b_l_plain_right G_l_side m_l_side k_l_side b_l_side G_l_spec_right m_l_spec_right k_l_spec_right b_l_spec_right G_l_drawn m_l_drawn k_l_drawn b_l_drawn
  have G_law := ok_law (P := l.prog) (w := w) (mg := mg) (base := base) F_law n_range n_len n_min n_max n_all G_l_right m_l_right k_l_right b_l_right G_l_pool m_l_pool k_l_pool b_l_pool G_l_cell m_l_cell k_l_cell b_l_cell G_l_spec_right m_l_spec_right k_l_spec_right b_l_spec_right m_Portrait cr_Portrait cv_Portrait_WORD m_Landscape cr_Landscape cv_Landscape_WORD m_Turn cr_Turn cv_Turn_WORD m_CropHeight cr_CropHeight cv_CropHeight_WORD m_CropWidth cr_CropWidth cv_CropWidth_WORD m_Grow cr_Grow cv_Grow_WORD m_Shrink cr_Shrink cv_Shrink_WORD
  exact G_law
end Gd
open PySem PySem.W PyProof.Rows
set_option maxRecDepth 100000 in
set_option maxHeartbeats 0 in
theorem PySem.Challenge.cw_sizechains_k18_steps_made_holds : PySem.Challenge.rw_sizechains_k18_steps_made.Holds := by
  w_on; o_law
  refine PySem.W.holds_open (q := Gd.q0) (loose := Gd.loose0) (Xt := Gd.seen0) (XP := PySem.W.XL Gd.q0 Gd.lv0) Gd.left0 (PySem.W.kHook Gd.K0 Gd.as0 Gd.as0_ok).of
    (PySem.W.kHook Gd.K0 Gd.as0 Gd.as0_ok).keeps (fun s h => PySem.W.xl_of s (Bool.and_eq_true_iff.mp h).1) PySem.W.XL.keeps
    (by rfl) (by rfl) (by rfl) (fun s h => PySem.W.recFacts_of (Bool.and_eq_true_iff.mp h).2) (by rfl) (by assumption) (by decide +kernel)
    ⟨rfl, rfl, rfl, rfl, rfl, by decide +kernel⟩ ?hw ?hc
  (case hw => w_witness2)
  k_fill
  refine Gd.walkT (l := PySem.Challenge.rw_sizechains_k18_steps_made) (k := 10) (x := "_law_script") rfl rfl ⟨rfl, by decide, by decide⟩ (fun w h Y => PySem.W.kIn_of Y) ?F
  case F =>
    intro w mg fa h KX G hmg
    refine' Gd.all_mk KX G hmg ?a_is_integer ?l_is_integer ?c_is_integer ?k_is_integer ?a_is_positive ?l_is_positive ?c_is_positive ?k_is_positive ?a_l_cell ?l_l_cell ?c_l_cell ?k_l_cell ?a_l_pool ?l_l_pool ?c_l_pool ?k_l_pool ?a_l_draw ?l_l_draw ?c_l_draw ?k_l_draw ?a_check_box ?l_check_box ?c_check_box ?k_check_box ?a_l_side ?l_l_side ?c_l_side ?k_l_side ?a_l_drawn ?l_l_drawn ?c_l_drawn ?k_l_drawn ?a_l_shown ?l_l_shown ?c_l_shown ?k_l_shown ?a_l_made_twice ?l_l_made_twice ?c_l_made_twice ?k_l_made_twice ?a_l_classes ?l_l_classes ?c_l_classes ?k_l_classes ?a_l_parts ?l_l_parts ?c_l_parts ?k_l_parts ?a_l_spec_right ?l_l_spec_right ?c_l_spec_right ?k_l_spec_right ?a_l_plain_right ?l_l_plain_right ?c_l_plain_right ?k_l_plain_right ?a_l_right ?l_l_right ?c_l_right ?k_l_right ?a_law ?l_law ?c_law ?k_law ?z_isinstance ?z_bool ?z_int ?z_len ?z_abs ?z_divmod ?z_str ?z_repr ?z_list ?z_range ?z_all ?z_min ?z_max ?a_MOST_SIDE ?ca_Scaling ?cg_Scaling ?ch_Scaling ?cp_Scaling ?cs_Scaling ?cr1_Scaling ?cr2_Scaling ?cfq_Scaling_init ?ca_Shrink ?cg_Shrink ?ch_Shrink ?cp_Shrink ?cs_Shrink ?nq_Shrink_width ?nq_Shrink_height ?nq_Shrink_cover ?ca_Grow ?cg_Grow ?ch_Grow ?cp_Grow ?cs_Grow ?nq_Grow_width ?nq_Grow_height ?nq_Grow_cover ?ca_Crop ?cg_Crop ?ch_Crop ?cp_Crop ?cs_Crop ?cr1_Crop ?cr2_Crop ?cfq_Crop_init ?ca_CropWidth ?cg_CropWidth ?ch_CropWidth ?cp_CropWidth ?cs_CropWidth ?cr1_CropWidth ?cr2_CropWidth ?cvq_CropWidth_KEEPS ?cvl_CropWidth_KEEPS ?nq_CropWidth_width ?nq_CropWidth_height ?nq_CropWidth_keep ?ca_CropHeight ?cg_CropHeight ?ch_CropHeight ?cp_CropHeight ?cs_CropHeight ?cr1_CropHeight ?cr2_CropHeight ?cvq_CropHeight_KEEPS ?cvl_CropHeight_KEEPS ?nq_CropHeight_width ?nq_CropHeight_height ?nq_CropHeight_keep ?ca_Turn ?cg_Turn ?ch_Turn ?cp_Turn ?cs_Turn ?nq_Turn_times ?mq_Shrink_details ?mi_Shrink_details ?mq_Grow_details ?mi_Grow_details ?mq_CropWidth_details ?mi_CropWidth_details ?mq_CropHeight_details ?mi_CropHeight_details ?mq_Turn_details ?mi_Turn_details ?ca_Landscape ?cg_Landscape ?ch_Landscape ?cp_Landscape ?cs_Landscape ?mq_Landscape_details ?mi_Landscape_details ?ca_Portrait ?cg_Portrait ?ch_Portrait ?cp_Portrait ?cs_Portrait ?mq_Portrait_details ?mi_Portrait_details ?icq_Shrink_WORD ?icg_Shrink_WORD ?icq_Grow_WORD ?icg_Grow_WORD ?icq_CropWidth_WORD ?icg_CropWidth_WORD ?icq_CropHeight_WORD ?icg_CropHeight_WORD ?icq_Turn_WORD ?icg_Turn_WORD ?icq_Landscape_WORD ?icg_Landscape_WORD ?icq_Portrait_WORD ?icg_Portrait_WORD ?od1_Shrink_str ?od2_Shrink_str ?od1_Grow_str ?od2_Grow_str ?od1_CropWidth_str ?od2_CropWidth_str ?od1_CropHeight_str ?od2_CropHeight_str ?od1_Turn_str ?od2_Turn_str ?od1_Landscape_str ?od2_Landscape_str ?od1_Portrait_str ?od2_Portrait_str ?cm_Landscape ?ck_Landscape ?ci_Landscape ?co_Landscape ?cm_Portrait ?ck_Portrait ?ci_Portrait ?co_Portrait ?cm_Turn ?ck_Turn ?ci_Turn ?cf2_Turn ?cm_CropHeight ?ck_CropHeight ?ci_CropHeight ?cf2_CropHeight ?cm_CropWidth ?ck_CropWidth ?ci_CropWidth ?cf2_CropWidth ?cm_Grow ?ck_Grow ?ci_Grow ?cf2_Grow ?cm_Shrink ?ck_Shrink ?ci_Shrink ?cf2_Shrink ?ca_Step ?cg_Step ?ch_Step ?cp_Step ?cs_Step ?is1_Shrink ?is2_Shrink ?is3_Shrink ?is4_Shrink ?ktq_Shrink_Shrink ?ktq_Shrink_Grow ?ktq_Shrink_CropWidth ?ktq_Shrink_CropHeight ?ktq_Shrink_Turn ?ktq_Shrink_Landscape ?ktq_Shrink_Portrait ?ktq_Shrink_Scaling ?ktq_Shrink_Crop ?ktq_Shrink_Step ?is1_Grow ?is2_Grow ?is3_Grow ?is4_Grow ?ktq_Grow_Shrink ?ktq_Grow_Grow ?ktq_Grow_CropWidth ?ktq_Grow_CropHeight ?ktq_Grow_Turn ?ktq_Grow_Landscape ?ktq_Grow_Portrait ?ktq_Grow_Scaling ?ktq_Grow_Crop ?ktq_Grow_Step ?is1_CropWidth ?is2_CropWidth ?is3_CropWidth ?is4_CropWidth ?ktq_CropWidth_Shrink ?ktq_CropWidth_Grow ?ktq_CropWidth_CropWidth ?ktq_CropWidth_CropHeight ?ktq_CropWidth_Turn ?ktq_CropWidth_Landscape ?ktq_CropWidth_Portrait ?ktq_CropWidth_Scaling ?ktq_CropWidth_Crop ?ktq_CropWidth_Step ?is1_CropHeight ?is2_CropHeight ?is3_CropHeight ?is4_CropHeight ?ktq_CropHeight_Shrink ?ktq_CropHeight_Grow ?ktq_CropHeight_CropWidth ?ktq_CropHeight_CropHeight ?ktq_CropHeight_Turn ?ktq_CropHeight_Landscape ?ktq_CropHeight_Portrait ?ktq_CropHeight_Scaling ?ktq_CropHeight_Crop ?ktq_CropHeight_Step ?is1_Turn ?is2_Turn ?is3_Turn ?is4_Turn ?ktq_Turn_Shrink ?ktq_Turn_Grow ?ktq_Turn_CropWidth ?ktq_Turn_CropHeight ?ktq_Turn_Turn ?ktq_Turn_Landscape ?ktq_Turn_Portrait ?ktq_Turn_Scaling ?ktq_Turn_Crop ?ktq_Turn_Step ?is1_Landscape ?is2_Landscape ?is3_Landscape ?is4_Landscape ?ktq_Landscape_Shrink ?ktq_Landscape_Grow ?ktq_Landscape_CropWidth ?ktq_Landscape_CropHeight ?ktq_Landscape_Turn ?ktq_Landscape_Landscape ?ktq_Landscape_Portrait ?ktq_Landscape_Scaling ?ktq_Landscape_Crop ?ktq_Landscape_Step ?is1_Portrait ?is2_Portrait ?is3_Portrait ?is4_Portrait ?ktq_Portrait_Shrink ?ktq_Portrait_Grow ?ktq_Portrait_CropWidth ?ktq_Portrait_CropHeight ?ktq_Portrait_Turn ?ktq_Portrait_Landscape ?ktq_Portrait_Portrait ?ktq_Portrait_Scaling ?ktq_Portrait_Crop ?ktq_Portrait_Step ?od1_Shrink_repr ?od2_Shrink_repr ?od1_Grow_repr ?od2_Grow_repr ?od1_CropWidth_repr ?od2_CropWidth_repr ?od1_CropHeight_repr ?od2_CropHeight_repr ?od1_Turn_repr ?od2_Turn_repr ?od1_Landscape_repr ?od2_Landscape_repr ?od1_Portrait_repr ?od2_Portrait_repr ?cr1_Portrait ?cr2_Portrait ?cvq_Portrait_WORD ?cr1_Landscape ?cr2_Landscape ?cvq_Landscape_WORD ?cr1_Turn ?cr2_Turn ?cvq_Turn_WORD ?cvq_CropHeight_WORD ?cvq_CropWidth_WORD ?cr1_Grow ?cr2_Grow ?cvq_Grow_WORD ?cr1_Shrink ?cr2_Shrink ?cvq_Shrink_WORD ?l_Scaling_init ?c_Scaling_init ?k_Scaling_init ?l_Shrink_init ?c_Shrink_init ?k_Shrink_init ?kd_Shrink_init_cover ?l_Grow_init ?c_Grow_init ?k_Grow_init ?kd_Grow_init_cover ?l_Crop_init ?c_Crop_init ?k_Crop_init ?l_CropWidth_init ?c_CropWidth_init ?k_CropWidth_init ?kd_CropWidth_init_keep ?l_CropHeight_init ?c_CropHeight_init ?k_CropHeight_init ?kd_CropHeight_init_keep ?l_Turn_init ?c_Turn_init ?k_Turn_init ?t_Turn_init ?l_Step_details ?c_Step_details ?k_Step_details ?l_Scaling_details ?c_Scaling_details ?k_Scaling_details ?l_Crop_details ?c_Crop_details ?k_Crop_details ?l_Turn_details ?c_Turn_details ?k_Turn_details ?l_Step_str ?c_Step_str ?k_Step_str ?l_Step_repr ?c_Step_repr ?k_Step_repr
    (case a_is_integer => first | k_is | kernel_rfl | rfl | decide +kernel)
    (case l_is_integer => first | k_is | kernel_rfl | rfl | decide +kernel)
    (case c_is_integer => first | k_is | kernel_rfl | rfl | decide +kernel)
    (case k_is_integer => first | k_is | kernel_rfl | rfl | decide +kernel)
    (case a_is_positive => first | k_is | kernel_rfl | rfl | decide +kernel)
    (case l_is_positive => first | k_is | kernel_rfl | rfl | decide +kernel)
    (case c_is_positive => first | k_is | kernel_rfl | rfl | decide +kernel)
    (case k_is_positive => first | k_is | kernel_rfl | rfl | decide +kernel)
    (case a_l_cell => first | k_is | kernel_rfl | rfl | decide +kernel)
    (case l_l_cell => first | k_is | kernel_rfl | rfl | decide +kernel)
    (case c_l_cell => first | k_is | kernel_rfl | rfl | decide +kernel)
    (case k_l_cell => first | k_is | kernel_rfl | rfl | decide +kernel)
    (case a_l_pool => first | k_is | kernel_rfl | rfl | decide +kernel)
    (case l_l_pool => first | k_is | kernel_rfl | rfl | decide +kernel)
    (case c_l_pool => first | k_is | kernel_rfl | rfl | decide +kernel)
    (case k_l_pool => first | k_is | kernel_rfl | rfl | decide +kernel)
    (case a_l_draw => first | k_is | kernel_rfl | rfl | decide +kernel)
    (case l_l_draw => first | k_is | kernel_rfl | rfl | decide +kernel)
    (case c_l_draw => first | k_is | kernel_rfl | rfl | decide +kernel)
    (case k_l_draw => first | k_is | kernel_rfl | rfl | decide +kernel)
    (case a_check_box => first | k_is | kernel_rfl | rfl | decide +kernel)
    (case l_check_box => first | k_is | kernel_rfl | rfl | decide +kernel)
    (case c_check_box => first | k_is | kernel_rfl | rfl | decide +kernel)
    (case k_check_box => first | k_is | kernel_rfl | rfl | decide +kernel)
    (case a_l_side => first | k_is | kernel_rfl | rfl | decide +kernel)
    (case l_l_side => first | k_is | kernel_rfl | rfl | decide +kernel)
    (case c_l_side => first | k_is | kernel_rfl | rfl | decide +kernel)
    (case k_l_side => first | k_is | kernel_rfl | rfl | decide +kernel)
    (case a_l_drawn => first | k_is | kernel_rfl | rfl | decide +kernel)
    (case l_l_drawn => first | k_is | kernel_rfl | rfl | decide +kernel)
    (case c_l_drawn => first | k_is | kernel_rfl | rfl | decide +kernel)
    (case k_l_drawn => first | k_is | kernel_rfl | rfl | decide +kernel)
    (case a_l_shown => first | k_is | kernel_rfl | rfl | decide +kernel)
    (case l_l_shown => first | k_is | kernel_rfl | rfl | decide +kernel)
    (case c_l_shown => first | k_is | kernel_rfl | rfl | decide +kernel)
    (case k_l_shown => first | k_is | kernel_rfl | rfl | decide +kernel)
    (case a_l_made_twice => first | k_is | kernel_rfl | rfl | decide +kernel)
    (case l_l_made_twice => first | k_is | kernel_rfl | rfl | decide +kernel)
    (case c_l_made_twice => first | k_is | kernel_rfl | rfl | decide +kernel)
    (case k_l_made_twice => first | k_is | kernel_rfl | rfl | decide +kernel)
    (case a_l_classes => first | k_is | kernel_rfl | rfl | decide +kernel)
    (case l_l_classes => first | k_is | kernel_rfl | rfl | decide +kernel)
    (case c_l_classes => first | k_is | kernel_rfl | rfl | decide +kernel)
    (case k_l_classes => first | k_is | kernel_rfl | rfl | decide +kernel)
    (case a_l_parts => first | k_is | kernel_rfl | rfl | decide +kernel)
    (case l_l_parts => first | k_is | kernel_rfl | rfl | decide +kernel)
    (case c_l_parts => first | k_is | kernel_rfl | rfl | decide +kernel)
    (case k_l_parts => first | k_is | kernel_rfl | rfl | decide +kernel)
    (case a_l_spec_right => first | k_is | kernel_rfl | rfl | decide +kernel)
    (case l_l_spec_right => first | k_is | kernel_rfl | rfl | decide +kernel)
    (case c_l_spec_right => first | k_is | kernel_rfl | rfl | decide +kernel)
    (case k_l_spec_right => first | k_is | kernel_rfl | rfl | decide +kernel)
    (case a_l_plain_right => first | k_is | kernel_rfl | rfl | decide +kernel)
    (case l_l_plain_right => first | k_is | kernel_rfl | rfl | decide +kernel)
    (case c_l_plain_right => first | k_is | kernel_rfl | rfl | decide +kernel)
    (case k_l_plain_right => first | k_is | kernel_rfl | rfl | decide +kernel)
    (case a_l_right => first | k_is | kernel_rfl | rfl | decide +kernel)
    (case l_l_right => first | k_is | kernel_rfl | rfl | decide +kernel)
    (case c_l_right => first | k_is | kernel_rfl | rfl | decide +kernel)
    (case k_l_right => first | k_is | kernel_rfl | rfl | decide +kernel)
    (case a_law => first | k_is | kernel_rfl | rfl | decide +kernel)
    (case l_law => first | k_is | kernel_rfl | rfl | decide +kernel)
    (case c_law => first | k_is | kernel_rfl | rfl | decide +kernel)
    (case k_law => first | k_is | kernel_rfl | rfl | decide +kernel)
    (case z_isinstance => first | k_is | kernel_rfl | rfl | decide +kernel)
    (case z_bool => first | k_is | kernel_rfl | rfl | decide +kernel)
    (case z_int => first | k_is | kernel_rfl | rfl | decide +kernel)
    (case z_len => first | k_is | kernel_rfl | rfl | decide +kernel)
    (case z_abs => first | k_is | kernel_rfl | rfl | decide +kernel)
    (case z_divmod => first | k_is | kernel_rfl | rfl | decide +kernel)
    (case z_str => first | k_is | kernel_rfl | rfl | decide +kernel)
    (case z_repr => first | k_is | kernel_rfl | rfl | decide +kernel)
    (case z_list => first | k_is | kernel_rfl | rfl | decide +kernel)
    (case z_range => first | k_is | kernel_rfl | rfl | decide +kernel)
    (case z_all => first | k_is | kernel_rfl | rfl | decide +kernel)
    (case z_min => first | k_is | kernel_rfl | rfl | decide +kernel)
    (case z_max => first | k_is | kernel_rfl | rfl | decide +kernel)
    (case a_MOST_SIDE => first | k_is | kernel_rfl | rfl | decide +kernel)
    (case ca_Scaling => first | k_is | kernel_rfl | rfl | decide +kernel)
    (case cg_Scaling => first | k_is | kernel_rfl | rfl | decide +kernel)
    (case ch_Scaling => first | k_is | kernel_rfl | rfl | decide +kernel)
    (case cp_Scaling => first | k_is | kernel_rfl | rfl | decide +kernel)
    (case cs_Scaling => first | k_is | kernel_rfl | rfl | decide +kernel)
    (case cr1_Scaling => first | k_is | kernel_rfl | rfl | decide +kernel)
    (case cr2_Scaling => first | k_is | kernel_rfl | rfl | decide +kernel)
    (case cfq_Scaling_init => first | k_is | kernel_rfl | rfl | decide +kernel)
    (case ca_Shrink => first | k_is | kernel_rfl | rfl | decide +kernel)
    (case cg_Shrink => first | k_is | kernel_rfl | rfl | decide +kernel)
    (case ch_Shrink => first | k_is | kernel_rfl | rfl | decide +kernel)
    (case cp_Shrink => first | k_is | kernel_rfl | rfl | decide +kernel)
    (case cs_Shrink => first | k_is | kernel_rfl | rfl | decide +kernel)
    (case nq_Shrink_width => first | k_is | kernel_rfl | rfl | decide +kernel)
    (case nq_Shrink_height => first | k_is | kernel_rfl | rfl | decide +kernel)
    (case nq_Shrink_cover => first | k_is | kernel_rfl | rfl | decide +kernel)
    (case ca_Grow => first | k_is | kernel_rfl | rfl | decide +kernel)
    (case cg_Grow => first | k_is | kernel_rfl | rfl | decide +kernel)
    (case ch_Grow => first | k_is | kernel_rfl | rfl | decide +kernel)
    (case cp_Grow => first | k_is | kernel_rfl | rfl | decide +kernel)
    (case cs_Grow => first | k_is | kernel_rfl | rfl | decide +kernel)
    (case nq_Grow_width => first | k_is | kernel_rfl | rfl | decide +kernel)
    (case nq_Grow_height => first | k_is | kernel_rfl | rfl | decide +kernel)
    (case nq_Grow_cover => first | k_is | kernel_rfl | rfl | decide +kernel)
    (case ca_Crop => first | k_is | kernel_rfl | rfl | decide +kernel)
    (case cg_Crop => first | k_is | kernel_rfl | rfl | decide +kernel)
    (case ch_Crop => first | k_is | kernel_rfl | rfl | decide +kernel)
    (case cp_Crop => first | k_is | kernel_rfl | rfl | decide +kernel)
    (case cs_Crop => first | k_is | kernel_rfl | rfl | decide +kernel)
    (case cr1_Crop => first | k_is | kernel_rfl | rfl | decide +kernel)
    (case cr2_Crop => first | k_is | kernel_rfl | rfl | decide +kernel)
    (case cfq_Crop_init => first | k_is | kernel_rfl | rfl | decide +kernel)
    (case ca_CropWidth => first | k_is | kernel_rfl | rfl | decide +kernel)
    (case cg_CropWidth => first | k_is | kernel_rfl | rfl | decide +kernel)
    (case ch_CropWidth => first | k_is | kernel_rfl | rfl | decide +kernel)
    (case cp_CropWidth => first | k_is | kernel_rfl | rfl | decide +kernel)
    (case cs_CropWidth => first | k_is | kernel_rfl | rfl | decide +kernel)
    (case cr1_CropWidth => first | k_is | kernel_rfl | rfl | decide +kernel)
    (case cr2_CropWidth => first | k_is | kernel_rfl | rfl | decide +kernel)
    (case cvq_CropWidth_KEEPS => first | k_is | kernel_rfl | rfl | decide +kernel)
    (case cvl_CropWidth_KEEPS => first | k_is | kernel_rfl | rfl | decide +kernel)
    (case nq_CropWidth_width => first | k_is | kernel_rfl | rfl | decide +kernel)
    (case nq_CropWidth_height => first | k_is | kernel_rfl | rfl | decide +kernel)
    (case nq_CropWidth_keep => first | k_is | kernel_rfl | rfl | decide +kernel)
    (case ca_CropHeight => first | k_is | kernel_rfl | rfl | decide +kernel)
    (case cg_CropHeight => first | k_is | kernel_rfl | rfl | decide +kernel)
    (case ch_CropHeight => first | k_is | kernel_rfl | rfl | decide +kernel)
    (case cp_CropHeight => first | k_is | kernel_rfl | rfl | decide +kernel)
    (case cs_CropHeight => first | k_is | kernel_rfl | rfl | decide +kernel)
    (case cr1_CropHeight => first | k_is | kernel_rfl | rfl | decide +kernel)
    (case cr2_CropHeight => first | k_is | kernel_rfl | rfl | decide +kernel)
    (case cvq_CropHeight_KEEPS => first | k_is | kernel_rfl | rfl | decide +kernel)
    (case cvl_CropHeight_KEEPS => first | k_is | kernel_rfl | rfl | decide +kernel)
    (case nq_CropHeight_width => first | k_is | kernel_rfl | rfl | decide +kernel)
    (case nq_CropHeight_height => first | k_is | kernel_rfl | rfl | decide +kernel)
    (case nq_CropHeight_keep => first | k_is | kernel_rfl | rfl | decide +kernel)
    (case ca_Turn => first | k_is | kernel_rfl | rfl | decide +kernel)
    (case cg_Turn => first | k_is | kernel_rfl | rfl | decide +kernel)
    (case ch_Turn => first | k_is | kernel_rfl | rfl | decide +kernel)
    (case cp_Turn => first | k_is | kernel_rfl | rfl | decide +kernel)
    (case cs_Turn => first | k_is | kernel_rfl | rfl | decide +kernel)
    (case nq_Turn_times => first | k_is | kernel_rfl | rfl | decide +kernel)
    (case mq_Shrink_details => first | k_is | kernel_rfl | rfl | decide +kernel)
    (case mi_Shrink_details => first | k_is | kernel_rfl | rfl | decide +kernel)
    (case mq_Grow_details => first | k_is | kernel_rfl | rfl | decide +kernel)
    (case mi_Grow_details => first | k_is | kernel_rfl | rfl | decide +kernel)
    (case mq_CropWidth_details => first | k_is | kernel_rfl | rfl | decide +kernel)
    (case mi_CropWidth_details => first | k_is | kernel_rfl | rfl | decide +kernel)
    (case mq_CropHeight_details => first | k_is | kernel_rfl | rfl | decide +kernel)
    (case mi_CropHeight_details => first | k_is | kernel_rfl | rfl | decide +kernel)
    (case mq_Turn_details => first | k_is | kernel_rfl | rfl | decide +kernel)
    (case mi_Turn_details => first | k_is | kernel_rfl | rfl | decide +kernel)
    (case ca_Landscape => first | k_is | kernel_rfl | rfl | decide +kernel)
    (case cg_Landscape => first | k_is | kernel_rfl | rfl | decide +kernel)
    (case ch_Landscape => first | k_is | kernel_rfl | rfl | decide +kernel)
    (case cp_Landscape => first | k_is | kernel_rfl | rfl | decide +kernel)
    (case cs_Landscape => first | k_is | kernel_rfl | rfl | decide +kernel)
    (case mq_Landscape_details => first | k_is | kernel_rfl | rfl | decide +kernel)
    (case mi_Landscape_details => first | k_is | kernel_rfl | rfl | decide +kernel)
    (case ca_Portrait => first | k_is | kernel_rfl | rfl | decide +kernel)
    (case cg_Portrait => first | k_is | kernel_rfl | rfl | decide +kernel)
    (case ch_Portrait => first | k_is | kernel_rfl | rfl | decide +kernel)
    (case cp_Portrait => first | k_is | kernel_rfl | rfl | decide +kernel)
    (case cs_Portrait => first | k_is | kernel_rfl | rfl | decide +kernel)
    (case mq_Portrait_details => first | k_is | kernel_rfl | rfl | decide +kernel)
    (case mi_Portrait_details => first | k_is | kernel_rfl | rfl | decide +kernel)
    (case icq_Shrink_WORD => first | k_is | kernel_rfl | rfl | decide +kernel)
    (case icg_Shrink_WORD => first | k_is | kernel_rfl | rfl | decide +kernel)
    (case icq_Grow_WORD => first | k_is | kernel_rfl | rfl | decide +kernel)
    (case icg_Grow_WORD => first | k_is | kernel_rfl | rfl | decide +kernel)
    (case icq_CropWidth_WORD => first | k_is | kernel_rfl | rfl | decide +kernel)
    (case icg_CropWidth_WORD => first | k_is | kernel_rfl | rfl | decide +kernel)
    (case icq_CropHeight_WORD => first | k_is | kernel_rfl | rfl | decide +kernel)
    (case icg_CropHeight_WORD => first | k_is | kernel_rfl | rfl | decide +kernel)
    (case icq_Turn_WORD => first | k_is | kernel_rfl | rfl | decide +kernel)
    (case icg_Turn_WORD => first | k_is | kernel_rfl | rfl | decide +kernel)
    (case icq_Landscape_WORD => first | k_is | kernel_rfl | rfl | decide +kernel)
    (case icg_Landscape_WORD => first | k_is | kernel_rfl | rfl | decide +kernel)
    (case icq_Portrait_WORD => first | k_is | kernel_rfl | rfl | decide +kernel)
    (case icg_Portrait_WORD => first | k_is | kernel_rfl | rfl | decide +kernel)
    (case od1_Shrink_str => first | k_is | kernel_rfl | rfl | decide +kernel)
    (case od2_Shrink_str => first | k_is | kernel_rfl | rfl | decide +kernel)
    (case od1_Grow_str => first | k_is | kernel_rfl | rfl | decide +kernel)
    (case od2_Grow_str => first | k_is | kernel_rfl | rfl | decide +kernel)
    (case od1_CropWidth_str => first | k_is | kernel_rfl | rfl | decide +kernel)
    (case od2_CropWidth_str => first | k_is | kernel_rfl | rfl | decide +kernel)
    (case od1_CropHeight_str => first | k_is | kernel_rfl | rfl | decide +kernel)
    (case od2_CropHeight_str => first | k_is | kernel_rfl | rfl | decide +kernel)
    (case od1_Turn_str => first | k_is | kernel_rfl | rfl | decide +kernel)
    (case od2_Turn_str => first | k_is | kernel_rfl | rfl | decide +kernel)
    (case od1_Landscape_str => first | k_is | kernel_rfl | rfl | decide +kernel)
    (case od2_Landscape_str => first | k_is | kernel_rfl | rfl | decide +kernel)
    (case od1_Portrait_str => first | k_is | kernel_rfl | rfl | decide +kernel)
    (case od2_Portrait_str => first | k_is | kernel_rfl | rfl | decide +kernel)
    (case cm_Landscape => first | k_is | kernel_rfl | rfl | decide +kernel)
    (case ck_Landscape => first | k_is | kernel_rfl | rfl | decide +kernel)
    (case ci_Landscape => first | k_is | kernel_rfl | rfl | decide +kernel)
    (case co_Landscape => first | k_is | kernel_rfl | rfl | decide +kernel)
    (case cm_Portrait => first | k_is | kernel_rfl | rfl | decide +kernel)
    (case ck_Portrait => first | k_is | kernel_rfl | rfl | decide +kernel)
    (case ci_Portrait => first | k_is | kernel_rfl | rfl | decide +kernel)
    (case co_Portrait => first | k_is | kernel_rfl | rfl | decide +kernel)
    (case cm_Turn => first | k_is | kernel_rfl | rfl | decide +kernel)
    (case ck_Turn => first | k_is | kernel_rfl | rfl | decide +kernel)
    (case ci_Turn => first | k_is | kernel_rfl | rfl | decide +kernel)
    (case cf2_Turn => first | k_is | kernel_rfl | rfl | decide +kernel)
    (case cm_CropHeight => first | k_is | kernel_rfl | rfl | decide +kernel)
    (case ck_CropHeight => first | k_is | kernel_rfl | rfl | decide +kernel)
    (case ci_CropHeight => first | k_is | kernel_rfl | rfl | decide +kernel)
    (case cf2_CropHeight => first | k_is | kernel_rfl | rfl | decide +kernel)
    (case cm_CropWidth => first | k_is | kernel_rfl | rfl | decide +kernel)
    (case ck_CropWidth => first | k_is | kernel_rfl | rfl | decide +kernel)
    (case ci_CropWidth => first | k_is | kernel_rfl | rfl | decide +kernel)
    (case cf2_CropWidth => first | k_is | kernel_rfl | rfl | decide +kernel)
    (case cm_Grow => first | k_is | kernel_rfl | rfl | decide +kernel)
    (case ck_Grow => first | k_is | kernel_rfl | rfl | decide +kernel)
    (case ci_Grow => first | k_is | kernel_rfl | rfl | decide +kernel)
    (case cf2_Grow => first | k_is | kernel_rfl | rfl | decide +kernel)
    (case cm_Shrink => first | k_is | kernel_rfl | rfl | decide +kernel)
    (case ck_Shrink => first | k_is | kernel_rfl | rfl | decide +kernel)
    (case ci_Shrink => first | k_is | kernel_rfl | rfl | decide +kernel)
    (case cf2_Shrink => first | k_is | kernel_rfl | rfl | decide +kernel)
    (case ca_Step => first | k_is | kernel_rfl | rfl | decide +kernel)
    (case cg_Step => first | k_is | kernel_rfl | rfl | decide +kernel)
    (case ch_Step => first | k_is | kernel_rfl | rfl | decide +kernel)
    (case cp_Step => first | k_is | kernel_rfl | rfl | decide +kernel)
    (case cs_Step => first | k_is | kernel_rfl | rfl | decide +kernel)
    (case is1_Shrink => first | k_is | kernel_rfl | rfl | decide +kernel)
    (case is2_Shrink => first | k_is | kernel_rfl | rfl | decide +kernel)
    (case is3_Shrink => first | k_is | kernel_rfl | rfl | decide +kernel)
    (case is4_Shrink => first | k_is | kernel_rfl | rfl | decide +kernel)
    (case ktq_Shrink_Shrink => first | k_is | kernel_rfl | rfl | decide +kernel)
    (case ktq_Shrink_Grow => first | k_is | kernel_rfl | rfl | decide +kernel)
    (case ktq_Shrink_CropWidth => first | k_is | kernel_rfl | rfl | decide +kernel)
    (case ktq_Shrink_CropHeight => first | k_is | kernel_rfl | rfl | decide +kernel)
    (case ktq_Shrink_Turn => first | k_is | kernel_rfl | rfl | decide +kernel)
    (case ktq_Shrink_Landscape => first | k_is | kernel_rfl | rfl | decide +kernel)
    (case ktq_Shrink_Portrait => first | k_is | kernel_rfl | rfl | decide +kernel)
    (case ktq_Shrink_Scaling => first | k_is | kernel_rfl | rfl | decide +kernel)
    (case ktq_Shrink_Crop => first | k_is | kernel_rfl | rfl | decide +kernel)
    (case ktq_Shrink_Step => first | k_is | kernel_rfl | rfl | decide +kernel)
    (case is1_Grow => first | k_is | kernel_rfl | rfl | decide +kernel)
    (case is2_Grow => first | k_is | kernel_rfl | rfl | decide +kernel)
    (case is3_Grow => first | k_is | kernel_rfl | rfl | decide +kernel)
    (case is4_Grow => first | k_is | kernel_rfl | rfl | decide +kernel)
    (case ktq_Grow_Shrink => first | k_is | kernel_rfl | rfl | decide +kernel)
    (case ktq_Grow_Grow => first | k_is | kernel_rfl | rfl | decide +kernel)
    (case ktq_Grow_CropWidth => first | k_is | kernel_rfl | rfl | decide +kernel)
    (case ktq_Grow_CropHeight => first | k_is | kernel_rfl | rfl | decide +kernel)
    (case ktq_Grow_Turn => first | k_is | kernel_rfl | rfl | decide +kernel)
    (case ktq_Grow_Landscape => first | k_is | kernel_rfl | rfl | decide +kernel)
    (case ktq_Grow_Portrait => first | k_is | kernel_rfl | rfl | decide +kernel)
    (case ktq_Grow_Scaling => first | k_is | kernel_rfl | rfl | decide +kernel)
    (case ktq_Grow_Crop => first | k_is | kernel_rfl | rfl | decide +kernel)
    (case ktq_Grow_Step => first | k_is | kernel_rfl | rfl | decide +kernel)
    (case is1_CropWidth => first | k_is | kernel_rfl | rfl | decide +kernel)
    (case is2_CropWidth => first | k_is | kernel_rfl | rfl | decide +kernel)
    (case is3_CropWidth => first | k_is | kernel_rfl | rfl | decide +kernel)
    (case is4_CropWidth => first | k_is | kernel_rfl | rfl | decide +kernel)
    (case ktq_CropWidth_Shrink => first | k_is | kernel_rfl | rfl | decide +kernel)
    (case ktq_CropWidth_Grow => first | k_is | kernel_rfl | rfl | decide +kernel)
    (case ktq_CropWidth_CropWidth => first | k_is | kernel_rfl | rfl | decide +kernel)
    (case ktq_CropWidth_CropHeight => first | k_is | kernel_rfl | rfl | decide +kernel)
    (case ktq_CropWidth_Turn => first | k_is | kernel_rfl | rfl | decide +kernel)
    (case ktq_CropWidth_Landscape => first | k_is | kernel_rfl | rfl | decide +kernel)
    (case ktq_CropWidth_Portrait => first | k_is | kernel_rfl | rfl | decide +kernel)
    (case ktq_CropWidth_Scaling => first | k_is | kernel_rfl | rfl | decide +kernel)
    (case ktq_CropWidth_Crop => first | k_is | kernel_rfl | rfl | decide +kernel)
    (case ktq_CropWidth_Step => first | k_is | kernel_rfl | rfl | decide +kernel)
    (case is1_CropHeight => first | k_is | kernel_rfl | rfl | decide +kernel)
    (case is2_CropHeight => first | k_is | kernel_rfl | rfl | decide +kernel)
    (case is3_CropHeight => first | k_is | kernel_rfl | rfl | decide +kernel)
    (case is4_CropHeight => first | k_is | kernel_rfl | rfl | decide +kernel)
    (case ktq_CropHeight_Shrink => first | k_is | kernel_rfl | rfl | decide +kernel)
    (case ktq_CropHeight_Grow => first | k_is | kernel_rfl | rfl | decide +kernel)
    (case ktq_CropHeight_CropWidth => first | k_is | kernel_rfl | rfl | decide +kernel)
    (case ktq_CropHeight_CropHeight => first | k_is | kernel_rfl | rfl | decide +kernel)
    (case ktq_CropHeight_Turn => first | k_is | kernel_rfl | rfl | decide +kernel)
    (case ktq_CropHeight_Landscape => first | k_is | kernel_rfl | rfl | decide +kernel)
    (case ktq_CropHeight_Portrait => first | k_is | kernel_rfl | rfl | decide +kernel)
    (case ktq_CropHeight_Scaling => first | k_is | kernel_rfl | rfl | decide +kernel)
    (case ktq_CropHeight_Crop => first | k_is | kernel_rfl | rfl | decide +kernel)
    (case ktq_CropHeight_Step => first | k_is | kernel_rfl | rfl | decide +kernel)
    (case is1_Turn => first | k_is | kernel_rfl | rfl | decide +kernel)
    (case is2_Turn => first | k_is | kernel_rfl | rfl | decide +kernel)
    (case is3_Turn => first | k_is | kernel_rfl | rfl | decide +kernel)
    (case is4_Turn => first | k_is | kernel_rfl | rfl | decide +kernel)
    (case ktq_Turn_Shrink => first | k_is | kernel_rfl | rfl | decide +kernel)
    (case ktq_Turn_Grow => first | k_is | kernel_rfl | rfl | decide +kernel)
    (case ktq_Turn_CropWidth => first | k_is | kernel_rfl | rfl | decide +kernel)
    (case ktq_Turn_CropHeight => first | k_is | kernel_rfl | rfl | decide +kernel)
    (case ktq_Turn_Turn => first | k_is | kernel_rfl | rfl | decide +kernel)
    (case ktq_Turn_Landscape => first | k_is | kernel_rfl | rfl | decide +kernel)
    (case ktq_Turn_Portrait => first | k_is | kernel_rfl | rfl | decide +kernel)
    (case ktq_Turn_Scaling => first | k_is | kernel_rfl | rfl | decide +kernel)
    (case ktq_Turn_Crop => first | k_is | kernel_rfl | rfl | decide +kernel)
    (case ktq_Turn_Step => first | k_is | kernel_rfl | rfl | decide +kernel)
    (case is1_Landscape => first | k_is | kernel_rfl | rfl | decide +kernel)
    (case is2_Landscape => first | k_is | kernel_rfl | rfl | decide +kernel)
    (case is3_Landscape => first | k_is | kernel_rfl | rfl | decide +kernel)
    (case is4_Landscape => first | k_is | kernel_rfl | rfl | decide +kernel)
    (case ktq_Landscape_Shrink => first | k_is | kernel_rfl | rfl | decide +kernel)
    (case ktq_Landscape_Grow => first | k_is | kernel_rfl | rfl | decide +kernel)
    (case ktq_Landscape_CropWidth => first | k_is | kernel_rfl | rfl | decide +kernel)
    (case ktq_Landscape_CropHeight => first | k_is | kernel_rfl | rfl | decide +kernel)
    (case ktq_Landscape_Turn => first | k_is | kernel_rfl | rfl | decide +kernel)
    (case ktq_Landscape_Landscape => first | k_is | kernel_rfl | rfl | decide +kernel)
    (case ktq_Landscape_Portrait => first | k_is | kernel_rfl | rfl | decide +kernel)
    (case ktq_Landscape_Scaling => first | k_is | kernel_rfl | rfl | decide +kernel)
    (case ktq_Landscape_Crop => first | k_is | kernel_rfl | rfl | decide +kernel)
    (case ktq_Landscape_Step => first | k_is | kernel_rfl | rfl | decide +kernel)
    (case is1_Portrait => first | k_is | kernel_rfl | rfl | decide +kernel)
    (case is2_Portrait => first | k_is | kernel_rfl | rfl | decide +kernel)
    (case is3_Portrait => first | k_is | kernel_rfl | rfl | decide +kernel)
    (case is4_Portrait => first | k_is | kernel_rfl | rfl | decide +kernel)
    (case ktq_Portrait_Shrink => first | k_is | kernel_rfl | rfl | decide +kernel)
    (case ktq_Portrait_Grow => first | k_is | kernel_rfl | rfl | decide +kernel)
    (case ktq_Portrait_CropWidth => first | k_is | kernel_rfl | rfl | decide +kernel)
    (case ktq_Portrait_CropHeight => first | k_is | kernel_rfl | rfl | decide +kernel)
    (case ktq_Portrait_Turn => first | k_is | kernel_rfl | rfl | decide +kernel)
    (case ktq_Portrait_Landscape => first | k_is | kernel_rfl | rfl | decide +kernel)
    (case ktq_Portrait_Portrait => first | k_is | kernel_rfl | rfl | decide +kernel)
    (case ktq_Portrait_Scaling => first | k_is | kernel_rfl | rfl | decide +kernel)
    (case ktq_Portrait_Crop => first | k_is | kernel_rfl | rfl | decide +kernel)
    (case ktq_Portrait_Step => first | k_is | kernel_rfl | rfl | decide +kernel)
    (case od1_Shrink_repr => first | k_is | kernel_rfl | rfl | decide +kernel)
    (case od2_Shrink_repr => first | k_is | kernel_rfl | rfl | decide +kernel)
    (case od1_Grow_repr => first | k_is | kernel_rfl | rfl | decide +kernel)
    (case od2_Grow_repr => first | k_is | kernel_rfl | rfl | decide +kernel)
    (case od1_CropWidth_repr => first | k_is | kernel_rfl | rfl | decide +kernel)
    (case od2_CropWidth_repr => first | k_is | kernel_rfl | rfl | decide +kernel)
    (case od1_CropHeight_repr => first | k_is | kernel_rfl | rfl | decide +kernel)
    (case od2_CropHeight_repr => first | k_is | kernel_rfl | rfl | decide +kernel)
    (case od1_Turn_repr => first | k_is | kernel_rfl | rfl | decide +kernel)
    (case od2_Turn_repr => first | k_is | kernel_rfl | rfl | decide +kernel)
    (case od1_Landscape_repr => first | k_is | kernel_rfl | rfl | decide +kernel)
    (case od2_Landscape_repr => first | k_is | kernel_rfl | rfl | decide +kernel)
    (case od1_Portrait_repr => first | k_is | kernel_rfl | rfl | decide +kernel)
    (case od2_Portrait_repr => first | k_is | kernel_rfl | rfl | decide +kernel)
    (case cr1_Portrait => first | k_is | kernel_rfl | rfl | decide +kernel)
    (case cr2_Portrait => first | k_is | kernel_rfl | rfl | decide +kernel)
    (case cvq_Portrait_WORD => first | k_is | kernel_rfl | rfl | decide +kernel)
    (case cr1_Landscape => first | k_is | kernel_rfl | rfl | decide +kernel)
    (case cr2_Landscape => first | k_is | kernel_rfl | rfl | decide +kernel)
    (case cvq_Landscape_WORD => first | k_is | kernel_rfl | rfl | decide +kernel)
    (case cr1_Turn => first | k_is | kernel_rfl | rfl | decide +kernel)
    (case cr2_Turn => first | k_is | kernel_rfl | rfl | decide +kernel)
    (case cvq_Turn_WORD => first | k_is | kernel_rfl | rfl | decide +kernel)
    (case cvq_CropHeight_WORD => first | k_is | kernel_rfl | rfl | decide +kernel)
    (case cvq_CropWidth_WORD => first | k_is | kernel_rfl | rfl | decide +kernel)
    (case cr1_Grow => first | k_is | kernel_rfl | rfl | decide +kernel)
    (case cr2_Grow => first | k_is | kernel_rfl | rfl | decide +kernel)
    (case cvq_Grow_WORD => first | k_is | kernel_rfl | rfl | decide +kernel)
    (case cr1_Shrink => first | k_is | kernel_rfl | rfl | decide +kernel)
    (case cr2_Shrink => first | k_is | kernel_rfl | rfl | decide +kernel)
    (case cvq_Shrink_WORD => first | k_is | kernel_rfl | rfl | decide +kernel)
    (case l_Scaling_init => first | k_is | kernel_rfl | rfl | decide +kernel)
    (case c_Scaling_init => first | k_is | kernel_rfl | rfl | decide +kernel)
    (case k_Scaling_init => first | k_is | kernel_rfl | rfl | decide +kernel)
    (case l_Shrink_init => first | k_is | kernel_rfl | rfl | decide +kernel)
    (case c_Shrink_init => first | k_is | kernel_rfl | rfl | decide +kernel)
    (case k_Shrink_init => first | k_is | kernel_rfl | rfl | decide +kernel)
    (case kd_Shrink_init_cover => first | k_is | kernel_rfl | rfl | decide +kernel)
    (case l_Grow_init => first | k_is | kernel_rfl | rfl | decide +kernel)
    (case c_Grow_init => first | k_is | kernel_rfl | rfl | decide +kernel)
    (case k_Grow_init => first | k_is | kernel_rfl | rfl | decide +kernel)
    (case kd_Grow_init_cover => first | k_is | kernel_rfl | rfl | decide +kernel)
    (case l_Crop_init => first | k_is | kernel_rfl | rfl | decide +kernel)
    (case c_Crop_init => first | k_is | kernel_rfl | rfl | decide +kernel)
    (case k_Crop_init => first | k_is | kernel_rfl | rfl | decide +kernel)
    (case l_CropWidth_init => first | k_is | kernel_rfl | rfl | decide +kernel)
    (case c_CropWidth_init => first | k_is | kernel_rfl | rfl | decide +kernel)
    (case k_CropWidth_init => first | k_is | kernel_rfl | rfl | decide +kernel)
    (case kd_CropWidth_init_keep => first | k_is | kernel_rfl | rfl | decide +kernel)
    (case l_CropHeight_init => first | k_is | kernel_rfl | rfl | decide +kernel)
    (case c_CropHeight_init => first | k_is | kernel_rfl | rfl | decide +kernel)
    (case k_CropHeight_init => first | k_is | kernel_rfl | rfl | decide +kernel)
    (case kd_CropHeight_init_keep => first | k_is | kernel_rfl | rfl | decide +kernel)
    (case l_Turn_init => first | k_is | kernel_rfl | rfl | decide +kernel)
    (case c_Turn_init => first | k_is | kernel_rfl | rfl | decide +kernel)
    (case k_Turn_init => first | k_is | kernel_rfl | rfl | decide +kernel)
    (case t_Turn_init => first | k_is | kernel_rfl | rfl | decide +kernel)
    (case l_Step_details => first | k_is | kernel_rfl | rfl | decide +kernel)
    (case c_Step_details => first | k_is | kernel_rfl | rfl | decide +kernel)
    (case k_Step_details => first | k_is | kernel_rfl | rfl | decide +kernel)
    (case l_Scaling_details => first | k_is | kernel_rfl | rfl | decide +kernel)
    (case c_Scaling_details => first | k_is | kernel_rfl | rfl | decide +kernel)
    (case k_Scaling_details => first | k_is | kernel_rfl | rfl | decide +kernel)
    (case l_Crop_details => first | k_is | kernel_rfl | rfl | decide +kernel)
    (case c_Crop_details => first | k_is | kernel_rfl | rfl | decide +kernel)
    (case k_Crop_details => first | k_is | kernel_rfl | rfl | decide +kernel)
    (case l_Turn_details => first | k_is | kernel_rfl | rfl | decide +kernel)
    (case c_Turn_details => first | k_is | kernel_rfl | rfl | decide +kernel)
    (case k_Turn_details => first | k_is | kernel_rfl | rfl | decide +kernel)
    (case l_Step_str => first | k_is | kernel_rfl | rfl | decide +kernel)
    (case c_Step_str => first | k_is | kernel_rfl | rfl | decide +kernel)
    (case k_Step_str => first | k_is | kernel_rfl | rfl | decide +kernel)
    (case l_Step_repr => first | k_is | kernel_rfl | rfl | decide +kernel)
    (case c_Step_repr => first | k_is | kernel_rfl | rfl | decide +kernel)
    (case k_Step_repr => first | k_is | kernel_rfl | rfl | decide +kernel)
