import PyProof.Rows.All
import Wide.All
import OpenK.AllK
import Wide.FinOn
import HandS.ForMost
import HandS.Exc
import HandS.TryOnly
import HandS.ExcOwn
import HandS.WordsExc
import HandS.Flow
import HandS.Wide
import HandS.WideBits
import HandS.Defaults
import HandS.IsInst
import HandS.RaiseMore
import HandS.FStr
import HandS.Text
import HandS.StrMore
import HandS.Star
import HandS.Style
import HandS.ClsMeth
import HandS.Property
import HandS.CallLocal
import HandS.MakeKwOnly
import KE.KCallOwn
import PyProof.InstSpecial
import KE.KExcIs
import KE.KTryMore
import HandS.ExcInit
import HandS.ExcCtx
import HandS.HotCalls
import HandS.ExcField
import HandS.CallSlots
import HandS.Lambda
import HandS.EndTab
import HandS.SetFor
import HandS.Codes
import HandS.Walk
import HandS.DeepEq
import KE.KOpsOwn
import OpenK.KMeth
import HandS.TupMul
import HandS.OwnEq
import KE.GoesMore
import HandS.TupAny
import HandS.Deep
import KE.GoesZip
import HandS.Small
import PyProof.Rows.Range3
import KE.KDictZip
import KE.DataEq
import HandS.Iter
import HandS.Dict
import KE.KRevSl
import HandS.Zip
import KE.DatumOrd
import KE.KUnpackStar
import HandS.Strs
import KE.KUnpack
import KE.OsRunLaw
import HandS.Words
import PySem.Challenge.RW_sizechains_k09_sizes_read_and_refused
set_option Elab.async false
set_option linter.all false
set_option exponentiation.threshold 10000
set_option maxRecDepth 100000
namespace Gd
open PySem PySem.Spec PyProof.Rows L2
/-! the head -/
def top (i : Nat) : Stmt := PySem.Challenge.pw_sizechains_k09_sizes_read_and_refused.main.body.getD i (.Pass ⟨0, 0, 0, 0⟩)
abbrev s__wall : Stmt := top 0
abbrev s_InvalidFraction_init : Stmt := inClass (top 3) 0
abbrev s_InvalidSize_init : Stmt := inClass (top 4) 0
abbrev s_InvalidBox_init : Stmt := inClass (top 5) 0
abbrev s_InvalidKeep_init : Stmt := inClass (top 6) 0
abbrev s_InvalidTimes_init : Stmt := inClass (top 7) 0
abbrev s_InvalidStep_init : Stmt := inClass (top 8) 0
abbrev s_InvalidSteps_init : Stmt := inClass (top 9) 0
abbrev s_InvalidChain_init : Stmt := inClass (top 10) 0
abbrev s_InvalidText_init : Stmt := inClass (top 11) 0
abbrev s_InvalidKind_init : Stmt := inClass (top 12) 0
abbrev s_InvalidRecords_init : Stmt := inClass (top 13) 0
abbrev s_InvalidName_init : Stmt := inClass (top 14) 0
abbrev s_InvalidDeeds_init : Stmt := inClass (top 15) 0
abbrev s_InvalidLine_init : Stmt := inClass (top 16) 0
abbrev s_NoStep_init : Stmt := inClass (top 18) 0
abbrev s_UnknownName_init : Stmt := inClass (top 19) 0
abbrev s_NameTaken_init : Stmt := inClass (top 20) 0
abbrev s_TooManySteps_init : Stmt := inClass (top 23) 0
abbrev s_TooManyDeeds_init : Stmt := inClass (top 24) 0
abbrev s_is_integer : Stmt := top 26
abbrev s_is_positive : Stmt := top 27
abbrev s_common_divisor : Stmt := top 28
abbrev s_lowest_terms : Stmt := top 29
abbrev s_is_fraction : Stmt := top 30
abbrev s_check_fractions : Stmt := top 31
abbrev s_as_fraction : Stmt := top 32
abbrev s_product : Stmt := top 33
abbrev s_quotient : Stmt := top 34
abbrev s_order : Stmt := top 35
abbrev s_compare : Stmt := top 36
abbrev s_format_fraction : Stmt := top 37
abbrev s_is_numeral : Stmt := top 38
abbrev s_find_fraction : Stmt := top 39
abbrev s_Size_init : Stmt := inClass (top 41) 0
abbrev s_Size_read : Stmt := inClass (top 41) 1
abbrev s_Size_ratio : Stmt := inClass (top 41) 2
abbrev s_Size_turned : Stmt := inClass (top 41) 3
abbrev s_Size_eq : Stmt := inClass (top 41) 4
abbrev s_Size_contains : Stmt := inClass (top 41) 5
abbrev s_Size_mul : Stmt := inClass (top 41) 6
abbrev s_Size_str : Stmt := inClass (top 41) 7
abbrev s_Size_repr : Stmt := inClass (top 41) 8
abbrev s_l_cell : Stmt := top 43
abbrev s_l_pool : Stmt := top 44
abbrev s_l_draw : Stmt := top 45
abbrev s_l_low : Stmt := top 46
abbrev s_l_mul : Stmt := top 47
abbrev s_l_part : Stmt := top 48
abbrev s_l_sides : Stmt := top 49
abbrev s_l_whole : Stmt := top 50
abbrev s_l_is_part : Stmt := top 51
abbrev s_l_odd : Stmt := top 52
abbrev s_l_kind : Stmt := top 53
abbrev s_l_caught : Stmt := top 54
abbrev s_l_shown : Stmt := top 55
abbrev s_l_read : Stmt := top 56
abbrev s_l_two : Stmt := top 57
abbrev s_l_read_right : Stmt := top 58
abbrev s_l_is_side : Stmt := top 59
abbrev s_l_sides_right : Stmt := top 60
abbrev s_l_bent : Stmt := top 61
abbrev s_l_by_hand : Stmt := top 62
abbrev s_l_right : Stmt := top 63
abbrev s_law : Stmt := top 64
def q0 : Program := { PySem.Challenge.rw_sizechains_k09_sizes_read_and_refused.row.prog with main := { PySem.Challenge.rw_sizechains_k09_sizes_read_and_refused.row.prog.main with body := [top 64] } }
abbrev loose0 : List Str := [Str.ofString "_wall", Str.ofString "PictureError", Str.ofString "InvalidFraction", Str.ofString "InvalidSize", Str.ofString "InvalidBox", Str.ofString "InvalidKeep", Str.ofString "InvalidTimes", Str.ofString "InvalidStep", Str.ofString "InvalidSteps", Str.ofString "InvalidChain", Str.ofString "InvalidText", Str.ofString "InvalidKind", Str.ofString "InvalidRecords", Str.ofString "InvalidName", Str.ofString "InvalidDeeds", Str.ofString "InvalidLine", Str.ofString "FindError", Str.ofString "NoStep", Str.ofString "UnknownName", Str.ofString "NameTaken", Str.ofString "NothingToUndo", Str.ofString "LimitError", Str.ofString "TooManySteps", Str.ofString "TooManyDeeds", Str.ofString "is_integer", Str.ofString "is_positive", Str.ofString "common_divisor", Str.ofString "lowest_terms", Str.ofString "is_fraction", Str.ofString "check_fractions", Str.ofString "as_fraction", Str.ofString "product", Str.ofString "quotient", Str.ofString "order", Str.ofString "compare", Str.ofString "format_fraction", Str.ofString "is_numeral", Str.ofString "find_fraction", Str.ofString "Size", Str.ofString "_law_cell", Str.ofString "_law_pool", Str.ofString "_law_draw", Str.ofString "_law_low", Str.ofString "_law_mul", Str.ofString "_law_part", Str.ofString "_law_sides", Str.ofString "_law_whole", Str.ofString "_law_is_part", Str.ofString "_law_odd", Str.ofString "_law_kind", Str.ofString "_law_caught", Str.ofString "_law_shown", Str.ofString "_law_read", Str.ofString "_law_two", Str.ofString "_law_read_right", Str.ofString "_law_is_side", Str.ofString "_law_sides_right", Str.ofString "_law_bent", Str.ofString "_law_by_hand", Str.ofString "_law_right"]
abbrev lv0 : List (Str × PySem.W.WData) := []
abbrev seen0 (s : Shared) : Bool := PySem.W.xlAt q0 lv0 s && PySem.W.recOk (PySem.W.RowW.records (PySem.W.OpenRow.toRowW PySem.Challenge.rw_sizechains_k09_sizes_read_and_refused.row)) s
def K0 : PySem.Params → PySem.W.Frag := fun P => 
  (nat_lit 2, { cls := Value.none, data := Data.dict #[{ hash := PyData.keyHash P (Str.ofString "type.__subclasses__.ArithmeticError.0"), key := Value.str (Str.ofString "type.__subclasses__.ArithmeticError.0") 689, val := Value.int 392 0 }, { hash := PyData.keyHash P (Str.ofString "type.__subclasses__.ArithmeticError.n"), key := Value.str (Str.ofString "type.__subclasses__.ArithmeticError.n") 690, val := Value.int 1 0 }] 2 }) ::
  (nat_lit 3, { cls := Value.type "dict", data := Data.dict #[{ hash := PyData.keyHash P (Str.ofString "__name__"), key := Value.str (Str.ofString "__name__") 165, val := Value.str (Str.ofString "law_sizechains_k09_sizes_read_and_refused") 972 }, { hash := PyData.keyHash P (Str.ofString "__doc__"), key := Value.str (Str.ofString "__doc__") 166, val := Value.none }, { hash := PyData.keyHash P (Str.ofString "__package__"), key := Value.str (Str.ofString "__package__") 167, val := Value.none }, { hash := PyData.keyHash P (Str.ofString "__loader__"), key := Value.str (Str.ofString "__loader__") 168, val := Value.builtin "__main__.__loader__#opaque" }, { hash := PyData.keyHash P (Str.ofString "__spec__"), key := Value.str (Str.ofString "__spec__") 169, val := Value.none }, { hash := PyData.keyHash P (Str.ofString "__annotations__"), key := Value.str (Str.ofString "__annotations__") 170, val := Value.ref 6 }, { hash := PyData.keyHash P (Str.ofString "__builtins__"), key := Value.str (Str.ofString "__builtins__") 171, val := Value.ref 4 }, { hash := PyData.keyHash P (Str.ofString "__file__"), key := Value.str (Str.ofString "__file__") 173, val := Value.str (Str.ofString "/claim/cut.py") 172 }, { hash := PyData.keyHash P (Str.ofString "__cached__"), key := Value.str (Str.ofString "__cached__") 174, val := Value.none }, { hash := PyData.keyHash P (Str.ofString "_wall"), key := Value.str (Str.ofString "_wall") 193, val := Value.ref 21 }, { hash := PyData.keyHash P (Str.ofString "PictureError"), key := Value.str (Str.ofString "PictureError") 213, val := Value.ref 31 }, { hash := PyData.keyHash P (Str.ofString "InvalidFraction"), key := Value.str (Str.ofString "InvalidFraction") 238, val := Value.ref 51 }, { hash := PyData.keyHash P (Str.ofString "InvalidSize"), key := Value.str (Str.ofString "InvalidSize") 263, val := Value.ref 70 }, { hash := PyData.keyHash P (Str.ofString "InvalidBox"), key := Value.str (Str.ofString "InvalidBox") 288, val := Value.ref 89 }, { hash := PyData.keyHash P (Str.ofString "InvalidKeep"), key := Value.str (Str.ofString "InvalidKeep") 313, val := Value.ref 108 }, { hash := PyData.keyHash P (Str.ofString "InvalidTimes"), key := Value.str (Str.ofString "InvalidTimes") 338, val := Value.ref 127 }, { hash := PyData.keyHash P (Str.ofString "InvalidStep"), key := Value.str (Str.ofString "InvalidStep") 363, val := Value.ref 146 }, { hash := PyData.keyHash P (Str.ofString "InvalidSteps"), key := Value.str (Str.ofString "InvalidSteps") 388, val := Value.ref 165 }, { hash := PyData.keyHash P (Str.ofString "InvalidChain"), key := Value.str (Str.ofString "InvalidChain") 413, val := Value.ref 184 }, { hash := PyData.keyHash P (Str.ofString "InvalidText"), key := Value.str (Str.ofString "InvalidText") 438, val := Value.ref 203 }, { hash := PyData.keyHash P (Str.ofString "InvalidKind"), key := Value.str (Str.ofString "InvalidKind") 463, val := Value.ref 222 }, { hash := PyData.keyHash P (Str.ofString "InvalidRecords"), key := Value.str (Str.ofString "InvalidRecords") 488, val := Value.ref 241 }, { hash := PyData.keyHash P (Str.ofString "InvalidName"), key := Value.str (Str.ofString "InvalidName") 513, val := Value.ref 260 }, { hash := PyData.keyHash P (Str.ofString "InvalidDeeds"), key := Value.str (Str.ofString "InvalidDeeds") 538, val := Value.ref 279 }, { hash := PyData.keyHash P (Str.ofString "InvalidLine"), key := Value.str (Str.ofString "InvalidLine") 563, val := Value.ref 298 }, { hash := PyData.keyHash P (Str.ofString "FindError"), key := Value.str (Str.ofString "FindError") 581, val := Value.ref 310 }, { hash := PyData.keyHash P (Str.ofString "NoStep"), key := Value.str (Str.ofString "NoStep") 606, val := Value.ref 330 }, { hash := PyData.keyHash P (Str.ofString "UnknownName"), key := Value.str (Str.ofString "UnknownName") 631, val := Value.ref 349 }, { hash := PyData.keyHash P (Str.ofString "NameTaken"), key := Value.str (Str.ofString "NameTaken") 656, val := Value.ref 368 }, { hash := PyData.keyHash P (Str.ofString "NothingToUndo"), key := Value.str (Str.ofString "NothingToUndo") 672, val := Value.ref 380 }, { hash := PyData.keyHash P (Str.ofString "LimitError"), key := Value.str (Str.ofString "LimitError") 692, val := Value.ref 392 }, { hash := PyData.keyHash P (Str.ofString "TooManySteps"), key := Value.str (Str.ofString "TooManySteps") 717, val := Value.ref 412 }, { hash := PyData.keyHash P (Str.ofString "TooManyDeeds"), key := Value.str (Str.ofString "TooManyDeeds") 742, val := Value.ref 431 }, { hash := PyData.keyHash P (Str.ofString "is_integer"), key := Value.str (Str.ofString "is_integer") 751, val := Value.ref 440 }, { hash := PyData.keyHash P (Str.ofString "is_positive"), key := Value.str (Str.ofString "is_positive") 758, val := Value.ref 447 }, { hash := PyData.keyHash P (Str.ofString "common_divisor"), key := Value.str (Str.ofString "common_divisor") 766, val := Value.ref 454 }, { hash := PyData.keyHash P (Str.ofString "lowest_terms"), key := Value.str (Str.ofString "lowest_terms") 775, val := Value.ref 461 }, { hash := PyData.keyHash P (Str.ofString "is_fraction"), key := Value.str (Str.ofString "is_fraction") 784, val := Value.ref 468 }, { hash := PyData.keyHash P (Str.ofString "check_fractions"), key := Value.str (Str.ofString "check_fractions") 792, val := Value.ref 475 }, { hash := PyData.keyHash P (Str.ofString "as_fraction"), key := Value.str (Str.ofString "as_fraction") 799, val := Value.ref 482 }, { hash := PyData.keyHash P (Str.ofString "product"), key := Value.str (Str.ofString "product") 809, val := Value.ref 489 }, { hash := PyData.keyHash P (Str.ofString "quotient"), key := Value.str (Str.ofString "quotient") 817, val := Value.ref 496 }, { hash := PyData.keyHash P (Str.ofString "order"), key := Value.str (Str.ofString "order") 825, val := Value.ref 503 }, { hash := PyData.keyHash P (Str.ofString "compare"), key := Value.str (Str.ofString "compare") 833, val := Value.ref 510 }, { hash := PyData.keyHash P (Str.ofString "format_fraction"), key := Value.str (Str.ofString "format_fraction") 842, val := Value.ref 517 }, { hash := PyData.keyHash P (Str.ofString "is_numeral"), key := Value.str (Str.ofString "is_numeral") 849, val := Value.ref 524 }, { hash := PyData.keyHash P (Str.ofString "find_fraction"), key := Value.str (Str.ofString "find_fraction") 860, val := Value.ref 531 }, { hash := PyData.keyHash P (Str.ofString "Size"), key := Value.str (Str.ofString "Size") 971, val := Value.ref 608 }, { hash := PyData.keyHash P (Str.ofString "_law_cell"), key := Value.str (Str.ofString "_law_cell") 983, val := Value.ref 619 }, { hash := PyData.keyHash P (Str.ofString "_law_pool"), key := Value.str (Str.ofString "_law_pool") 991, val := Value.ref 626 }, { hash := PyData.keyHash P (Str.ofString "_law_draw"), key := Value.str (Str.ofString "_law_draw") 1001, val := Value.ref 633 }, { hash := PyData.keyHash P (Str.ofString "_law_low"), key := Value.str (Str.ofString "_law_low") 1011, val := Value.ref 640 }, { hash := PyData.keyHash P (Str.ofString "_law_mul"), key := Value.str (Str.ofString "_law_mul") 1019, val := Value.ref 647 }, { hash := PyData.keyHash P (Str.ofString "_law_part"), key := Value.str (Str.ofString "_law_part") 1029, val := Value.ref 654 }, { hash := PyData.keyHash P (Str.ofString "_law_sides"), key := Value.str (Str.ofString "_law_sides") 1039, val := Value.ref 661 }, { hash := PyData.keyHash P (Str.ofString "_law_whole"), key := Value.str (Str.ofString "_law_whole") 1046, val := Value.ref 668 }, { hash := PyData.keyHash P (Str.ofString "_law_is_part"), key := Value.str (Str.ofString "_law_is_part") 1053, val := Value.ref 675 }, { hash := PyData.keyHash P (Str.ofString "_law_odd"), key := Value.str (Str.ofString "_law_odd") 1064, val := Value.ref 682 }, { hash := PyData.keyHash P (Str.ofString "_law_kind"), key := Value.str (Str.ofString "_law_kind") 1075, val := Value.ref 689 }, { hash := PyData.keyHash P (Str.ofString "_law_caught"), key := Value.str (Str.ofString "_law_caught") 1083, val := Value.ref 696 }, { hash := PyData.keyHash P (Str.ofString "_law_shown"), key := Value.str (Str.ofString "_law_shown") 1090, val := Value.ref 703 }, { hash := PyData.keyHash P (Str.ofString "_law_read"), key := Value.str (Str.ofString "_law_read") 1096, val := Value.ref 708 }, { hash := PyData.keyHash P (Str.ofString "_law_two"), key := Value.str (Str.ofString "_law_two") 1102, val := Value.ref 713 }, { hash := PyData.keyHash P (Str.ofString "_law_read_right"), key := Value.str (Str.ofString "_law_read_right") 1114, val := Value.ref 720 }, { hash := PyData.keyHash P (Str.ofString "_law_is_side"), key := Value.str (Str.ofString "_law_is_side") 1121, val := Value.ref 727 }, { hash := PyData.keyHash P (Str.ofString "_law_sides_right"), key := Value.str (Str.ofString "_law_sides_right") 1133, val := Value.ref 734 }, { hash := PyData.keyHash P (Str.ofString "_law_bent"), key := Value.str (Str.ofString "_law_bent") 1150, val := Value.ref 741 }, { hash := PyData.keyHash P (Str.ofString "_law_by_hand"), key := Value.str (Str.ofString "_law_by_hand") 1156, val := Value.ref 746 }, { hash := PyData.keyHash P (Str.ofString "_law_right"), key := Value.str (Str.ofString "_law_right") 1162, val := Value.ref 751 }, { hash := PyData.keyHash P (Str.ofString "law"), key := Value.str (Str.ofString "law") 1168, val := Value.ref 756 }] 70 }) ::
  (nat_lit 15, { cls := Value.type "tuple", data := Data.seq #[] }) ::
  (nat_lit 17, { cls := Value.type "tuple", data := Data.seq #[Value.str (Str.ofString "k") 190] }) ::
  (nat_lit 18, { cls := Value.type "tuple", data := Data.seq #[] }) ::
  (nat_lit 20, { cls := Value.type "code", data := Data.fields #[Value.str (Str.ofString "_wall") 187, Value.str (Str.ofString "_wall") 188, Value.str (Str.ofString "/claim/cut.py") 189, Value.int 1 0, Value.int 1 0, Value.int 0 0, Value.int 0 0, Value.int 3 0, Value.ref 15, Value.bool true, Value.int 181 0, Value.ref 16, Value.none, Value.ref 17, Value.ref 18, Value.ref 19, Value.int 191 0, Value.int 1 0, Value.str (Str.ofString "/claim/cut.py") 192] }) ::
  (nat_lit 21, ⟨Value.type "function", none, Data.func (PySem.W.fnOf (Str.ofString "_wall") (Str.ofString "_wall") (L2.defArgs s__wall) (L2.defBody s__wall) (L2.defScope s__wall) (Value.none) (Value.none) (Value.none) (Value.str (Str.ofString "__main__") 164) (none) (Value.ref 20) (Value.none)), #[]⟩) ::
  (nat_lit 22, { cls := Value.type "tuple", data := Data.seq #[Value.type "ValueError"] }) ::
  (nat_lit 29, { cls := Value.type "tuple", data := Data.seq #[] }) ::
  (nat_lit 30, { cls := Value.type "dict", data := Data.dict #[{ hash := PyData.keyHash P (Str.ofString "__module__"), key := Value.str (Str.ofString "__module__") 203, val := Value.str (Str.ofString "sizechains.errors") 194 }, { hash := PyData.keyHash P (Str.ofString "__firstlineno__"), key := Value.str (Str.ofString "__firstlineno__") 207, val := Value.int 5 206 }, { hash := PyData.keyHash P (Str.ofString "__static_attributes__"), key := Value.str (Str.ofString "__static_attributes__") 208, val := Value.ref 29 }, { hash := PyData.keyHash P (Str.ofString "__weakref__"), key := Value.str (Str.ofString "__weakref__") 210, val := Value.ref 32 }, { hash := PyData.keyHash P (Str.ofString "__doc__"), key := Value.str (Str.ofString "__doc__") 211, val := Value.none }] 3 }) ::
  (nat_lit 31, { cls := Value.type "type", data := Data.cls { name := Str.ofString "PictureError", bases := [Value.type "ValueError"], mro := [Value.ref 31, Value.type "ValueError", Value.type "Exception", Value.type "BaseException", Value.type "object"], ns := 30, qualname := Str.ofString "PictureError", subclasses := [Value.ref 51, Value.ref 70, Value.ref 89, Value.ref 108, Value.ref 127, Value.ref 146, Value.ref 165, Value.ref 184, Value.ref 203, Value.ref 222, Value.ref 241, Value.ref 260, Value.ref 279, Value.ref 298] }, slots := #[some (Value.ref 22), none, some (Value.str (Str.ofString "PictureError") 196), some (Value.str (Str.ofString "PictureError") 204), some (Value.builtin "ValueError.__new__"), some (Value.bool true)] }) ::
  (nat_lit 32, { cls := Value.type "getset_descriptor", data := Data.fields #[Value.str (Str.ofString "__weakref__") 209, Value.ref 31, Value.builtin "ExceptionGroup.__weakref__", Value.none] }) ::
  (nat_lit 35, { cls := Value.type "tuple", data := Data.seq #[Value.ref 31] }) ::
  (nat_lit 42, { cls := Value.type "tuple", data := Data.seq #[] }) ::
  (nat_lit 44, { cls := Value.type "tuple", data := Data.seq #[Value.str (Str.ofString "self") 229, Value.str (Str.ofString "value") 230] }) ::
  (nat_lit 45, { cls := Value.type "tuple", data := Data.seq #[] }) ::
  (nat_lit 47, { cls := Value.type "code", data := Data.fields #[Value.str (Str.ofString "__init__") 226, Value.str (Str.ofString "InvalidFraction.__init__") 227, Value.str (Str.ofString "/claim/cut.py") 228, Value.int 9 0, Value.int 2 0, Value.int 0 0, Value.int 0 0, Value.int 3 0, Value.ref 42, Value.bool true, Value.int 181 0, Value.ref 43, Value.none, Value.ref 44, Value.ref 45, Value.ref 46, Value.int 231 0, Value.int 9 0, Value.str (Str.ofString "/claim/cut.py") 232] }) ::
  (nat_lit 48, ⟨Value.type "function", none, Data.func (PySem.W.fnOf (Str.ofString "__init__") (Str.ofString "InvalidFraction.__init__") (L2.defArgs s_InvalidFraction_init) (L2.defBody s_InvalidFraction_init) (L2.defScope s_InvalidFraction_init) (Value.none) (Value.none) (Value.none) (Value.str (Str.ofString "sizechains.errors") 194) (none) (Value.ref 47) (Value.none)), #[]⟩) ::
  (nat_lit 49, { cls := Value.type "tuple", data := Data.seq #[Value.str (Str.ofString "value") 234] }) ::
  (nat_lit 50, { cls := Value.type "dict", data := Data.dict #[{ hash := PyData.keyHash P (Str.ofString "__module__"), key := Value.str (Str.ofString "__module__") 221, val := Value.str (Str.ofString "sizechains.errors") 194 }, { hash := PyData.keyHash P (Str.ofString "__firstlineno__"), key := Value.str (Str.ofString "__firstlineno__") 225, val := Value.int 7 224 }, { hash := PyData.keyHash P (Str.ofString "__init__"), key := Value.str (Str.ofString "__init__") 233, val := Value.ref 48 }, { hash := PyData.keyHash P (Str.ofString "__static_attributes__"), key := Value.str (Str.ofString "__static_attributes__") 235, val := Value.ref 49 }, { hash := PyData.keyHash P (Str.ofString "__doc__"), key := Value.str (Str.ofString "__doc__") 236, val := Value.none }] 2 }) ::
  (nat_lit 51, { cls := Value.type "type", data := Data.cls { name := Str.ofString "InvalidFraction", bases := [Value.ref 31], mro := [Value.ref 51, Value.ref 31, Value.type "ValueError", Value.type "Exception", Value.type "BaseException", Value.type "object"], ns := 50, qualname := Str.ofString "InvalidFraction" }, slots := #[some (Value.ref 35), none, some (Value.str (Str.ofString "InvalidFraction") 214), some (Value.str (Str.ofString "InvalidFraction") 222), some (Value.builtin "ValueError.__new__"), some (Value.bool true)] }) ::
  (nat_lit 54, { cls := Value.type "tuple", data := Data.seq #[Value.ref 31] }) ::
  (nat_lit 61, { cls := Value.type "tuple", data := Data.seq #[] }) ::
  (nat_lit 63, { cls := Value.type "tuple", data := Data.seq #[Value.str (Str.ofString "self") 254, Value.str (Str.ofString "value") 255] }) ::
  (nat_lit 64, { cls := Value.type "tuple", data := Data.seq #[] }) ::
  (nat_lit 66, { cls := Value.type "code", data := Data.fields #[Value.str (Str.ofString "__init__") 251, Value.str (Str.ofString "InvalidSize.__init__") 252, Value.str (Str.ofString "/claim/cut.py") 253, Value.int 13 0, Value.int 2 0, Value.int 0 0, Value.int 0 0, Value.int 3 0, Value.ref 61, Value.bool true, Value.int 181 0, Value.ref 62, Value.none, Value.ref 63, Value.ref 64, Value.ref 65, Value.int 256 0, Value.int 13 0, Value.str (Str.ofString "/claim/cut.py") 257] }) ::
  (nat_lit 67, ⟨Value.type "function", none, Data.func (PySem.W.fnOf (Str.ofString "__init__") (Str.ofString "InvalidSize.__init__") (L2.defArgs s_InvalidSize_init) (L2.defBody s_InvalidSize_init) (L2.defScope s_InvalidSize_init) (Value.none) (Value.none) (Value.none) (Value.str (Str.ofString "sizechains.errors") 194) (none) (Value.ref 66) (Value.none)), #[]⟩) ::
  (nat_lit 68, { cls := Value.type "tuple", data := Data.seq #[Value.str (Str.ofString "value") 259] }) ::
  (nat_lit 69, { cls := Value.type "dict", data := Data.dict #[{ hash := PyData.keyHash P (Str.ofString "__module__"), key := Value.str (Str.ofString "__module__") 246, val := Value.str (Str.ofString "sizechains.errors") 194 }, { hash := PyData.keyHash P (Str.ofString "__firstlineno__"), key := Value.str (Str.ofString "__firstlineno__") 250, val := Value.int 11 249 }, { hash := PyData.keyHash P (Str.ofString "__init__"), key := Value.str (Str.ofString "__init__") 258, val := Value.ref 67 }, { hash := PyData.keyHash P (Str.ofString "__static_attributes__"), key := Value.str (Str.ofString "__static_attributes__") 260, val := Value.ref 68 }, { hash := PyData.keyHash P (Str.ofString "__doc__"), key := Value.str (Str.ofString "__doc__") 261, val := Value.none }] 2 }) ::
  (nat_lit 70, { cls := Value.type "type", data := Data.cls { name := Str.ofString "InvalidSize", bases := [Value.ref 31], mro := [Value.ref 70, Value.ref 31, Value.type "ValueError", Value.type "Exception", Value.type "BaseException", Value.type "object"], ns := 69, qualname := Str.ofString "InvalidSize" }, slots := #[some (Value.ref 54), none, some (Value.str (Str.ofString "InvalidSize") 239), some (Value.str (Str.ofString "InvalidSize") 247), some (Value.builtin "ValueError.__new__"), some (Value.bool true)] }) ::
  (nat_lit 73, { cls := Value.type "tuple", data := Data.seq #[Value.ref 31] }) ::
  (nat_lit 80, { cls := Value.type "tuple", data := Data.seq #[] }) ::
  (nat_lit 82, { cls := Value.type "tuple", data := Data.seq #[Value.str (Str.ofString "self") 279, Value.str (Str.ofString "value") 280] }) ::
  (nat_lit 83, { cls := Value.type "tuple", data := Data.seq #[] }) ::
  (nat_lit 85, { cls := Value.type "code", data := Data.fields #[Value.str (Str.ofString "__init__") 276, Value.str (Str.ofString "InvalidBox.__init__") 277, Value.str (Str.ofString "/claim/cut.py") 278, Value.int 17 0, Value.int 2 0, Value.int 0 0, Value.int 0 0, Value.int 3 0, Value.ref 80, Value.bool true, Value.int 181 0, Value.ref 81, Value.none, Value.ref 82, Value.ref 83, Value.ref 84, Value.int 281 0, Value.int 17 0, Value.str (Str.ofString "/claim/cut.py") 282] }) ::
  (nat_lit 86, ⟨Value.type "function", none, Data.func (PySem.W.fnOf (Str.ofString "__init__") (Str.ofString "InvalidBox.__init__") (L2.defArgs s_InvalidBox_init) (L2.defBody s_InvalidBox_init) (L2.defScope s_InvalidBox_init) (Value.none) (Value.none) (Value.none) (Value.str (Str.ofString "sizechains.errors") 194) (none) (Value.ref 85) (Value.none)), #[]⟩) ::
  (nat_lit 87, { cls := Value.type "tuple", data := Data.seq #[Value.str (Str.ofString "value") 284] }) ::
  (nat_lit 88, { cls := Value.type "dict", data := Data.dict #[{ hash := PyData.keyHash P (Str.ofString "__module__"), key := Value.str (Str.ofString "__module__") 271, val := Value.str (Str.ofString "sizechains.errors") 194 }, { hash := PyData.keyHash P (Str.ofString "__firstlineno__"), key := Value.str (Str.ofString "__firstlineno__") 275, val := Value.int 15 274 }, { hash := PyData.keyHash P (Str.ofString "__init__"), key := Value.str (Str.ofString "__init__") 283, val := Value.ref 86 }, { hash := PyData.keyHash P (Str.ofString "__static_attributes__"), key := Value.str (Str.ofString "__static_attributes__") 285, val := Value.ref 87 }, { hash := PyData.keyHash P (Str.ofString "__doc__"), key := Value.str (Str.ofString "__doc__") 286, val := Value.none }] 2 }) ::
  (nat_lit 89, { cls := Value.type "type", data := Data.cls { name := Str.ofString "InvalidBox", bases := [Value.ref 31], mro := [Value.ref 89, Value.ref 31, Value.type "ValueError", Value.type "Exception", Value.type "BaseException", Value.type "object"], ns := 88, qualname := Str.ofString "InvalidBox" }, slots := #[some (Value.ref 73), none, some (Value.str (Str.ofString "InvalidBox") 264), some (Value.str (Str.ofString "InvalidBox") 272), some (Value.builtin "ValueError.__new__"), some (Value.bool true)] }) ::
  (nat_lit 92, { cls := Value.type "tuple", data := Data.seq #[Value.ref 31] }) ::
  (nat_lit 99, { cls := Value.type "tuple", data := Data.seq #[] }) ::
  (nat_lit 101, { cls := Value.type "tuple", data := Data.seq #[Value.str (Str.ofString "self") 304, Value.str (Str.ofString "value") 305] }) ::
  (nat_lit 102, { cls := Value.type "tuple", data := Data.seq #[] }) ::
  (nat_lit 104, { cls := Value.type "code", data := Data.fields #[Value.str (Str.ofString "__init__") 301, Value.str (Str.ofString "InvalidKeep.__init__") 302, Value.str (Str.ofString "/claim/cut.py") 303, Value.int 21 0, Value.int 2 0, Value.int 0 0, Value.int 0 0, Value.int 3 0, Value.ref 99, Value.bool true, Value.int 181 0, Value.ref 100, Value.none, Value.ref 101, Value.ref 102, Value.ref 103, Value.int 306 0, Value.int 21 0, Value.str (Str.ofString "/claim/cut.py") 307] }) ::
  (nat_lit 105, ⟨Value.type "function", none, Data.func (PySem.W.fnOf (Str.ofString "__init__") (Str.ofString "InvalidKeep.__init__") (L2.defArgs s_InvalidKeep_init) (L2.defBody s_InvalidKeep_init) (L2.defScope s_InvalidKeep_init) (Value.none) (Value.none) (Value.none) (Value.str (Str.ofString "sizechains.errors") 194) (none) (Value.ref 104) (Value.none)), #[]⟩) ::
  (nat_lit 106, { cls := Value.type "tuple", data := Data.seq #[Value.str (Str.ofString "value") 309] }) ::
  (nat_lit 107, { cls := Value.type "dict", data := Data.dict #[{ hash := PyData.keyHash P (Str.ofString "__module__"), key := Value.str (Str.ofString "__module__") 296, val := Value.str (Str.ofString "sizechains.errors") 194 }, { hash := PyData.keyHash P (Str.ofString "__firstlineno__"), key := Value.str (Str.ofString "__firstlineno__") 300, val := Value.int 19 299 }, { hash := PyData.keyHash P (Str.ofString "__init__"), key := Value.str (Str.ofString "__init__") 308, val := Value.ref 105 }, { hash := PyData.keyHash P (Str.ofString "__static_attributes__"), key := Value.str (Str.ofString "__static_attributes__") 310, val := Value.ref 106 }, { hash := PyData.keyHash P (Str.ofString "__doc__"), key := Value.str (Str.ofString "__doc__") 311, val := Value.none }] 2 }) ::
  (nat_lit 108, { cls := Value.type "type", data := Data.cls { name := Str.ofString "InvalidKeep", bases := [Value.ref 31], mro := [Value.ref 108, Value.ref 31, Value.type "ValueError", Value.type "Exception", Value.type "BaseException", Value.type "object"], ns := 107, qualname := Str.ofString "InvalidKeep" }, slots := #[some (Value.ref 92), none, some (Value.str (Str.ofString "InvalidKeep") 289), some (Value.str (Str.ofString "InvalidKeep") 297), some (Value.builtin "ValueError.__new__"), some (Value.bool true)] }) ::
  (nat_lit 111, { cls := Value.type "tuple", data := Data.seq #[Value.ref 31] }) ::
  (nat_lit 118, { cls := Value.type "tuple", data := Data.seq #[] }) ::
  (nat_lit 120, { cls := Value.type "tuple", data := Data.seq #[Value.str (Str.ofString "self") 329, Value.str (Str.ofString "value") 330] }) ::
  (nat_lit 121, { cls := Value.type "tuple", data := Data.seq #[] }) ::
  (nat_lit 123, { cls := Value.type "code", data := Data.fields #[Value.str (Str.ofString "__init__") 326, Value.str (Str.ofString "InvalidTimes.__init__") 327, Value.str (Str.ofString "/claim/cut.py") 328, Value.int 25 0, Value.int 2 0, Value.int 0 0, Value.int 0 0, Value.int 3 0, Value.ref 118, Value.bool true, Value.int 181 0, Value.ref 119, Value.none, Value.ref 120, Value.ref 121, Value.ref 122, Value.int 331 0, Value.int 25 0, Value.str (Str.ofString "/claim/cut.py") 332] }) ::
  (nat_lit 124, ⟨Value.type "function", none, Data.func (PySem.W.fnOf (Str.ofString "__init__") (Str.ofString "InvalidTimes.__init__") (L2.defArgs s_InvalidTimes_init) (L2.defBody s_InvalidTimes_init) (L2.defScope s_InvalidTimes_init) (Value.none) (Value.none) (Value.none) (Value.str (Str.ofString "sizechains.errors") 194) (none) (Value.ref 123) (Value.none)), #[]⟩) ::
  (nat_lit 125, { cls := Value.type "tuple", data := Data.seq #[Value.str (Str.ofString "value") 334] }) ::
  (nat_lit 126, { cls := Value.type "dict", data := Data.dict #[{ hash := PyData.keyHash P (Str.ofString "__module__"), key := Value.str (Str.ofString "__module__") 321, val := Value.str (Str.ofString "sizechains.errors") 194 }, { hash := PyData.keyHash P (Str.ofString "__firstlineno__"), key := Value.str (Str.ofString "__firstlineno__") 325, val := Value.int 23 324 }, { hash := PyData.keyHash P (Str.ofString "__init__"), key := Value.str (Str.ofString "__init__") 333, val := Value.ref 124 }, { hash := PyData.keyHash P (Str.ofString "__static_attributes__"), key := Value.str (Str.ofString "__static_attributes__") 335, val := Value.ref 125 }, { hash := PyData.keyHash P (Str.ofString "__doc__"), key := Value.str (Str.ofString "__doc__") 336, val := Value.none }] 2 }) ::
  (nat_lit 127, { cls := Value.type "type", data := Data.cls { name := Str.ofString "InvalidTimes", bases := [Value.ref 31], mro := [Value.ref 127, Value.ref 31, Value.type "ValueError", Value.type "Exception", Value.type "BaseException", Value.type "object"], ns := 126, qualname := Str.ofString "InvalidTimes" }, slots := #[some (Value.ref 111), none, some (Value.str (Str.ofString "InvalidTimes") 314), some (Value.str (Str.ofString "InvalidTimes") 322), some (Value.builtin "ValueError.__new__"), some (Value.bool true)] }) ::
  (nat_lit 130, { cls := Value.type "tuple", data := Data.seq #[Value.ref 31] }) ::
  (nat_lit 137, { cls := Value.type "tuple", data := Data.seq #[] }) ::
  (nat_lit 139, { cls := Value.type "tuple", data := Data.seq #[Value.str (Str.ofString "self") 354, Value.str (Str.ofString "value") 355] }) ::
  (nat_lit 140, { cls := Value.type "tuple", data := Data.seq #[] }) ::
  (nat_lit 142, { cls := Value.type "code", data := Data.fields #[Value.str (Str.ofString "__init__") 351, Value.str (Str.ofString "InvalidStep.__init__") 352, Value.str (Str.ofString "/claim/cut.py") 353, Value.int 29 0, Value.int 2 0, Value.int 0 0, Value.int 0 0, Value.int 3 0, Value.ref 137, Value.bool true, Value.int 181 0, Value.ref 138, Value.none, Value.ref 139, Value.ref 140, Value.ref 141, Value.int 356 0, Value.int 29 0, Value.str (Str.ofString "/claim/cut.py") 357] }) ::
  (nat_lit 143, ⟨Value.type "function", none, Data.func (PySem.W.fnOf (Str.ofString "__init__") (Str.ofString "InvalidStep.__init__") (L2.defArgs s_InvalidStep_init) (L2.defBody s_InvalidStep_init) (L2.defScope s_InvalidStep_init) (Value.none) (Value.none) (Value.none) (Value.str (Str.ofString "sizechains.errors") 194) (none) (Value.ref 142) (Value.none)), #[]⟩) ::
  (nat_lit 144, { cls := Value.type "tuple", data := Data.seq #[Value.str (Str.ofString "value") 359] }) ::
  (nat_lit 145, { cls := Value.type "dict", data := Data.dict #[{ hash := PyData.keyHash P (Str.ofString "__module__"), key := Value.str (Str.ofString "__module__") 346, val := Value.str (Str.ofString "sizechains.errors") 194 }, { hash := PyData.keyHash P (Str.ofString "__firstlineno__"), key := Value.str (Str.ofString "__firstlineno__") 350, val := Value.int 27 349 }, { hash := PyData.keyHash P (Str.ofString "__init__"), key := Value.str (Str.ofString "__init__") 358, val := Value.ref 143 }, { hash := PyData.keyHash P (Str.ofString "__static_attributes__"), key := Value.str (Str.ofString "__static_attributes__") 360, val := Value.ref 144 }, { hash := PyData.keyHash P (Str.ofString "__doc__"), key := Value.str (Str.ofString "__doc__") 361, val := Value.none }] 2 }) ::
  (nat_lit 146, { cls := Value.type "type", data := Data.cls { name := Str.ofString "InvalidStep", bases := [Value.ref 31], mro := [Value.ref 146, Value.ref 31, Value.type "ValueError", Value.type "Exception", Value.type "BaseException", Value.type "object"], ns := 145, qualname := Str.ofString "InvalidStep" }, slots := #[some (Value.ref 130), none, some (Value.str (Str.ofString "InvalidStep") 339), some (Value.str (Str.ofString "InvalidStep") 347), some (Value.builtin "ValueError.__new__"), some (Value.bool true)] }) ::
  (nat_lit 149, { cls := Value.type "tuple", data := Data.seq #[Value.ref 31] }) ::
  (nat_lit 156, { cls := Value.type "tuple", data := Data.seq #[] }) ::
  (nat_lit 158, { cls := Value.type "tuple", data := Data.seq #[Value.str (Str.ofString "self") 379, Value.str (Str.ofString "index") 380] }) ::
  (nat_lit 159, { cls := Value.type "tuple", data := Data.seq #[] }) ::
  (nat_lit 161, { cls := Value.type "code", data := Data.fields #[Value.str (Str.ofString "__init__") 376, Value.str (Str.ofString "InvalidSteps.__init__") 377, Value.str (Str.ofString "/claim/cut.py") 378, Value.int 33 0, Value.int 2 0, Value.int 0 0, Value.int 0 0, Value.int 3 0, Value.ref 156, Value.bool true, Value.int 181 0, Value.ref 157, Value.none, Value.ref 158, Value.ref 159, Value.ref 160, Value.int 381 0, Value.int 33 0, Value.str (Str.ofString "/claim/cut.py") 382] }) ::
  (nat_lit 162, ⟨Value.type "function", none, Data.func (PySem.W.fnOf (Str.ofString "__init__") (Str.ofString "InvalidSteps.__init__") (L2.defArgs s_InvalidSteps_init) (L2.defBody s_InvalidSteps_init) (L2.defScope s_InvalidSteps_init) (Value.none) (Value.none) (Value.none) (Value.str (Str.ofString "sizechains.errors") 194) (none) (Value.ref 161) (Value.none)), #[]⟩) ::
  (nat_lit 163, { cls := Value.type "tuple", data := Data.seq #[Value.str (Str.ofString "index") 384] }) ::
  (nat_lit 164, { cls := Value.type "dict", data := Data.dict #[{ hash := PyData.keyHash P (Str.ofString "__module__"), key := Value.str (Str.ofString "__module__") 371, val := Value.str (Str.ofString "sizechains.errors") 194 }, { hash := PyData.keyHash P (Str.ofString "__firstlineno__"), key := Value.str (Str.ofString "__firstlineno__") 375, val := Value.int 31 374 }, { hash := PyData.keyHash P (Str.ofString "__init__"), key := Value.str (Str.ofString "__init__") 383, val := Value.ref 162 }, { hash := PyData.keyHash P (Str.ofString "__static_attributes__"), key := Value.str (Str.ofString "__static_attributes__") 385, val := Value.ref 163 }, { hash := PyData.keyHash P (Str.ofString "__doc__"), key := Value.str (Str.ofString "__doc__") 386, val := Value.none }] 2 }) ::
  (nat_lit 165, { cls := Value.type "type", data := Data.cls { name := Str.ofString "InvalidSteps", bases := [Value.ref 31], mro := [Value.ref 165, Value.ref 31, Value.type "ValueError", Value.type "Exception", Value.type "BaseException", Value.type "object"], ns := 164, qualname := Str.ofString "InvalidSteps" }, slots := #[some (Value.ref 149), none, some (Value.str (Str.ofString "InvalidSteps") 364), some (Value.str (Str.ofString "InvalidSteps") 372), some (Value.builtin "ValueError.__new__"), some (Value.bool true)] }) ::
  (nat_lit 168, { cls := Value.type "tuple", data := Data.seq #[Value.ref 31] }) ::
  (nat_lit 175, { cls := Value.type "tuple", data := Data.seq #[] }) ::
  (nat_lit 177, { cls := Value.type "tuple", data := Data.seq #[Value.str (Str.ofString "self") 404, Value.str (Str.ofString "value") 405] }) ::
  (nat_lit 178, { cls := Value.type "tuple", data := Data.seq #[] }) ::
  (nat_lit 180, { cls := Value.type "code", data := Data.fields #[Value.str (Str.ofString "__init__") 401, Value.str (Str.ofString "InvalidChain.__init__") 402, Value.str (Str.ofString "/claim/cut.py") 403, Value.int 37 0, Value.int 2 0, Value.int 0 0, Value.int 0 0, Value.int 3 0, Value.ref 175, Value.bool true, Value.int 181 0, Value.ref 176, Value.none, Value.ref 177, Value.ref 178, Value.ref 179, Value.int 406 0, Value.int 37 0, Value.str (Str.ofString "/claim/cut.py") 407] }) ::
  (nat_lit 181, ⟨Value.type "function", none, Data.func (PySem.W.fnOf (Str.ofString "__init__") (Str.ofString "InvalidChain.__init__") (L2.defArgs s_InvalidChain_init) (L2.defBody s_InvalidChain_init) (L2.defScope s_InvalidChain_init) (Value.none) (Value.none) (Value.none) (Value.str (Str.ofString "sizechains.errors") 194) (none) (Value.ref 180) (Value.none)), #[]⟩) ::
  (nat_lit 182, { cls := Value.type "tuple", data := Data.seq #[Value.str (Str.ofString "value") 409] }) ::
  (nat_lit 183, { cls := Value.type "dict", data := Data.dict #[{ hash := PyData.keyHash P (Str.ofString "__module__"), key := Value.str (Str.ofString "__module__") 396, val := Value.str (Str.ofString "sizechains.errors") 194 }, { hash := PyData.keyHash P (Str.ofString "__firstlineno__"), key := Value.str (Str.ofString "__firstlineno__") 400, val := Value.int 35 399 }, { hash := PyData.keyHash P (Str.ofString "__init__"), key := Value.str (Str.ofString "__init__") 408, val := Value.ref 181 }, { hash := PyData.keyHash P (Str.ofString "__static_attributes__"), key := Value.str (Str.ofString "__static_attributes__") 410, val := Value.ref 182 }, { hash := PyData.keyHash P (Str.ofString "__doc__"), key := Value.str (Str.ofString "__doc__") 411, val := Value.none }] 2 }) ::
  (nat_lit 184, { cls := Value.type "type", data := Data.cls { name := Str.ofString "InvalidChain", bases := [Value.ref 31], mro := [Value.ref 184, Value.ref 31, Value.type "ValueError", Value.type "Exception", Value.type "BaseException", Value.type "object"], ns := 183, qualname := Str.ofString "InvalidChain" }, slots := #[some (Value.ref 168), none, some (Value.str (Str.ofString "InvalidChain") 389), some (Value.str (Str.ofString "InvalidChain") 397), some (Value.builtin "ValueError.__new__"), some (Value.bool true)] }) ::
  (nat_lit 187, { cls := Value.type "tuple", data := Data.seq #[Value.ref 31] }) ::
  (nat_lit 194, { cls := Value.type "tuple", data := Data.seq #[] }) ::
  (nat_lit 196, { cls := Value.type "tuple", data := Data.seq #[Value.str (Str.ofString "self") 429, Value.str (Str.ofString "value") 430] }) ::
  (nat_lit 197, { cls := Value.type "tuple", data := Data.seq #[] }) ::
  (nat_lit 199, { cls := Value.type "code", data := Data.fields #[Value.str (Str.ofString "__init__") 426, Value.str (Str.ofString "InvalidText.__init__") 427, Value.str (Str.ofString "/claim/cut.py") 428, Value.int 41 0, Value.int 2 0, Value.int 0 0, Value.int 0 0, Value.int 3 0, Value.ref 194, Value.bool true, Value.int 181 0, Value.ref 195, Value.none, Value.ref 196, Value.ref 197, Value.ref 198, Value.int 431 0, Value.int 41 0, Value.str (Str.ofString "/claim/cut.py") 432] }) ::
  (nat_lit 200, ⟨Value.type "function", none, Data.func (PySem.W.fnOf (Str.ofString "__init__") (Str.ofString "InvalidText.__init__") (L2.defArgs s_InvalidText_init) (L2.defBody s_InvalidText_init) (L2.defScope s_InvalidText_init) (Value.none) (Value.none) (Value.none) (Value.str (Str.ofString "sizechains.errors") 194) (none) (Value.ref 199) (Value.none)), #[]⟩) ::
  (nat_lit 201, { cls := Value.type "tuple", data := Data.seq #[Value.str (Str.ofString "value") 434] }) ::
  (nat_lit 202, { cls := Value.type "dict", data := Data.dict #[{ hash := PyData.keyHash P (Str.ofString "__module__"), key := Value.str (Str.ofString "__module__") 421, val := Value.str (Str.ofString "sizechains.errors") 194 }, { hash := PyData.keyHash P (Str.ofString "__firstlineno__"), key := Value.str (Str.ofString "__firstlineno__") 425, val := Value.int 39 424 }, { hash := PyData.keyHash P (Str.ofString "__init__"), key := Value.str (Str.ofString "__init__") 433, val := Value.ref 200 }, { hash := PyData.keyHash P (Str.ofString "__static_attributes__"), key := Value.str (Str.ofString "__static_attributes__") 435, val := Value.ref 201 }, { hash := PyData.keyHash P (Str.ofString "__doc__"), key := Value.str (Str.ofString "__doc__") 436, val := Value.none }] 2 }) ::
  (nat_lit 203, { cls := Value.type "type", data := Data.cls { name := Str.ofString "InvalidText", bases := [Value.ref 31], mro := [Value.ref 203, Value.ref 31, Value.type "ValueError", Value.type "Exception", Value.type "BaseException", Value.type "object"], ns := 202, qualname := Str.ofString "InvalidText" }, slots := #[some (Value.ref 187), none, some (Value.str (Str.ofString "InvalidText") 414), some (Value.str (Str.ofString "InvalidText") 422), some (Value.builtin "ValueError.__new__"), some (Value.bool true)] }) ::
  (nat_lit 206, { cls := Value.type "tuple", data := Data.seq #[Value.ref 31] }) ::
  (nat_lit 213, { cls := Value.type "tuple", data := Data.seq #[] }) ::
  (nat_lit 215, { cls := Value.type "tuple", data := Data.seq #[Value.str (Str.ofString "self") 454, Value.str (Str.ofString "value") 455] }) ::
  (nat_lit 216, { cls := Value.type "tuple", data := Data.seq #[] }) ::
  (nat_lit 218, { cls := Value.type "code", data := Data.fields #[Value.str (Str.ofString "__init__") 451, Value.str (Str.ofString "InvalidKind.__init__") 452, Value.str (Str.ofString "/claim/cut.py") 453, Value.int 45 0, Value.int 2 0, Value.int 0 0, Value.int 0 0, Value.int 3 0, Value.ref 213, Value.bool true, Value.int 181 0, Value.ref 214, Value.none, Value.ref 215, Value.ref 216, Value.ref 217, Value.int 456 0, Value.int 45 0, Value.str (Str.ofString "/claim/cut.py") 457] }) ::
  (nat_lit 219, ⟨Value.type "function", none, Data.func (PySem.W.fnOf (Str.ofString "__init__") (Str.ofString "InvalidKind.__init__") (L2.defArgs s_InvalidKind_init) (L2.defBody s_InvalidKind_init) (L2.defScope s_InvalidKind_init) (Value.none) (Value.none) (Value.none) (Value.str (Str.ofString "sizechains.errors") 194) (none) (Value.ref 218) (Value.none)), #[]⟩) ::
  (nat_lit 220, { cls := Value.type "tuple", data := Data.seq #[Value.str (Str.ofString "value") 459] }) ::
  (nat_lit 221, { cls := Value.type "dict", data := Data.dict #[{ hash := PyData.keyHash P (Str.ofString "__module__"), key := Value.str (Str.ofString "__module__") 446, val := Value.str (Str.ofString "sizechains.errors") 194 }, { hash := PyData.keyHash P (Str.ofString "__firstlineno__"), key := Value.str (Str.ofString "__firstlineno__") 450, val := Value.int 43 449 }, { hash := PyData.keyHash P (Str.ofString "__init__"), key := Value.str (Str.ofString "__init__") 458, val := Value.ref 219 }, { hash := PyData.keyHash P (Str.ofString "__static_attributes__"), key := Value.str (Str.ofString "__static_attributes__") 460, val := Value.ref 220 }, { hash := PyData.keyHash P (Str.ofString "__doc__"), key := Value.str (Str.ofString "__doc__") 461, val := Value.none }] 2 }) ::
  (nat_lit 222, { cls := Value.type "type", data := Data.cls { name := Str.ofString "InvalidKind", bases := [Value.ref 31], mro := [Value.ref 222, Value.ref 31, Value.type "ValueError", Value.type "Exception", Value.type "BaseException", Value.type "object"], ns := 221, qualname := Str.ofString "InvalidKind" }, slots := #[some (Value.ref 206), none, some (Value.str (Str.ofString "InvalidKind") 439), some (Value.str (Str.ofString "InvalidKind") 447), some (Value.builtin "ValueError.__new__"), some (Value.bool true)] }) ::
  (nat_lit 225, { cls := Value.type "tuple", data := Data.seq #[Value.ref 31] }) ::
  (nat_lit 232, { cls := Value.type "tuple", data := Data.seq #[] }) ::
  (nat_lit 234, { cls := Value.type "tuple", data := Data.seq #[Value.str (Str.ofString "self") 479, Value.str (Str.ofString "index") 480] }) ::
  (nat_lit 235, { cls := Value.type "tuple", data := Data.seq #[] }) ::
  (nat_lit 237, { cls := Value.type "code", data := Data.fields #[Value.str (Str.ofString "__init__") 476, Value.str (Str.ofString "InvalidRecords.__init__") 477, Value.str (Str.ofString "/claim/cut.py") 478, Value.int 49 0, Value.int 2 0, Value.int 0 0, Value.int 0 0, Value.int 3 0, Value.ref 232, Value.bool true, Value.int 181 0, Value.ref 233, Value.none, Value.ref 234, Value.ref 235, Value.ref 236, Value.int 481 0, Value.int 49 0, Value.str (Str.ofString "/claim/cut.py") 482] }) ::
  (nat_lit 238, ⟨Value.type "function", none, Data.func (PySem.W.fnOf (Str.ofString "__init__") (Str.ofString "InvalidRecords.__init__") (L2.defArgs s_InvalidRecords_init) (L2.defBody s_InvalidRecords_init) (L2.defScope s_InvalidRecords_init) (Value.none) (Value.none) (Value.none) (Value.str (Str.ofString "sizechains.errors") 194) (none) (Value.ref 237) (Value.none)), #[]⟩) ::
  (nat_lit 239, { cls := Value.type "tuple", data := Data.seq #[Value.str (Str.ofString "index") 484] }) ::
  (nat_lit 240, { cls := Value.type "dict", data := Data.dict #[{ hash := PyData.keyHash P (Str.ofString "__module__"), key := Value.str (Str.ofString "__module__") 471, val := Value.str (Str.ofString "sizechains.errors") 194 }, { hash := PyData.keyHash P (Str.ofString "__firstlineno__"), key := Value.str (Str.ofString "__firstlineno__") 475, val := Value.int 47 474 }, { hash := PyData.keyHash P (Str.ofString "__init__"), key := Value.str (Str.ofString "__init__") 483, val := Value.ref 238 }, { hash := PyData.keyHash P (Str.ofString "__static_attributes__"), key := Value.str (Str.ofString "__static_attributes__") 485, val := Value.ref 239 }, { hash := PyData.keyHash P (Str.ofString "__doc__"), key := Value.str (Str.ofString "__doc__") 486, val := Value.none }] 2 }) ::
  (nat_lit 241, { cls := Value.type "type", data := Data.cls { name := Str.ofString "InvalidRecords", bases := [Value.ref 31], mro := [Value.ref 241, Value.ref 31, Value.type "ValueError", Value.type "Exception", Value.type "BaseException", Value.type "object"], ns := 240, qualname := Str.ofString "InvalidRecords" }, slots := #[some (Value.ref 225), none, some (Value.str (Str.ofString "InvalidRecords") 464), some (Value.str (Str.ofString "InvalidRecords") 472), some (Value.builtin "ValueError.__new__"), some (Value.bool true)] }) ::
  (nat_lit 244, { cls := Value.type "tuple", data := Data.seq #[Value.ref 31] }) ::
  (nat_lit 251, { cls := Value.type "tuple", data := Data.seq #[] }) ::
  (nat_lit 253, { cls := Value.type "tuple", data := Data.seq #[Value.str (Str.ofString "self") 504, Value.str (Str.ofString "value") 505] }) ::
  (nat_lit 254, { cls := Value.type "tuple", data := Data.seq #[] }) ::
  (nat_lit 256, { cls := Value.type "code", data := Data.fields #[Value.str (Str.ofString "__init__") 501, Value.str (Str.ofString "InvalidName.__init__") 502, Value.str (Str.ofString "/claim/cut.py") 503, Value.int 53 0, Value.int 2 0, Value.int 0 0, Value.int 0 0, Value.int 3 0, Value.ref 251, Value.bool true, Value.int 181 0, Value.ref 252, Value.none, Value.ref 253, Value.ref 254, Value.ref 255, Value.int 506 0, Value.int 53 0, Value.str (Str.ofString "/claim/cut.py") 507] }) ::
  (nat_lit 257, ⟨Value.type "function", none, Data.func (PySem.W.fnOf (Str.ofString "__init__") (Str.ofString "InvalidName.__init__") (L2.defArgs s_InvalidName_init) (L2.defBody s_InvalidName_init) (L2.defScope s_InvalidName_init) (Value.none) (Value.none) (Value.none) (Value.str (Str.ofString "sizechains.errors") 194) (none) (Value.ref 256) (Value.none)), #[]⟩) ::
  (nat_lit 258, { cls := Value.type "tuple", data := Data.seq #[Value.str (Str.ofString "value") 509] }) ::
  (nat_lit 259, { cls := Value.type "dict", data := Data.dict #[{ hash := PyData.keyHash P (Str.ofString "__module__"), key := Value.str (Str.ofString "__module__") 496, val := Value.str (Str.ofString "sizechains.errors") 194 }, { hash := PyData.keyHash P (Str.ofString "__firstlineno__"), key := Value.str (Str.ofString "__firstlineno__") 500, val := Value.int 51 499 }, { hash := PyData.keyHash P (Str.ofString "__init__"), key := Value.str (Str.ofString "__init__") 508, val := Value.ref 257 }, { hash := PyData.keyHash P (Str.ofString "__static_attributes__"), key := Value.str (Str.ofString "__static_attributes__") 510, val := Value.ref 258 }, { hash := PyData.keyHash P (Str.ofString "__doc__"), key := Value.str (Str.ofString "__doc__") 511, val := Value.none }] 2 }) ::
  (nat_lit 260, { cls := Value.type "type", data := Data.cls { name := Str.ofString "InvalidName", bases := [Value.ref 31], mro := [Value.ref 260, Value.ref 31, Value.type "ValueError", Value.type "Exception", Value.type "BaseException", Value.type "object"], ns := 259, qualname := Str.ofString "InvalidName" }, slots := #[some (Value.ref 244), none, some (Value.str (Str.ofString "InvalidName") 489), some (Value.str (Str.ofString "InvalidName") 497), some (Value.builtin "ValueError.__new__"), some (Value.bool true)] }) ::
  (nat_lit 263, { cls := Value.type "tuple", data := Data.seq #[Value.ref 31] }) ::
  (nat_lit 270, { cls := Value.type "tuple", data := Data.seq #[] }) ::
  (nat_lit 272, { cls := Value.type "tuple", data := Data.seq #[Value.str (Str.ofString "self") 529, Value.str (Str.ofString "index") 530] }) ::
  (nat_lit 273, { cls := Value.type "tuple", data := Data.seq #[] }) ::
  (nat_lit 275, { cls := Value.type "code", data := Data.fields #[Value.str (Str.ofString "__init__") 526, Value.str (Str.ofString "InvalidDeeds.__init__") 527, Value.str (Str.ofString "/claim/cut.py") 528, Value.int 57 0, Value.int 2 0, Value.int 0 0, Value.int 0 0, Value.int 3 0, Value.ref 270, Value.bool true, Value.int 181 0, Value.ref 271, Value.none, Value.ref 272, Value.ref 273, Value.ref 274, Value.int 531 0, Value.int 57 0, Value.str (Str.ofString "/claim/cut.py") 532] }) ::
  (nat_lit 276, ⟨Value.type "function", none, Data.func (PySem.W.fnOf (Str.ofString "__init__") (Str.ofString "InvalidDeeds.__init__") (L2.defArgs s_InvalidDeeds_init) (L2.defBody s_InvalidDeeds_init) (L2.defScope s_InvalidDeeds_init) (Value.none) (Value.none) (Value.none) (Value.str (Str.ofString "sizechains.errors") 194) (none) (Value.ref 275) (Value.none)), #[]⟩) ::
  (nat_lit 277, { cls := Value.type "tuple", data := Data.seq #[Value.str (Str.ofString "index") 534] }) ::
  (nat_lit 278, { cls := Value.type "dict", data := Data.dict #[{ hash := PyData.keyHash P (Str.ofString "__module__"), key := Value.str (Str.ofString "__module__") 521, val := Value.str (Str.ofString "sizechains.errors") 194 }, { hash := PyData.keyHash P (Str.ofString "__firstlineno__"), key := Value.str (Str.ofString "__firstlineno__") 525, val := Value.int 55 524 }, { hash := PyData.keyHash P (Str.ofString "__init__"), key := Value.str (Str.ofString "__init__") 533, val := Value.ref 276 }, { hash := PyData.keyHash P (Str.ofString "__static_attributes__"), key := Value.str (Str.ofString "__static_attributes__") 535, val := Value.ref 277 }, { hash := PyData.keyHash P (Str.ofString "__doc__"), key := Value.str (Str.ofString "__doc__") 536, val := Value.none }] 2 }) ::
  (nat_lit 279, { cls := Value.type "type", data := Data.cls { name := Str.ofString "InvalidDeeds", bases := [Value.ref 31], mro := [Value.ref 279, Value.ref 31, Value.type "ValueError", Value.type "Exception", Value.type "BaseException", Value.type "object"], ns := 278, qualname := Str.ofString "InvalidDeeds" }, slots := #[some (Value.ref 263), none, some (Value.str (Str.ofString "InvalidDeeds") 514), some (Value.str (Str.ofString "InvalidDeeds") 522), some (Value.builtin "ValueError.__new__"), some (Value.bool true)] }) ::
  (nat_lit 282, { cls := Value.type "tuple", data := Data.seq #[Value.ref 31] }) ::
  (nat_lit 289, { cls := Value.type "tuple", data := Data.seq #[] }) ::
  (nat_lit 291, { cls := Value.type "tuple", data := Data.seq #[Value.str (Str.ofString "self") 554, Value.str (Str.ofString "value") 555] }) ::
  (nat_lit 292, { cls := Value.type "tuple", data := Data.seq #[] }) ::
  (nat_lit 294, { cls := Value.type "code", data := Data.fields #[Value.str (Str.ofString "__init__") 551, Value.str (Str.ofString "InvalidLine.__init__") 552, Value.str (Str.ofString "/claim/cut.py") 553, Value.int 61 0, Value.int 2 0, Value.int 0 0, Value.int 0 0, Value.int 3 0, Value.ref 289, Value.bool true, Value.int 181 0, Value.ref 290, Value.none, Value.ref 291, Value.ref 292, Value.ref 293, Value.int 556 0, Value.int 61 0, Value.str (Str.ofString "/claim/cut.py") 557] }) ::
  (nat_lit 295, ⟨Value.type "function", none, Data.func (PySem.W.fnOf (Str.ofString "__init__") (Str.ofString "InvalidLine.__init__") (L2.defArgs s_InvalidLine_init) (L2.defBody s_InvalidLine_init) (L2.defScope s_InvalidLine_init) (Value.none) (Value.none) (Value.none) (Value.str (Str.ofString "sizechains.errors") 194) (none) (Value.ref 294) (Value.none)), #[]⟩) ::
  (nat_lit 296, { cls := Value.type "tuple", data := Data.seq #[Value.str (Str.ofString "value") 559] }) ::
  (nat_lit 297, { cls := Value.type "dict", data := Data.dict #[{ hash := PyData.keyHash P (Str.ofString "__module__"), key := Value.str (Str.ofString "__module__") 546, val := Value.str (Str.ofString "sizechains.errors") 194 }, { hash := PyData.keyHash P (Str.ofString "__firstlineno__"), key := Value.str (Str.ofString "__firstlineno__") 550, val := Value.int 59 549 }, { hash := PyData.keyHash P (Str.ofString "__init__"), key := Value.str (Str.ofString "__init__") 558, val := Value.ref 295 }, { hash := PyData.keyHash P (Str.ofString "__static_attributes__"), key := Value.str (Str.ofString "__static_attributes__") 560, val := Value.ref 296 }, { hash := PyData.keyHash P (Str.ofString "__doc__"), key := Value.str (Str.ofString "__doc__") 561, val := Value.none }] 2 }) ::
  (nat_lit 298, { cls := Value.type "type", data := Data.cls { name := Str.ofString "InvalidLine", bases := [Value.ref 31], mro := [Value.ref 298, Value.ref 31, Value.type "ValueError", Value.type "Exception", Value.type "BaseException", Value.type "object"], ns := 297, qualname := Str.ofString "InvalidLine" }, slots := #[some (Value.ref 282), none, some (Value.str (Str.ofString "InvalidLine") 539), some (Value.str (Str.ofString "InvalidLine") 547), some (Value.builtin "ValueError.__new__"), some (Value.bool true)] }) ::
  (nat_lit 301, { cls := Value.type "tuple", data := Data.seq #[Value.type "LookupError"] }) ::
  (nat_lit 308, { cls := Value.type "tuple", data := Data.seq #[] }) ::
  (nat_lit 309, { cls := Value.type "dict", data := Data.dict #[{ hash := PyData.keyHash P (Str.ofString "__module__"), key := Value.str (Str.ofString "__module__") 571, val := Value.str (Str.ofString "sizechains.errors") 194 }, { hash := PyData.keyHash P (Str.ofString "__firstlineno__"), key := Value.str (Str.ofString "__firstlineno__") 575, val := Value.int 63 574 }, { hash := PyData.keyHash P (Str.ofString "__static_attributes__"), key := Value.str (Str.ofString "__static_attributes__") 576, val := Value.ref 308 }, { hash := PyData.keyHash P (Str.ofString "__weakref__"), key := Value.str (Str.ofString "__weakref__") 578, val := Value.ref 311 }, { hash := PyData.keyHash P (Str.ofString "__doc__"), key := Value.str (Str.ofString "__doc__") 579, val := Value.none }] 3 }) ::
  (nat_lit 310, { cls := Value.type "type", data := Data.cls { name := Str.ofString "FindError", bases := [Value.type "LookupError"], mro := [Value.ref 310, Value.type "LookupError", Value.type "Exception", Value.type "BaseException", Value.type "object"], ns := 309, qualname := Str.ofString "FindError", subclasses := [Value.ref 330, Value.ref 349, Value.ref 368, Value.ref 380] }, slots := #[some (Value.ref 301), none, some (Value.str (Str.ofString "FindError") 564), some (Value.str (Str.ofString "FindError") 572), some (Value.builtin "LookupError.__new__"), some (Value.bool true)] }) ::
  (nat_lit 311, { cls := Value.type "getset_descriptor", data := Data.fields #[Value.str (Str.ofString "__weakref__") 577, Value.ref 310, Value.builtin "ExceptionGroup.__weakref__", Value.none] }) ::
  (nat_lit 314, { cls := Value.type "tuple", data := Data.seq #[Value.ref 310] }) ::
  (nat_lit 321, { cls := Value.type "tuple", data := Data.seq #[] }) ::
  (nat_lit 323, { cls := Value.type "tuple", data := Data.seq #[Value.str (Str.ofString "self") 597, Value.str (Str.ofString "value") 598] }) ::
  (nat_lit 324, { cls := Value.type "tuple", data := Data.seq #[] }) ::
  (nat_lit 326, { cls := Value.type "code", data := Data.fields #[Value.str (Str.ofString "__init__") 594, Value.str (Str.ofString "NoStep.__init__") 595, Value.str (Str.ofString "/claim/cut.py") 596, Value.int 67 0, Value.int 2 0, Value.int 0 0, Value.int 0 0, Value.int 3 0, Value.ref 321, Value.bool true, Value.int 181 0, Value.ref 322, Value.none, Value.ref 323, Value.ref 324, Value.ref 325, Value.int 599 0, Value.int 67 0, Value.str (Str.ofString "/claim/cut.py") 600] }) ::
  (nat_lit 327, ⟨Value.type "function", none, Data.func (PySem.W.fnOf (Str.ofString "__init__") (Str.ofString "NoStep.__init__") (L2.defArgs s_NoStep_init) (L2.defBody s_NoStep_init) (L2.defScope s_NoStep_init) (Value.none) (Value.none) (Value.none) (Value.str (Str.ofString "sizechains.errors") 194) (none) (Value.ref 326) (Value.none)), #[]⟩) ::
  (nat_lit 328, { cls := Value.type "tuple", data := Data.seq #[Value.str (Str.ofString "value") 602] }) ::
  (nat_lit 329, { cls := Value.type "dict", data := Data.dict #[{ hash := PyData.keyHash P (Str.ofString "__module__"), key := Value.str (Str.ofString "__module__") 589, val := Value.str (Str.ofString "sizechains.errors") 194 }, { hash := PyData.keyHash P (Str.ofString "__firstlineno__"), key := Value.str (Str.ofString "__firstlineno__") 593, val := Value.int 65 592 }, { hash := PyData.keyHash P (Str.ofString "__init__"), key := Value.str (Str.ofString "__init__") 601, val := Value.ref 327 }, { hash := PyData.keyHash P (Str.ofString "__static_attributes__"), key := Value.str (Str.ofString "__static_attributes__") 603, val := Value.ref 328 }, { hash := PyData.keyHash P (Str.ofString "__doc__"), key := Value.str (Str.ofString "__doc__") 604, val := Value.none }] 2 }) ::
  (nat_lit 330, { cls := Value.type "type", data := Data.cls { name := Str.ofString "NoStep", bases := [Value.ref 310], mro := [Value.ref 330, Value.ref 310, Value.type "LookupError", Value.type "Exception", Value.type "BaseException", Value.type "object"], ns := 329, qualname := Str.ofString "NoStep" }, slots := #[some (Value.ref 314), none, some (Value.str (Str.ofString "NoStep") 582), some (Value.str (Str.ofString "NoStep") 590), some (Value.builtin "LookupError.__new__"), some (Value.bool true)] }) ::
  (nat_lit 333, { cls := Value.type "tuple", data := Data.seq #[Value.ref 310] }) ::
  (nat_lit 340, { cls := Value.type "tuple", data := Data.seq #[] }) ::
  (nat_lit 342, { cls := Value.type "tuple", data := Data.seq #[Value.str (Str.ofString "self") 622, Value.str (Str.ofString "value") 623] }) ::
  (nat_lit 343, { cls := Value.type "tuple", data := Data.seq #[] }) ::
  (nat_lit 345, { cls := Value.type "code", data := Data.fields #[Value.str (Str.ofString "__init__") 619, Value.str (Str.ofString "UnknownName.__init__") 620, Value.str (Str.ofString "/claim/cut.py") 621, Value.int 71 0, Value.int 2 0, Value.int 0 0, Value.int 0 0, Value.int 3 0, Value.ref 340, Value.bool true, Value.int 181 0, Value.ref 341, Value.none, Value.ref 342, Value.ref 343, Value.ref 344, Value.int 624 0, Value.int 71 0, Value.str (Str.ofString "/claim/cut.py") 625] }) ::
  (nat_lit 346, ⟨Value.type "function", none, Data.func (PySem.W.fnOf (Str.ofString "__init__") (Str.ofString "UnknownName.__init__") (L2.defArgs s_UnknownName_init) (L2.defBody s_UnknownName_init) (L2.defScope s_UnknownName_init) (Value.none) (Value.none) (Value.none) (Value.str (Str.ofString "sizechains.errors") 194) (none) (Value.ref 345) (Value.none)), #[]⟩) ::
  (nat_lit 347, { cls := Value.type "tuple", data := Data.seq #[Value.str (Str.ofString "value") 627] }) ::
  (nat_lit 348, { cls := Value.type "dict", data := Data.dict #[{ hash := PyData.keyHash P (Str.ofString "__module__"), key := Value.str (Str.ofString "__module__") 614, val := Value.str (Str.ofString "sizechains.errors") 194 }, { hash := PyData.keyHash P (Str.ofString "__firstlineno__"), key := Value.str (Str.ofString "__firstlineno__") 618, val := Value.int 69 617 }, { hash := PyData.keyHash P (Str.ofString "__init__"), key := Value.str (Str.ofString "__init__") 626, val := Value.ref 346 }, { hash := PyData.keyHash P (Str.ofString "__static_attributes__"), key := Value.str (Str.ofString "__static_attributes__") 628, val := Value.ref 347 }, { hash := PyData.keyHash P (Str.ofString "__doc__"), key := Value.str (Str.ofString "__doc__") 629, val := Value.none }] 2 }) ::
  (nat_lit 349, { cls := Value.type "type", data := Data.cls { name := Str.ofString "UnknownName", bases := [Value.ref 310], mro := [Value.ref 349, Value.ref 310, Value.type "LookupError", Value.type "Exception", Value.type "BaseException", Value.type "object"], ns := 348, qualname := Str.ofString "UnknownName" }, slots := #[some (Value.ref 333), none, some (Value.str (Str.ofString "UnknownName") 607), some (Value.str (Str.ofString "UnknownName") 615), some (Value.builtin "LookupError.__new__"), some (Value.bool true)] }) ::
  (nat_lit 352, { cls := Value.type "tuple", data := Data.seq #[Value.ref 310] }) ::
  (nat_lit 359, { cls := Value.type "tuple", data := Data.seq #[] }) ::
  (nat_lit 361, { cls := Value.type "tuple", data := Data.seq #[Value.str (Str.ofString "self") 647, Value.str (Str.ofString "value") 648] }) ::
  (nat_lit 362, { cls := Value.type "tuple", data := Data.seq #[] }) ::
  (nat_lit 364, { cls := Value.type "code", data := Data.fields #[Value.str (Str.ofString "__init__") 644, Value.str (Str.ofString "NameTaken.__init__") 645, Value.str (Str.ofString "/claim/cut.py") 646, Value.int 75 0, Value.int 2 0, Value.int 0 0, Value.int 0 0, Value.int 3 0, Value.ref 359, Value.bool true, Value.int 181 0, Value.ref 360, Value.none, Value.ref 361, Value.ref 362, Value.ref 363, Value.int 649 0, Value.int 75 0, Value.str (Str.ofString "/claim/cut.py") 650] }) ::
  (nat_lit 365, ⟨Value.type "function", none, Data.func (PySem.W.fnOf (Str.ofString "__init__") (Str.ofString "NameTaken.__init__") (L2.defArgs s_NameTaken_init) (L2.defBody s_NameTaken_init) (L2.defScope s_NameTaken_init) (Value.none) (Value.none) (Value.none) (Value.str (Str.ofString "sizechains.errors") 194) (none) (Value.ref 364) (Value.none)), #[]⟩) ::
  (nat_lit 366, { cls := Value.type "tuple", data := Data.seq #[Value.str (Str.ofString "value") 652] }) ::
  (nat_lit 367, { cls := Value.type "dict", data := Data.dict #[{ hash := PyData.keyHash P (Str.ofString "__module__"), key := Value.str (Str.ofString "__module__") 639, val := Value.str (Str.ofString "sizechains.errors") 194 }, { hash := PyData.keyHash P (Str.ofString "__firstlineno__"), key := Value.str (Str.ofString "__firstlineno__") 643, val := Value.int 73 642 }, { hash := PyData.keyHash P (Str.ofString "__init__"), key := Value.str (Str.ofString "__init__") 651, val := Value.ref 365 }, { hash := PyData.keyHash P (Str.ofString "__static_attributes__"), key := Value.str (Str.ofString "__static_attributes__") 653, val := Value.ref 366 }, { hash := PyData.keyHash P (Str.ofString "__doc__"), key := Value.str (Str.ofString "__doc__") 654, val := Value.none }] 2 }) ::
  (nat_lit 368, { cls := Value.type "type", data := Data.cls { name := Str.ofString "NameTaken", bases := [Value.ref 310], mro := [Value.ref 368, Value.ref 310, Value.type "LookupError", Value.type "Exception", Value.type "BaseException", Value.type "object"], ns := 367, qualname := Str.ofString "NameTaken" }, slots := #[some (Value.ref 352), none, some (Value.str (Str.ofString "NameTaken") 632), some (Value.str (Str.ofString "NameTaken") 640), some (Value.builtin "LookupError.__new__"), some (Value.bool true)] }) ::
  (nat_lit 371, { cls := Value.type "tuple", data := Data.seq #[Value.ref 310] }) ::
  (nat_lit 378, { cls := Value.type "tuple", data := Data.seq #[] }) ::
  (nat_lit 379, { cls := Value.type "dict", data := Data.dict #[{ hash := PyData.keyHash P (Str.ofString "__module__"), key := Value.str (Str.ofString "__module__") 664, val := Value.str (Str.ofString "sizechains.errors") 194 }, { hash := PyData.keyHash P (Str.ofString "__firstlineno__"), key := Value.str (Str.ofString "__firstlineno__") 668, val := Value.int 77 667 }, { hash := PyData.keyHash P (Str.ofString "__static_attributes__"), key := Value.str (Str.ofString "__static_attributes__") 669, val := Value.ref 378 }, { hash := PyData.keyHash P (Str.ofString "__doc__"), key := Value.str (Str.ofString "__doc__") 670, val := Value.none }] 2 }) ::
  (nat_lit 380, { cls := Value.type "type", data := Data.cls { name := Str.ofString "NothingToUndo", bases := [Value.ref 310], mro := [Value.ref 380, Value.ref 310, Value.type "LookupError", Value.type "Exception", Value.type "BaseException", Value.type "object"], ns := 379, qualname := Str.ofString "NothingToUndo" }, slots := #[some (Value.ref 371), none, some (Value.str (Str.ofString "NothingToUndo") 657), some (Value.str (Str.ofString "NothingToUndo") 665), some (Value.builtin "LookupError.__new__"), some (Value.bool true)] }) ::
  (nat_lit 383, { cls := Value.type "tuple", data := Data.seq #[Value.type "ArithmeticError"] }) ::
  (nat_lit 390, { cls := Value.type "tuple", data := Data.seq #[] }) ::
  (nat_lit 391, { cls := Value.type "dict", data := Data.dict #[{ hash := PyData.keyHash P (Str.ofString "__module__"), key := Value.str (Str.ofString "__module__") 680, val := Value.str (Str.ofString "sizechains.errors") 194 }, { hash := PyData.keyHash P (Str.ofString "__firstlineno__"), key := Value.str (Str.ofString "__firstlineno__") 684, val := Value.int 79 683 }, { hash := PyData.keyHash P (Str.ofString "__static_attributes__"), key := Value.str (Str.ofString "__static_attributes__") 685, val := Value.ref 390 }, { hash := PyData.keyHash P (Str.ofString "__weakref__"), key := Value.str (Str.ofString "__weakref__") 687, val := Value.ref 393 }, { hash := PyData.keyHash P (Str.ofString "__doc__"), key := Value.str (Str.ofString "__doc__") 688, val := Value.none }] 3 }) ::
  (nat_lit 392, { cls := Value.type "type", data := Data.cls { name := Str.ofString "LimitError", bases := [Value.type "ArithmeticError"], mro := [Value.ref 392, Value.type "ArithmeticError", Value.type "Exception", Value.type "BaseException", Value.type "object"], ns := 391, qualname := Str.ofString "LimitError", subclasses := [Value.ref 412, Value.ref 431] }, slots := #[some (Value.ref 383), none, some (Value.str (Str.ofString "LimitError") 673), some (Value.str (Str.ofString "LimitError") 681), some (Value.builtin "ArithmeticError.__new__"), some (Value.bool true)] }) ::
  (nat_lit 393, { cls := Value.type "getset_descriptor", data := Data.fields #[Value.str (Str.ofString "__weakref__") 686, Value.ref 392, Value.builtin "ExceptionGroup.__weakref__", Value.none] }) ::
  (nat_lit 396, { cls := Value.type "tuple", data := Data.seq #[Value.ref 392] }) ::
  (nat_lit 403, { cls := Value.type "tuple", data := Data.seq #[] }) ::
  (nat_lit 405, { cls := Value.type "tuple", data := Data.seq #[Value.str (Str.ofString "self") 708, Value.str (Str.ofString "count") 709] }) ::
  (nat_lit 406, { cls := Value.type "tuple", data := Data.seq #[] }) ::
  (nat_lit 408, { cls := Value.type "code", data := Data.fields #[Value.str (Str.ofString "__init__") 705, Value.str (Str.ofString "TooManySteps.__init__") 706, Value.str (Str.ofString "/claim/cut.py") 707, Value.int 83 0, Value.int 2 0, Value.int 0 0, Value.int 0 0, Value.int 3 0, Value.ref 403, Value.bool true, Value.int 181 0, Value.ref 404, Value.none, Value.ref 405, Value.ref 406, Value.ref 407, Value.int 710 0, Value.int 83 0, Value.str (Str.ofString "/claim/cut.py") 711] }) ::
  (nat_lit 409, ⟨Value.type "function", none, Data.func (PySem.W.fnOf (Str.ofString "__init__") (Str.ofString "TooManySteps.__init__") (L2.defArgs s_TooManySteps_init) (L2.defBody s_TooManySteps_init) (L2.defScope s_TooManySteps_init) (Value.none) (Value.none) (Value.none) (Value.str (Str.ofString "sizechains.errors") 194) (none) (Value.ref 408) (Value.none)), #[]⟩) ::
  (nat_lit 410, { cls := Value.type "tuple", data := Data.seq #[Value.str (Str.ofString "count") 713] }) ::
  (nat_lit 411, { cls := Value.type "dict", data := Data.dict #[{ hash := PyData.keyHash P (Str.ofString "__module__"), key := Value.str (Str.ofString "__module__") 700, val := Value.str (Str.ofString "sizechains.errors") 194 }, { hash := PyData.keyHash P (Str.ofString "__firstlineno__"), key := Value.str (Str.ofString "__firstlineno__") 704, val := Value.int 81 703 }, { hash := PyData.keyHash P (Str.ofString "__init__"), key := Value.str (Str.ofString "__init__") 712, val := Value.ref 409 }, { hash := PyData.keyHash P (Str.ofString "__static_attributes__"), key := Value.str (Str.ofString "__static_attributes__") 714, val := Value.ref 410 }, { hash := PyData.keyHash P (Str.ofString "__doc__"), key := Value.str (Str.ofString "__doc__") 715, val := Value.none }] 2 }) ::
  (nat_lit 412, { cls := Value.type "type", data := Data.cls { name := Str.ofString "TooManySteps", bases := [Value.ref 392], mro := [Value.ref 412, Value.ref 392, Value.type "ArithmeticError", Value.type "Exception", Value.type "BaseException", Value.type "object"], ns := 411, qualname := Str.ofString "TooManySteps" }, slots := #[some (Value.ref 396), none, some (Value.str (Str.ofString "TooManySteps") 693), some (Value.str (Str.ofString "TooManySteps") 701), some (Value.builtin "ArithmeticError.__new__"), some (Value.bool true)] }) ::
  (nat_lit 415, { cls := Value.type "tuple", data := Data.seq #[Value.ref 392] }) ::
  (nat_lit 422, { cls := Value.type "tuple", data := Data.seq #[] }) ::
  (nat_lit 424, { cls := Value.type "tuple", data := Data.seq #[Value.str (Str.ofString "self") 733, Value.str (Str.ofString "count") 734] }) ::
  (nat_lit 425, { cls := Value.type "tuple", data := Data.seq #[] }) ::
  (nat_lit 427, { cls := Value.type "code", data := Data.fields #[Value.str (Str.ofString "__init__") 730, Value.str (Str.ofString "TooManyDeeds.__init__") 731, Value.str (Str.ofString "/claim/cut.py") 732, Value.int 87 0, Value.int 2 0, Value.int 0 0, Value.int 0 0, Value.int 3 0, Value.ref 422, Value.bool true, Value.int 181 0, Value.ref 423, Value.none, Value.ref 424, Value.ref 425, Value.ref 426, Value.int 735 0, Value.int 87 0, Value.str (Str.ofString "/claim/cut.py") 736] }) ::
  (nat_lit 428, ⟨Value.type "function", none, Data.func (PySem.W.fnOf (Str.ofString "__init__") (Str.ofString "TooManyDeeds.__init__") (L2.defArgs s_TooManyDeeds_init) (L2.defBody s_TooManyDeeds_init) (L2.defScope s_TooManyDeeds_init) (Value.none) (Value.none) (Value.none) (Value.str (Str.ofString "sizechains.errors") 194) (none) (Value.ref 427) (Value.none)), #[]⟩) ::
  (nat_lit 429, { cls := Value.type "tuple", data := Data.seq #[Value.str (Str.ofString "count") 738] }) ::
  (nat_lit 430, { cls := Value.type "dict", data := Data.dict #[{ hash := PyData.keyHash P (Str.ofString "__module__"), key := Value.str (Str.ofString "__module__") 725, val := Value.str (Str.ofString "sizechains.errors") 194 }, { hash := PyData.keyHash P (Str.ofString "__firstlineno__"), key := Value.str (Str.ofString "__firstlineno__") 729, val := Value.int 85 728 }, { hash := PyData.keyHash P (Str.ofString "__init__"), key := Value.str (Str.ofString "__init__") 737, val := Value.ref 428 }, { hash := PyData.keyHash P (Str.ofString "__static_attributes__"), key := Value.str (Str.ofString "__static_attributes__") 739, val := Value.ref 429 }, { hash := PyData.keyHash P (Str.ofString "__doc__"), key := Value.str (Str.ofString "__doc__") 740, val := Value.none }] 2 }) ::
  (nat_lit 431, { cls := Value.type "type", data := Data.cls { name := Str.ofString "TooManyDeeds", bases := [Value.ref 392], mro := [Value.ref 431, Value.ref 392, Value.type "ArithmeticError", Value.type "Exception", Value.type "BaseException", Value.type "object"], ns := 430, qualname := Str.ofString "TooManyDeeds" }, slots := #[some (Value.ref 415), none, some (Value.str (Str.ofString "TooManyDeeds") 718), some (Value.str (Str.ofString "TooManyDeeds") 726), some (Value.builtin "ArithmeticError.__new__"), some (Value.bool true)] }) ::
  (nat_lit 434, { cls := Value.type "tuple", data := Data.seq #[] }) ::
  (nat_lit 436, { cls := Value.type "tuple", data := Data.seq #[Value.str (Str.ofString "value") 748] }) ::
  (nat_lit 437, { cls := Value.type "tuple", data := Data.seq #[] }) ::
  (nat_lit 439, { cls := Value.type "code", data := Data.fields #[Value.str (Str.ofString "is_integer") 745, Value.str (Str.ofString "is_integer") 746, Value.str (Str.ofString "/claim/cut.py") 747, Value.int 90 0, Value.int 1 0, Value.int 0 0, Value.int 0 0, Value.int 3 0, Value.ref 434, Value.bool true, Value.int 181 0, Value.ref 435, Value.none, Value.ref 436, Value.ref 437, Value.ref 438, Value.int 749 0, Value.int 90 0, Value.str (Str.ofString "/claim/cut.py") 750] }) ::
  (nat_lit 440, ⟨Value.type "function", none, Data.func (PySem.W.fnOf (Str.ofString "is_integer") (Str.ofString "is_integer") (L2.defArgs s_is_integer) (L2.defBody s_is_integer) (L2.defScope s_is_integer) (Value.none) (Value.none) (Value.none) (Value.str (Str.ofString "sizechains.exact") 743) (none) (Value.ref 439) (Value.none)), #[]⟩) ::
  (nat_lit 441, { cls := Value.type "tuple", data := Data.seq #[] }) ::
  (nat_lit 443, { cls := Value.type "tuple", data := Data.seq #[Value.str (Str.ofString "value") 755] }) ::
  (nat_lit 444, { cls := Value.type "tuple", data := Data.seq #[] }) ::
  (nat_lit 446, { cls := Value.type "code", data := Data.fields #[Value.str (Str.ofString "is_positive") 752, Value.str (Str.ofString "is_positive") 753, Value.str (Str.ofString "/claim/cut.py") 754, Value.int 92 0, Value.int 1 0, Value.int 0 0, Value.int 0 0, Value.int 3 0, Value.ref 441, Value.bool true, Value.int 181 0, Value.ref 442, Value.none, Value.ref 443, Value.ref 444, Value.ref 445, Value.int 756 0, Value.int 92 0, Value.str (Str.ofString "/claim/cut.py") 757] }) ::
  (nat_lit 447, ⟨Value.type "function", none, Data.func (PySem.W.fnOf (Str.ofString "is_positive") (Str.ofString "is_positive") (L2.defArgs s_is_positive) (L2.defBody s_is_positive) (L2.defScope s_is_positive) (Value.none) (Value.none) (Value.none) (Value.str (Str.ofString "sizechains.exact") 743) (none) (Value.ref 446) (Value.none)), #[]⟩) ::
  (nat_lit 448, { cls := Value.type "tuple", data := Data.seq #[] }) ::
  (nat_lit 450, { cls := Value.type "tuple", data := Data.seq #[Value.str (Str.ofString "one") 762, Value.str (Str.ofString "other") 763] }) ::
  (nat_lit 451, { cls := Value.type "tuple", data := Data.seq #[] }) ::
  (nat_lit 453, { cls := Value.type "code", data := Data.fields #[Value.str (Str.ofString "common_divisor") 759, Value.str (Str.ofString "common_divisor") 760, Value.str (Str.ofString "/claim/cut.py") 761, Value.int 94 0, Value.int 2 0, Value.int 0 0, Value.int 0 0, Value.int 3 0, Value.ref 448, Value.bool true, Value.int 181 0, Value.ref 449, Value.none, Value.ref 450, Value.ref 451, Value.ref 452, Value.int 764 0, Value.int 94 0, Value.str (Str.ofString "/claim/cut.py") 765] }) ::
  (nat_lit 454, ⟨Value.type "function", none, Data.func (PySem.W.fnOf (Str.ofString "common_divisor") (Str.ofString "common_divisor") (L2.defArgs s_common_divisor) (L2.defBody s_common_divisor) (L2.defScope s_common_divisor) (Value.none) (Value.none) (Value.none) (Value.str (Str.ofString "sizechains.exact") 743) (none) (Value.ref 453) (Value.none)), #[]⟩) ::
  (nat_lit 455, { cls := Value.type "tuple", data := Data.seq #[] }) ::
  (nat_lit 457, { cls := Value.type "tuple", data := Data.seq #[Value.str (Str.ofString "top") 770, Value.str (Str.ofString "bottom") 771, Value.str (Str.ofString "divisor") 772] }) ::
  (nat_lit 458, { cls := Value.type "tuple", data := Data.seq #[] }) ::
  (nat_lit 460, { cls := Value.type "code", data := Data.fields #[Value.str (Str.ofString "lowest_terms") 767, Value.str (Str.ofString "lowest_terms") 768, Value.str (Str.ofString "/claim/cut.py") 769, Value.int 98 0, Value.int 2 0, Value.int 0 0, Value.int 0 0, Value.int 3 0, Value.ref 455, Value.bool true, Value.int 181 0, Value.ref 456, Value.none, Value.ref 457, Value.ref 458, Value.ref 459, Value.int 773 0, Value.int 98 0, Value.str (Str.ofString "/claim/cut.py") 774] }) ::
  (nat_lit 461, ⟨Value.type "function", none, Data.func (PySem.W.fnOf (Str.ofString "lowest_terms") (Str.ofString "lowest_terms") (L2.defArgs s_lowest_terms) (L2.defBody s_lowest_terms) (L2.defScope s_lowest_terms) (Value.none) (Value.none) (Value.none) (Value.str (Str.ofString "sizechains.exact") 743) (none) (Value.ref 460) (Value.none)), #[]⟩) ::
  (nat_lit 462, { cls := Value.type "tuple", data := Data.seq #[] }) ::
  (nat_lit 464, { cls := Value.type "tuple", data := Data.seq #[Value.str (Str.ofString "value") 779, Value.str (Str.ofString "top") 780, Value.str (Str.ofString "bottom") 781] }) ::
  (nat_lit 465, { cls := Value.type "tuple", data := Data.seq #[] }) ::
  (nat_lit 467, { cls := Value.type "code", data := Data.fields #[Value.str (Str.ofString "is_fraction") 776, Value.str (Str.ofString "is_fraction") 777, Value.str (Str.ofString "/claim/cut.py") 778, Value.int 101 0, Value.int 1 0, Value.int 0 0, Value.int 0 0, Value.int 3 0, Value.ref 462, Value.bool true, Value.int 181 0, Value.ref 463, Value.none, Value.ref 464, Value.ref 465, Value.ref 466, Value.int 782 0, Value.int 101 0, Value.str (Str.ofString "/claim/cut.py") 783] }) ::
  (nat_lit 468, ⟨Value.type "function", none, Data.func (PySem.W.fnOf (Str.ofString "is_fraction") (Str.ofString "is_fraction") (L2.defArgs s_is_fraction) (L2.defBody s_is_fraction) (L2.defScope s_is_fraction) (Value.none) (Value.none) (Value.none) (Value.str (Str.ofString "sizechains.exact") 743) (none) (Value.ref 467) (Value.none)), #[]⟩) ::
  (nat_lit 469, { cls := Value.type "tuple", data := Data.seq #[] }) ::
  (nat_lit 471, { cls := Value.type "tuple", data := Data.seq #[Value.str (Str.ofString "values") 788, Value.str (Str.ofString "value") 789] }) ::
  (nat_lit 472, { cls := Value.type "tuple", data := Data.seq #[] }) ::
  (nat_lit 474, { cls := Value.type "code", data := Data.fields #[Value.str (Str.ofString "check_fractions") 785, Value.str (Str.ofString "check_fractions") 786, Value.str (Str.ofString "/claim/cut.py") 787, Value.int 108 0, Value.int 1 0, Value.int 0 0, Value.int 0 0, Value.int 3 0, Value.ref 469, Value.bool true, Value.int 181 0, Value.ref 470, Value.none, Value.ref 471, Value.ref 472, Value.ref 473, Value.int 790 0, Value.int 108 0, Value.str (Str.ofString "/claim/cut.py") 791] }) ::
  (nat_lit 475, ⟨Value.type "function", none, Data.func (PySem.W.fnOf (Str.ofString "check_fractions") (Str.ofString "check_fractions") (L2.defArgs s_check_fractions) (L2.defBody s_check_fractions) (L2.defScope s_check_fractions) (Value.none) (Value.none) (Value.none) (Value.str (Str.ofString "sizechains.exact") 743) (none) (Value.ref 474) (Value.none)), #[]⟩) ::
  (nat_lit 476, { cls := Value.type "tuple", data := Data.seq #[] }) ::
  (nat_lit 478, { cls := Value.type "tuple", data := Data.seq #[Value.str (Str.ofString "side") 796] }) ::
  (nat_lit 479, { cls := Value.type "tuple", data := Data.seq #[] }) ::
  (nat_lit 481, { cls := Value.type "code", data := Data.fields #[Value.str (Str.ofString "as_fraction") 793, Value.str (Str.ofString "as_fraction") 794, Value.str (Str.ofString "/claim/cut.py") 795, Value.int 112 0, Value.int 1 0, Value.int 0 0, Value.int 0 0, Value.int 3 0, Value.ref 476, Value.bool true, Value.int 181 0, Value.ref 477, Value.none, Value.ref 478, Value.ref 479, Value.ref 480, Value.int 797 0, Value.int 112 0, Value.str (Str.ofString "/claim/cut.py") 798] }) ::
  (nat_lit 482, ⟨Value.type "function", none, Data.func (PySem.W.fnOf (Str.ofString "as_fraction") (Str.ofString "as_fraction") (L2.defArgs s_as_fraction) (L2.defBody s_as_fraction) (L2.defScope s_as_fraction) (Value.none) (Value.none) (Value.none) (Value.str (Str.ofString "sizechains.exact") 743) (none) (Value.ref 481) (Value.none)), #[]⟩) ::
  (nat_lit 483, { cls := Value.type "tuple", data := Data.seq #[] }) ::
  (nat_lit 485, { cls := Value.type "tuple", data := Data.seq #[Value.str (Str.ofString "fractions") 803, Value.str (Str.ofString "top") 804, Value.str (Str.ofString "bottom") 805, Value.str (Str.ofString "factor") 806] }) ::
  (nat_lit 486, { cls := Value.type "tuple", data := Data.seq #[] }) ::
  (nat_lit 488, { cls := Value.type "code", data := Data.fields #[Value.str (Str.ofString "product") 800, Value.str (Str.ofString "product") 801, Value.str (Str.ofString "/claim/cut.py") 802, Value.int 117 0, Value.int 0 0, Value.int 0 0, Value.int 0 0, Value.int 7 0, Value.ref 483, Value.bool true, Value.int 181 0, Value.ref 484, Value.none, Value.ref 485, Value.ref 486, Value.ref 487, Value.int 807 0, Value.int 117 0, Value.str (Str.ofString "/claim/cut.py") 808] }) ::
  (nat_lit 489, ⟨Value.type "function", none, Data.func (PySem.W.fnOf (Str.ofString "product") (Str.ofString "product") (L2.defArgs s_product) (L2.defBody s_product) (L2.defScope s_product) (Value.none) (Value.none) (Value.none) (Value.str (Str.ofString "sizechains.exact") 743) (none) (Value.ref 488) (Value.none)), #[]⟩) ::
  (nat_lit 490, { cls := Value.type "tuple", data := Data.seq #[] }) ::
  (nat_lit 492, { cls := Value.type "tuple", data := Data.seq #[Value.str (Str.ofString "one") 813, Value.str (Str.ofString "other") 814] }) ::
  (nat_lit 493, { cls := Value.type "tuple", data := Data.seq #[] }) ::
  (nat_lit 495, { cls := Value.type "code", data := Data.fields #[Value.str (Str.ofString "quotient") 810, Value.str (Str.ofString "quotient") 811, Value.str (Str.ofString "/claim/cut.py") 812, Value.int 123 0, Value.int 2 0, Value.int 0 0, Value.int 0 0, Value.int 3 0, Value.ref 490, Value.bool true, Value.int 181 0, Value.ref 491, Value.none, Value.ref 492, Value.ref 493, Value.ref 494, Value.int 815 0, Value.int 123 0, Value.str (Str.ofString "/claim/cut.py") 816] }) ::
  (nat_lit 496, ⟨Value.type "function", none, Data.func (PySem.W.fnOf (Str.ofString "quotient") (Str.ofString "quotient") (L2.defArgs s_quotient) (L2.defBody s_quotient) (L2.defScope s_quotient) (Value.none) (Value.none) (Value.none) (Value.str (Str.ofString "sizechains.exact") 743) (none) (Value.ref 495) (Value.none)), #[]⟩) ::
  (nat_lit 497, { cls := Value.type "tuple", data := Data.seq #[] }) ::
  (nat_lit 499, { cls := Value.type "tuple", data := Data.seq #[Value.str (Str.ofString "left") 821, Value.str (Str.ofString "right") 822] }) ::
  (nat_lit 500, { cls := Value.type "tuple", data := Data.seq #[] }) ::
  (nat_lit 502, { cls := Value.type "code", data := Data.fields #[Value.str (Str.ofString "order") 818, Value.str (Str.ofString "order") 819, Value.str (Str.ofString "/claim/cut.py") 820, Value.int 126 0, Value.int 2 0, Value.int 0 0, Value.int 0 0, Value.int 3 0, Value.ref 497, Value.bool true, Value.int 181 0, Value.ref 498, Value.none, Value.ref 499, Value.ref 500, Value.ref 501, Value.int 823 0, Value.int 126 0, Value.str (Str.ofString "/claim/cut.py") 824] }) ::
  (nat_lit 503, ⟨Value.type "function", none, Data.func (PySem.W.fnOf (Str.ofString "order") (Str.ofString "order") (L2.defArgs s_order) (L2.defBody s_order) (L2.defScope s_order) (Value.none) (Value.none) (Value.none) (Value.str (Str.ofString "sizechains.exact") 743) (none) (Value.ref 502) (Value.none)), #[]⟩) ::
  (nat_lit 504, { cls := Value.type "tuple", data := Data.seq #[] }) ::
  (nat_lit 506, { cls := Value.type "tuple", data := Data.seq #[Value.str (Str.ofString "one") 829, Value.str (Str.ofString "other") 830] }) ::
  (nat_lit 507, { cls := Value.type "tuple", data := Data.seq #[] }) ::
  (nat_lit 509, { cls := Value.type "code", data := Data.fields #[Value.str (Str.ofString "compare") 826, Value.str (Str.ofString "compare") 827, Value.str (Str.ofString "/claim/cut.py") 828, Value.int 132 0, Value.int 2 0, Value.int 0 0, Value.int 0 0, Value.int 3 0, Value.ref 504, Value.bool true, Value.int 181 0, Value.ref 505, Value.none, Value.ref 506, Value.ref 507, Value.ref 508, Value.int 831 0, Value.int 132 0, Value.str (Str.ofString "/claim/cut.py") 832] }) ::
  (nat_lit 510, ⟨Value.type "function", none, Data.func (PySem.W.fnOf (Str.ofString "compare") (Str.ofString "compare") (L2.defArgs s_compare) (L2.defBody s_compare) (L2.defScope s_compare) (Value.none) (Value.none) (Value.none) (Value.str (Str.ofString "sizechains.exact") 743) (none) (Value.ref 509) (Value.none)), #[]⟩) ::
  (nat_lit 511, { cls := Value.type "tuple", data := Data.seq #[] }) ::
  (nat_lit 513, { cls := Value.type "tuple", data := Data.seq #[Value.str (Str.ofString "number") 837, Value.str (Str.ofString "top") 838, Value.str (Str.ofString "bottom") 839] }) ::
  (nat_lit 514, { cls := Value.type "tuple", data := Data.seq #[] }) ::
  (nat_lit 516, { cls := Value.type "code", data := Data.fields #[Value.str (Str.ofString "format_fraction") 834, Value.str (Str.ofString "format_fraction") 835, Value.str (Str.ofString "/claim/cut.py") 836, Value.int 135 0, Value.int 1 0, Value.int 0 0, Value.int 0 0, Value.int 3 0, Value.ref 511, Value.bool true, Value.int 181 0, Value.ref 512, Value.none, Value.ref 513, Value.ref 514, Value.ref 515, Value.int 840 0, Value.int 135 0, Value.str (Str.ofString "/claim/cut.py") 841] }) ::
  (nat_lit 517, ⟨Value.type "function", none, Data.func (PySem.W.fnOf (Str.ofString "format_fraction") (Str.ofString "format_fraction") (L2.defArgs s_format_fraction) (L2.defBody s_format_fraction) (L2.defScope s_format_fraction) (Value.none) (Value.none) (Value.none) (Value.str (Str.ofString "sizechains.exact") 743) (none) (Value.ref 516) (Value.none)), #[]⟩) ::
  (nat_lit 518, { cls := Value.type "tuple", data := Data.seq #[] }) ::
  (nat_lit 520, { cls := Value.type "tuple", data := Data.seq #[Value.str (Str.ofString "text") 846] }) ::
  (nat_lit 521, { cls := Value.type "tuple", data := Data.seq #[] }) ::
  (nat_lit 523, { cls := Value.type "code", data := Data.fields #[Value.str (Str.ofString "is_numeral") 843, Value.str (Str.ofString "is_numeral") 844, Value.str (Str.ofString "/claim/cut.py") 845, Value.int 141 0, Value.int 1 0, Value.int 0 0, Value.int 0 0, Value.int 3 0, Value.ref 518, Value.bool true, Value.int 181 0, Value.ref 519, Value.none, Value.ref 520, Value.ref 521, Value.ref 522, Value.int 847 0, Value.int 141 0, Value.str (Str.ofString "/claim/cut.py") 848] }) ::
  (nat_lit 524, ⟨Value.type "function", none, Data.func (PySem.W.fnOf (Str.ofString "is_numeral") (Str.ofString "is_numeral") (L2.defArgs s_is_numeral) (L2.defBody s_is_numeral) (L2.defScope s_is_numeral) (Value.none) (Value.none) (Value.none) (Value.str (Str.ofString "sizechains.exact") 743) (none) (Value.ref 523) (Value.none)), #[]⟩) ::
  (nat_lit 525, { cls := Value.type "tuple", data := Data.seq #[] }) ::
  (nat_lit 527, { cls := Value.type "tuple", data := Data.seq #[Value.str (Str.ofString "text") 853, Value.str (Str.ofString "top") 854, Value.str (Str.ofString "slash") 855, Value.str (Str.ofString "bottom") 856, Value.str (Str.ofString "number") 857] }) ::
  (nat_lit 528, { cls := Value.type "tuple", data := Data.seq #[] }) ::
  (nat_lit 530, { cls := Value.type "code", data := Data.fields #[Value.str (Str.ofString "find_fraction") 850, Value.str (Str.ofString "find_fraction") 851, Value.str (Str.ofString "/claim/cut.py") 852, Value.int 143 0, Value.int 1 0, Value.int 0 0, Value.int 0 0, Value.int 3 0, Value.ref 525, Value.bool true, Value.int 181 0, Value.ref 526, Value.none, Value.ref 527, Value.ref 528, Value.ref 529, Value.int 858 0, Value.int 143 0, Value.str (Str.ofString "/claim/cut.py") 859] }) ::
  (nat_lit 531, ⟨Value.type "function", none, Data.func (PySem.W.fnOf (Str.ofString "find_fraction") (Str.ofString "find_fraction") (L2.defArgs s_find_fraction) (L2.defBody s_find_fraction) (L2.defScope s_find_fraction) (Value.none) (Value.none) (Value.none) (Value.str (Str.ofString "sizechains.exact") 743) (none) (Value.ref 530) (Value.none)), #[]⟩) ::
  (nat_lit 539, { cls := Value.type "tuple", data := Data.seq #[] }) ::
  (nat_lit 541, { cls := Value.type "tuple", data := Data.seq #[Value.str (Str.ofString "self") 878, Value.str (Str.ofString "width") 879, Value.str (Str.ofString "height") 880] }) ::
  (nat_lit 542, { cls := Value.type "tuple", data := Data.seq #[] }) ::
  (nat_lit 544, { cls := Value.type "code", data := Data.fields #[Value.str (Str.ofString "__init__") 875, Value.str (Str.ofString "Size.__init__") 876, Value.str (Str.ofString "/claim/cut.py") 877, Value.int 158 0, Value.int 3 0, Value.int 0 0, Value.int 0 0, Value.int 3 0, Value.ref 539, Value.bool true, Value.int 181 0, Value.ref 540, Value.none, Value.ref 541, Value.ref 542, Value.ref 543, Value.int 881 0, Value.int 158 0, Value.str (Str.ofString "/claim/cut.py") 882] }) ::
  (nat_lit 545, ⟨Value.type "function", none, Data.func (PySem.W.fnOf (Str.ofString "__init__") (Str.ofString "Size.__init__") (L2.defArgs s_Size_init) (L2.defBody s_Size_init) (L2.defScope s_Size_init) (Value.none) (Value.none) (Value.none) (Value.str (Str.ofString "sizechains.sizes") 861) (none) (Value.ref 544) (Value.none)), #[]⟩) ::
  (nat_lit 546, { cls := Value.type "tuple", data := Data.seq #[] }) ::
  (nat_lit 548, { cls := Value.type "tuple", data := Data.seq #[Value.str (Str.ofString "cls") 887, Value.str (Str.ofString "text") 888, Value.str (Str.ofString "parts") 889, Value.str (Str.ofString "width") 890, Value.str (Str.ofString "height") 891] }) ::
  (nat_lit 549, { cls := Value.type "tuple", data := Data.seq #[] }) ::
  (nat_lit 551, { cls := Value.type "code", data := Data.fields #[Value.str (Str.ofString "read") 884, Value.str (Str.ofString "Size.read") 885, Value.str (Str.ofString "/claim/cut.py") 886, Value.int 162 0, Value.int 2 0, Value.int 0 0, Value.int 0 0, Value.int 3 0, Value.ref 546, Value.bool true, Value.int 181 0, Value.ref 547, Value.none, Value.ref 548, Value.ref 549, Value.ref 550, Value.int 892 0, Value.int 162 0, Value.str (Str.ofString "/claim/cut.py") 893] }) ::
  (nat_lit 552, ⟨Value.type "function", none, Data.func (PySem.W.fnOf (Str.ofString "read") (Str.ofString "Size.read") (L2.defArgs s_Size_read) (L2.defBody s_Size_read) (L2.defScope s_Size_read) (Value.none) (Value.none) (Value.none) (Value.str (Str.ofString "sizechains.sizes") 861) (some 555) (Value.ref 551) (Value.none)), #[]⟩) ::
  (nat_lit 553, { cls := Value.type "dict", data := Data.dict #[{ hash := PyData.keyHash P (Str.ofString "__module__"), key := Value.str (Str.ofString "__module__") 895, val := Value.str (Str.ofString "sizechains.sizes") 861 }, { hash := PyData.keyHash P (Str.ofString "__name__"), key := Value.str (Str.ofString "__name__") 898, val := Value.str (Str.ofString "read") 897 }, { hash := PyData.keyHash P (Str.ofString "__qualname__"), key := Value.str (Str.ofString "__qualname__") 901, val := Value.str (Str.ofString "Size.read") 900 }, { hash := PyData.keyHash P (Str.ofString "__doc__"), key := Value.str (Str.ofString "__doc__") 903, val := Value.none }, { hash := PyData.keyHash P (Str.ofString "__annotations__"), key := Value.str (Str.ofString "__annotations__") 905, val := Value.ref 555 }] 5 }) ::
  (nat_lit 554, { cls := Value.type "classmethod", dict := some 553, data := Data.fields #[Value.ref 552, Value.bool false] }) ::
  (nat_lit 555, { cls := Value.type "dict", data := Data.dict #[] }) ::
  (nat_lit 556, { cls := Value.type "tuple", data := Data.seq #[] }) ::
  (nat_lit 558, { cls := Value.type "tuple", data := Data.seq #[Value.str (Str.ofString "self") 910] }) ::
  (nat_lit 559, { cls := Value.type "tuple", data := Data.seq #[] }) ::
  (nat_lit 561, { cls := Value.type "code", data := Data.fields #[Value.str (Str.ofString "ratio") 907, Value.str (Str.ofString "Size.ratio") 908, Value.str (Str.ofString "/claim/cut.py") 909, Value.int 173 0, Value.int 1 0, Value.int 0 0, Value.int 0 0, Value.int 3 0, Value.ref 556, Value.bool true, Value.int 181 0, Value.ref 557, Value.none, Value.ref 558, Value.ref 559, Value.ref 560, Value.int 911 0, Value.int 173 0, Value.str (Str.ofString "/claim/cut.py") 912] }) ::
  (nat_lit 562, ⟨Value.type "function", none, Data.func (PySem.W.fnOf (Str.ofString "ratio") (Str.ofString "Size.ratio") (L2.defArgs s_Size_ratio) (L2.defBody s_Size_ratio) (L2.defScope s_Size_ratio) (Value.none) (Value.none) (Value.none) (Value.str (Str.ofString "sizechains.sizes") 861) (none) (Value.ref 561) (Value.none)), #[]⟩) ::
  (nat_lit 563, { cls := Value.type "property", data := Data.fields #[Value.ref 562, Value.none, Value.none, Value.none, Value.str (Str.ofString "ratio") 914, Value.bool false] }) ::
  (nat_lit 564, { cls := Value.type "tuple", data := Data.seq #[] }) ::
  (nat_lit 566, { cls := Value.type "tuple", data := Data.seq #[Value.str (Str.ofString "self") 918] }) ::
  (nat_lit 567, { cls := Value.type "tuple", data := Data.seq #[] }) ::
  (nat_lit 569, { cls := Value.type "code", data := Data.fields #[Value.str (Str.ofString "turned") 915, Value.str (Str.ofString "Size.turned") 916, Value.str (Str.ofString "/claim/cut.py") 917, Value.int 177 0, Value.int 1 0, Value.int 0 0, Value.int 0 0, Value.int 3 0, Value.ref 564, Value.bool true, Value.int 181 0, Value.ref 565, Value.none, Value.ref 566, Value.ref 567, Value.ref 568, Value.int 919 0, Value.int 177 0, Value.str (Str.ofString "/claim/cut.py") 920] }) ::
  (nat_lit 570, ⟨Value.type "function", none, Data.func (PySem.W.fnOf (Str.ofString "turned") (Str.ofString "Size.turned") (L2.defArgs s_Size_turned) (L2.defBody s_Size_turned) (L2.defScope s_Size_turned) (Value.none) (Value.none) (Value.none) (Value.str (Str.ofString "sizechains.sizes") 861) (none) (Value.ref 569) (Value.none)), #[]⟩) ::
  (nat_lit 571, { cls := Value.type "tuple", data := Data.seq #[] }) ::
  (nat_lit 573, { cls := Value.type "tuple", data := Data.seq #[Value.str (Str.ofString "self") 925, Value.str (Str.ofString "other") 926] }) ::
  (nat_lit 574, { cls := Value.type "tuple", data := Data.seq #[] }) ::
  (nat_lit 576, { cls := Value.type "code", data := Data.fields #[Value.str (Str.ofString "__eq__") 922, Value.str (Str.ofString "Size.__eq__") 923, Value.str (Str.ofString "/claim/cut.py") 924, Value.int 180 0, Value.int 2 0, Value.int 0 0, Value.int 0 0, Value.int 3 0, Value.ref 571, Value.bool true, Value.int 181 0, Value.ref 572, Value.none, Value.ref 573, Value.ref 574, Value.ref 575, Value.int 927 0, Value.int 180 0, Value.str (Str.ofString "/claim/cut.py") 928] }) ::
  (nat_lit 577, ⟨Value.type "function", none, Data.func (PySem.W.fnOf (Str.ofString "__eq__") (Str.ofString "Size.__eq__") (L2.defArgs s_Size_eq) (L2.defBody s_Size_eq) (L2.defScope s_Size_eq) (Value.none) (Value.none) (Value.none) (Value.str (Str.ofString "sizechains.sizes") 861) (none) (Value.ref 576) (Value.none)), #[]⟩) ::
  (nat_lit 578, { cls := Value.type "tuple", data := Data.seq #[] }) ::
  (nat_lit 580, { cls := Value.type "tuple", data := Data.seq #[Value.str (Str.ofString "self") 933, Value.str (Str.ofString "x") 934] }) ::
  (nat_lit 581, { cls := Value.type "tuple", data := Data.seq #[] }) ::
  (nat_lit 583, { cls := Value.type "code", data := Data.fields #[Value.str (Str.ofString "__contains__") 930, Value.str (Str.ofString "Size.__contains__") 931, Value.str (Str.ofString "/claim/cut.py") 932, Value.int 183 0, Value.int 2 0, Value.int 0 0, Value.int 0 0, Value.int 3 0, Value.ref 578, Value.bool true, Value.int 181 0, Value.ref 579, Value.none, Value.ref 580, Value.ref 581, Value.ref 582, Value.int 935 0, Value.int 183 0, Value.str (Str.ofString "/claim/cut.py") 936] }) ::
  (nat_lit 584, ⟨Value.type "function", none, Data.func (PySem.W.fnOf (Str.ofString "__contains__") (Str.ofString "Size.__contains__") (L2.defArgs s_Size_contains) (L2.defBody s_Size_contains) (L2.defScope s_Size_contains) (Value.none) (Value.none) (Value.none) (Value.str (Str.ofString "sizechains.sizes") 861) (none) (Value.ref 583) (Value.none)), #[]⟩) ::
  (nat_lit 585, { cls := Value.type "tuple", data := Data.seq #[] }) ::
  (nat_lit 587, { cls := Value.type "tuple", data := Data.seq #[Value.str (Str.ofString "self") 941, Value.str (Str.ofString "other") 942, Value.str (Str.ofString "factor") 943] }) ::
  (nat_lit 588, { cls := Value.type "tuple", data := Data.seq #[] }) ::
  (nat_lit 590, { cls := Value.type "code", data := Data.fields #[Value.str (Str.ofString "__mul__") 938, Value.str (Str.ofString "Size.__mul__") 939, Value.str (Str.ofString "/claim/cut.py") 940, Value.int 188 0, Value.int 2 0, Value.int 0 0, Value.int 0 0, Value.int 3 0, Value.ref 585, Value.bool true, Value.int 181 0, Value.ref 586, Value.none, Value.ref 587, Value.ref 588, Value.ref 589, Value.int 944 0, Value.int 188 0, Value.str (Str.ofString "/claim/cut.py") 945] }) ::
  (nat_lit 591, ⟨Value.type "function", none, Data.func (PySem.W.fnOf (Str.ofString "__mul__") (Str.ofString "Size.__mul__") (L2.defArgs s_Size_mul) (L2.defBody s_Size_mul) (L2.defScope s_Size_mul) (Value.none) (Value.none) (Value.none) (Value.str (Str.ofString "sizechains.sizes") 861) (none) (Value.ref 590) (Value.none)), #[]⟩) ::
  (nat_lit 592, { cls := Value.type "tuple", data := Data.seq #[] }) ::
  (nat_lit 594, { cls := Value.type "tuple", data := Data.seq #[Value.str (Str.ofString "self") 950] }) ::
  (nat_lit 595, { cls := Value.type "tuple", data := Data.seq #[] }) ::
  (nat_lit 597, { cls := Value.type "code", data := Data.fields #[Value.str (Str.ofString "__str__") 947, Value.str (Str.ofString "Size.__str__") 948, Value.str (Str.ofString "/claim/cut.py") 949, Value.int 192 0, Value.int 1 0, Value.int 0 0, Value.int 0 0, Value.int 3 0, Value.ref 592, Value.bool true, Value.int 181 0, Value.ref 593, Value.none, Value.ref 594, Value.ref 595, Value.ref 596, Value.int 951 0, Value.int 192 0, Value.str (Str.ofString "/claim/cut.py") 952] }) ::
  (nat_lit 598, ⟨Value.type "function", none, Data.func (PySem.W.fnOf (Str.ofString "__str__") (Str.ofString "Size.__str__") (L2.defArgs s_Size_str) (L2.defBody s_Size_str) (L2.defScope s_Size_str) (Value.none) (Value.none) (Value.none) (Value.str (Str.ofString "sizechains.sizes") 861) (none) (Value.ref 597) (Value.none)), #[]⟩) ::
  (nat_lit 599, { cls := Value.type "tuple", data := Data.seq #[] }) ::
  (nat_lit 601, { cls := Value.type "tuple", data := Data.seq #[Value.str (Str.ofString "self") 957] }) ::
  (nat_lit 602, { cls := Value.type "tuple", data := Data.seq #[] }) ::
  (nat_lit 604, { cls := Value.type "code", data := Data.fields #[Value.str (Str.ofString "__repr__") 954, Value.str (Str.ofString "Size.__repr__") 955, Value.str (Str.ofString "/claim/cut.py") 956, Value.int 195 0, Value.int 1 0, Value.int 0 0, Value.int 0 0, Value.int 3 0, Value.ref 599, Value.bool true, Value.int 181 0, Value.ref 600, Value.none, Value.ref 601, Value.ref 602, Value.ref 603, Value.int 958 0, Value.int 195 0, Value.str (Str.ofString "/claim/cut.py") 959] }) ::
  (nat_lit 605, ⟨Value.type "function", none, Data.func (PySem.W.fnOf (Str.ofString "__repr__") (Str.ofString "Size.__repr__") (L2.defArgs s_Size_repr) (L2.defBody s_Size_repr) (L2.defScope s_Size_repr) (Value.none) (Value.none) (Value.none) (Value.str (Str.ofString "sizechains.sizes") 861) (none) (Value.ref 604) (Value.none)), #[]⟩) ::
  (nat_lit 606, { cls := Value.type "tuple", data := Data.seq #[Value.str (Str.ofString "height") 961, Value.str (Str.ofString "width") 962] }) ::
  (nat_lit 607, { cls := Value.type "dict", data := Data.dict #[{ hash := PyData.keyHash P (Str.ofString "__module__"), key := Value.str (Str.ofString "__module__") 870, val := Value.str (Str.ofString "sizechains.sizes") 861 }, { hash := PyData.keyHash P (Str.ofString "__firstlineno__"), key := Value.str (Str.ofString "__firstlineno__") 874, val := Value.int 156 873 }, { hash := PyData.keyHash P (Str.ofString "__init__"), key := Value.str (Str.ofString "__init__") 883, val := Value.ref 545 }, { hash := PyData.keyHash P (Str.ofString "read"), key := Value.str (Str.ofString "read") 906, val := Value.ref 554 }, { hash := PyData.keyHash P (Str.ofString "ratio"), key := Value.str (Str.ofString "ratio") 914, val := Value.ref 563 }, { hash := PyData.keyHash P (Str.ofString "turned"), key := Value.str (Str.ofString "turned") 921, val := Value.ref 570 }, { hash := PyData.keyHash P (Str.ofString "__eq__"), key := Value.str (Str.ofString "__eq__") 929, val := Value.ref 577 }, { hash := PyData.keyHash P (Str.ofString "__contains__"), key := Value.str (Str.ofString "__contains__") 937, val := Value.ref 584 }, { hash := PyData.keyHash P (Str.ofString "__mul__"), key := Value.str (Str.ofString "__mul__") 946, val := Value.ref 591 }, { hash := PyData.keyHash P (Str.ofString "__str__"), key := Value.str (Str.ofString "__str__") 953, val := Value.ref 598 }, { hash := PyData.keyHash P (Str.ofString "__repr__"), key := Value.str (Str.ofString "__repr__") 960, val := Value.ref 605 }, { hash := PyData.keyHash P (Str.ofString "__static_attributes__"), key := Value.str (Str.ofString "__static_attributes__") 963, val := Value.ref 606 }, { hash := PyData.keyHash P (Str.ofString "__dict__"), key := Value.str (Str.ofString "__dict__") 965, val := Value.ref 609 }, { hash := PyData.keyHash P (Str.ofString "__weakref__"), key := Value.str (Str.ofString "__weakref__") 967, val := Value.ref 610 }, { hash := PyData.keyHash P (Str.ofString "__doc__"), key := Value.str (Str.ofString "__doc__") 968, val := Value.none }, { hash := PyData.keyHash P (Str.ofString "__hash__"), key := Value.str (Str.ofString "__hash__") 969, val := Value.none }] 5 }) ::
  (nat_lit 608, { cls := Value.type "type", data := Data.cls { name := Str.ofString "Size", bases := [Value.type "object"], mro := [Value.ref 608, Value.type "object"], ns := 607, qualname := Str.ofString "Size" }, slots := #[none, none, some (Value.str (Str.ofString "Size") 863), some (Value.str (Str.ofString "Size") 871), some (Value.builtin "object.__new__"), some (Value.bool true)] }) ::
  (nat_lit 609, { cls := Value.type "getset_descriptor", data := Data.fields #[Value.str (Str.ofString "__dict__") 964, Value.ref 608, Value.builtin "function.__dict__", Value.builtin "function.__dict__#set"] }) ::
  (nat_lit 610, { cls := Value.type "getset_descriptor", data := Data.fields #[Value.str (Str.ofString "__weakref__") 966, Value.ref 608, Value.builtin "ExceptionGroup.__weakref__", Value.none] }) ::
  (nat_lit 613, { cls := Value.type "tuple", data := Data.seq #[] }) ::
  (nat_lit 615, { cls := Value.type "tuple", data := Data.seq #[Value.str (Str.ofString "_law_script") 977, Value.str (Str.ofString "_law_k") 978, Value.str (Str.ofString "_law_state") 979, Value.str (Str.ofString "_law_figure") 980] }) ::
  (nat_lit 616, { cls := Value.type "tuple", data := Data.seq #[] }) ::
  (nat_lit 618, { cls := Value.type "code", data := Data.fields #[Value.str (Str.ofString "_law_cell") 974, Value.str (Str.ofString "_law_cell") 975, Value.str (Str.ofString "/claim/cut.py") 976, Value.int 198 0, Value.int 2 0, Value.int 0 0, Value.int 0 0, Value.int 3 0, Value.ref 613, Value.bool true, Value.int 181 0, Value.ref 614, Value.none, Value.ref 615, Value.ref 616, Value.ref 617, Value.int 981 0, Value.int 198 0, Value.str (Str.ofString "/claim/cut.py") 982] }) ::
  (nat_lit 619, ⟨Value.type "function", none, Data.func (PySem.W.fnOf (Str.ofString "_law_cell") (Str.ofString "_law_cell") (L2.defArgs s_l_cell) (L2.defBody s_l_cell) (L2.defScope s_l_cell) (Value.none) (Value.none) (Value.none) (Value.str (Str.ofString "law_sizechains_k09_sizes_read_and_refused") 972) (none) (Value.ref 618) (Value.none)), #[]⟩) ::
  (nat_lit 620, { cls := Value.type "tuple", data := Data.seq #[] }) ::
  (nat_lit 622, { cls := Value.type "tuple", data := Data.seq #[Value.str (Str.ofString "_law_figure") 987, Value.str (Str.ofString "_law_digits") 988] }) ::
  (nat_lit 623, { cls := Value.type "tuple", data := Data.seq #[] }) ::
  (nat_lit 625, { cls := Value.type "code", data := Data.fields #[Value.str (Str.ofString "_law_pool") 984, Value.str (Str.ofString "_law_pool") 985, Value.str (Str.ofString "/claim/cut.py") 986, Value.int 205 0, Value.int 1 0, Value.int 0 0, Value.int 0 0, Value.int 3 0, Value.ref 620, Value.bool true, Value.int 181 0, Value.ref 621, Value.none, Value.ref 622, Value.ref 623, Value.ref 624, Value.int 989 0, Value.int 205 0, Value.str (Str.ofString "/claim/cut.py") 990] }) ::
  (nat_lit 626, ⟨Value.type "function", none, Data.func (PySem.W.fnOf (Str.ofString "_law_pool") (Str.ofString "_law_pool") (L2.defArgs s_l_pool) (L2.defBody s_l_pool) (L2.defScope s_l_pool) (Value.none) (Value.none) (Value.none) (Value.str (Str.ofString "law_sizechains_k09_sizes_read_and_refused") 972) (none) (Value.ref 625) (Value.none)), #[]⟩) ::
  (nat_lit 627, { cls := Value.type "tuple", data := Data.seq #[] }) ::
  (nat_lit 629, { cls := Value.type "tuple", data := Data.seq #[Value.str (Str.ofString "_law_pool_here") 995, Value.str (Str.ofString "_law_most") 996, Value.str (Str.ofString "_law_state") 997, Value.str (Str.ofString "_law_digit") 998] }) ::
  (nat_lit 630, { cls := Value.type "tuple", data := Data.seq #[] }) ::
  (nat_lit 632, { cls := Value.type "code", data := Data.fields #[Value.str (Str.ofString "_law_draw") 992, Value.str (Str.ofString "_law_draw") 993, Value.str (Str.ofString "/claim/cut.py") 994, Value.int 208 0, Value.int 2 0, Value.int 0 0, Value.int 0 0, Value.int 3 0, Value.ref 627, Value.bool true, Value.int 181 0, Value.ref 628, Value.none, Value.ref 629, Value.ref 630, Value.ref 631, Value.int 999 0, Value.int 208 0, Value.str (Str.ofString "/claim/cut.py") 1000] }) ::
  (nat_lit 633, ⟨Value.type "function", none, Data.func (PySem.W.fnOf (Str.ofString "_law_draw") (Str.ofString "_law_draw") (L2.defArgs s_l_draw) (L2.defBody s_l_draw) (L2.defScope s_l_draw) (Value.none) (Value.none) (Value.none) (Value.str (Str.ofString "law_sizechains_k09_sizes_read_and_refused") 972) (none) (Value.ref 632) (Value.none)), #[]⟩) ::
  (nat_lit 634, { cls := Value.type "tuple", data := Data.seq #[] }) ::
  (nat_lit 636, { cls := Value.type "tuple", data := Data.seq #[Value.str (Str.ofString "_law_high_part") 1005, Value.str (Str.ofString "_law_low_part") 1006, Value.str (Str.ofString "_law_lead") 1007, Value.str (Str.ofString "_law_rest") 1008] }) ::
  (nat_lit 637, { cls := Value.type "tuple", data := Data.seq #[] }) ::
  (nat_lit 639, { cls := Value.type "code", data := Data.fields #[Value.str (Str.ofString "_law_low") 1002, Value.str (Str.ofString "_law_low") 1003, Value.str (Str.ofString "/claim/cut.py") 1004, Value.int 216 0, Value.int 2 0, Value.int 0 0, Value.int 0 0, Value.int 3 0, Value.ref 634, Value.bool true, Value.int 181 0, Value.ref 635, Value.none, Value.ref 636, Value.ref 637, Value.ref 638, Value.int 1009 0, Value.int 216 0, Value.str (Str.ofString "/claim/cut.py") 1010] }) ::
  (nat_lit 640, ⟨Value.type "function", none, Data.func (PySem.W.fnOf (Str.ofString "_law_low") (Str.ofString "_law_low") (L2.defArgs s_l_low) (L2.defBody s_l_low) (L2.defScope s_l_low) (Value.none) (Value.none) (Value.none) (Value.str (Str.ofString "law_sizechains_k09_sizes_read_and_refused") 972) (none) (Value.ref 639) (Value.none)), #[]⟩) ::
  (nat_lit 641, { cls := Value.type "tuple", data := Data.seq #[] }) ::
  (nat_lit 643, { cls := Value.type "tuple", data := Data.seq #[Value.str (Str.ofString "_law_lead") 1015, Value.str (Str.ofString "_law_more") 1016] }) ::
  (nat_lit 644, { cls := Value.type "tuple", data := Data.seq #[] }) ::
  (nat_lit 646, { cls := Value.type "code", data := Data.fields #[Value.str (Str.ofString "_law_mul") 1012, Value.str (Str.ofString "_law_mul") 1013, Value.str (Str.ofString "/claim/cut.py") 1014, Value.int 221 0, Value.int 2 0, Value.int 0 0, Value.int 0 0, Value.int 3 0, Value.ref 641, Value.bool true, Value.int 181 0, Value.ref 642, Value.none, Value.ref 643, Value.ref 644, Value.ref 645, Value.int 1017 0, Value.int 221 0, Value.str (Str.ofString "/claim/cut.py") 1018] }) ::
  (nat_lit 647, ⟨Value.type "function", none, Data.func (PySem.W.fnOf (Str.ofString "_law_mul") (Str.ofString "_law_mul") (L2.defArgs s_l_mul) (L2.defBody s_l_mul) (L2.defScope s_l_mul) (Value.none) (Value.none) (Value.none) (Value.str (Str.ofString "law_sizechains_k09_sizes_read_and_refused") 972) (none) (Value.ref 646) (Value.none)), #[]⟩) ::
  (nat_lit 648, { cls := Value.type "tuple", data := Data.seq #[] }) ::
  (nat_lit 650, { cls := Value.type "tuple", data := Data.seq #[Value.str (Str.ofString "_law_pool_here") 1023, Value.str (Str.ofString "_law_great") 1024, Value.str (Str.ofString "_law_way") 1025, Value.str (Str.ofString "_law_most") 1026] }) ::
  (nat_lit 651, { cls := Value.type "tuple", data := Data.seq #[] }) ::
  (nat_lit 653, { cls := Value.type "code", data := Data.fields #[Value.str (Str.ofString "_law_part") 1020, Value.str (Str.ofString "_law_part") 1021, Value.str (Str.ofString "/claim/cut.py") 1022, Value.int 223 0, Value.int 2 0, Value.int 0 0, Value.int 0 0, Value.int 3 0, Value.ref 648, Value.bool true, Value.int 181 0, Value.ref 649, Value.none, Value.ref 650, Value.ref 651, Value.ref 652, Value.int 1027 0, Value.int 223 0, Value.str (Str.ofString "/claim/cut.py") 1028] }) ::
  (nat_lit 654, ⟨Value.type "function", none, Data.func (PySem.W.fnOf (Str.ofString "_law_part") (Str.ofString "_law_part") (L2.defArgs s_l_part) (L2.defBody s_l_part) (L2.defScope s_l_part) (Value.none) (Value.none) (Value.none) (Value.str (Str.ofString "law_sizechains_k09_sizes_read_and_refused") 972) (none) (Value.ref 653) (Value.none)), #[]⟩) ::
  (nat_lit 655, { cls := Value.type "tuple", data := Data.seq #[] }) ::
  (nat_lit 657, { cls := Value.type "tuple", data := Data.seq #[Value.str (Str.ofString "_law_pool_here") 1033, Value.str (Str.ofString "_law_great") 1034, Value.str (Str.ofString "_law_lead") 1035, Value.str (Str.ofString "_law_way") 1036] }) ::
  (nat_lit 658, { cls := Value.type "tuple", data := Data.seq #[] }) ::
  (nat_lit 660, { cls := Value.type "code", data := Data.fields #[Value.str (Str.ofString "_law_sides") 1030, Value.str (Str.ofString "_law_sides") 1031, Value.str (Str.ofString "/claim/cut.py") 1032, Value.int 229 0, Value.int 2 0, Value.int 0 0, Value.int 0 0, Value.int 3 0, Value.ref 655, Value.bool true, Value.int 181 0, Value.ref 656, Value.none, Value.ref 657, Value.ref 658, Value.ref 659, Value.int 1037 0, Value.int 229 0, Value.str (Str.ofString "/claim/cut.py") 1038] }) ::
  (nat_lit 661, ⟨Value.type "function", none, Data.func (PySem.W.fnOf (Str.ofString "_law_sides") (Str.ofString "_law_sides") (L2.defArgs s_l_sides) (L2.defBody s_l_sides) (L2.defScope s_l_sides) (Value.none) (Value.none) (Value.none) (Value.str (Str.ofString "law_sizechains_k09_sizes_read_and_refused") 972) (none) (Value.ref 660) (Value.none)), #[]⟩) ::
  (nat_lit 662, { cls := Value.type "tuple", data := Data.seq #[] }) ::
  (nat_lit 664, { cls := Value.type "tuple", data := Data.seq #[Value.str (Str.ofString "_law_thing") 1043] }) ::
  (nat_lit 665, { cls := Value.type "tuple", data := Data.seq #[] }) ::
  (nat_lit 667, { cls := Value.type "code", data := Data.fields #[Value.str (Str.ofString "_law_whole") 1040, Value.str (Str.ofString "_law_whole") 1041, Value.str (Str.ofString "/claim/cut.py") 1042, Value.int 236 0, Value.int 1 0, Value.int 0 0, Value.int 0 0, Value.int 3 0, Value.ref 662, Value.bool true, Value.int 181 0, Value.ref 663, Value.none, Value.ref 664, Value.ref 665, Value.ref 666, Value.int 1044 0, Value.int 236 0, Value.str (Str.ofString "/claim/cut.py") 1045] }) ::
  (nat_lit 668, ⟨Value.type "function", none, Data.func (PySem.W.fnOf (Str.ofString "_law_whole") (Str.ofString "_law_whole") (L2.defArgs s_l_whole) (L2.defBody s_l_whole) (L2.defScope s_l_whole) (Value.none) (Value.none) (Value.none) (Value.str (Str.ofString "law_sizechains_k09_sizes_read_and_refused") 972) (none) (Value.ref 667) (Value.none)), #[]⟩) ::
  (nat_lit 669, { cls := Value.type "tuple", data := Data.seq #[] }) ::
  (nat_lit 671, { cls := Value.type "tuple", data := Data.seq #[Value.str (Str.ofString "_law_thing") 1050] }) ::
  (nat_lit 672, { cls := Value.type "tuple", data := Data.seq #[] }) ::
  (nat_lit 674, { cls := Value.type "code", data := Data.fields #[Value.str (Str.ofString "_law_is_part") 1047, Value.str (Str.ofString "_law_is_part") 1048, Value.str (Str.ofString "/claim/cut.py") 1049, Value.int 238 0, Value.int 1 0, Value.int 0 0, Value.int 0 0, Value.int 3 0, Value.ref 669, Value.bool true, Value.int 181 0, Value.ref 670, Value.none, Value.ref 671, Value.ref 672, Value.ref 673, Value.int 1051 0, Value.int 238 0, Value.str (Str.ofString "/claim/cut.py") 1052] }) ::
  (nat_lit 675, ⟨Value.type "function", none, Data.func (PySem.W.fnOf (Str.ofString "_law_is_part") (Str.ofString "_law_is_part") (L2.defArgs s_l_is_part) (L2.defBody s_l_is_part) (L2.defScope s_l_is_part) (Value.none) (Value.none) (Value.none) (Value.str (Str.ofString "law_sizechains_k09_sizes_read_and_refused") 972) (none) (Value.ref 674) (Value.none)), #[]⟩) ::
  (nat_lit 676, { cls := Value.type "tuple", data := Data.seq #[] }) ::
  (nat_lit 678, { cls := Value.type "tuple", data := Data.seq #[Value.str (Str.ofString "_law_pool_here") 1057, Value.str (Str.ofString "_law_high") 1058, Value.str (Str.ofString "_law_low_here") 1059, Value.str (Str.ofString "_law_many") 1060, Value.str (Str.ofString "_law_some") 1061] }) ::
  (nat_lit 679, { cls := Value.type "tuple", data := Data.seq #[] }) ::
  (nat_lit 681, { cls := Value.type "code", data := Data.fields #[Value.str (Str.ofString "_law_odd") 1054, Value.str (Str.ofString "_law_odd") 1055, Value.str (Str.ofString "/claim/cut.py") 1056, Value.int 242 0, Value.int 1 0, Value.int 0 0, Value.int 0 0, Value.int 3 0, Value.ref 676, Value.bool true, Value.int 181 0, Value.ref 677, Value.none, Value.ref 678, Value.ref 679, Value.ref 680, Value.int 1062 0, Value.int 242 0, Value.str (Str.ofString "/claim/cut.py") 1063] }) ::
  (nat_lit 682, ⟨Value.type "function", none, Data.func (PySem.W.fnOf (Str.ofString "_law_odd") (Str.ofString "_law_odd") (L2.defArgs s_l_odd) (L2.defBody s_l_odd) (L2.defScope s_l_odd) (Value.none) (Value.none) (Value.none) (Value.str (Str.ofString "law_sizechains_k09_sizes_read_and_refused") 972) (none) (Value.ref 681) (Value.none)), #[]⟩) ::
  (nat_lit 683, { cls := Value.type "tuple", data := Data.seq #[] }) ::
  (nat_lit 685, { cls := Value.type "tuple", data := Data.seq #[Value.str (Str.ofString "_law_e") 1068, Value.str (Str.ofString "_law_found") 1069, Value.str (Str.ofString "_law_bases") 1070, Value.str (Str.ofString "_law_own") 1071, Value.str (Str.ofString "_law_at") 1072] }) ::
  (nat_lit 686, { cls := Value.type "tuple", data := Data.seq #[] }) ::
  (nat_lit 688, { cls := Value.type "code", data := Data.fields #[Value.str (Str.ofString "_law_kind") 1065, Value.str (Str.ofString "_law_kind") 1066, Value.str (Str.ofString "/claim/cut.py") 1067, Value.int 250 0, Value.int 1 0, Value.int 0 0, Value.int 0 0, Value.int 3 0, Value.ref 683, Value.bool true, Value.int 181 0, Value.ref 684, Value.none, Value.ref 685, Value.ref 686, Value.ref 687, Value.int 1073 0, Value.int 250 0, Value.str (Str.ofString "/claim/cut.py") 1074] }) ::
  (nat_lit 689, ⟨Value.type "function", none, Data.func (PySem.W.fnOf (Str.ofString "_law_kind") (Str.ofString "_law_kind") (L2.defArgs s_l_kind) (L2.defBody s_l_kind) (L2.defScope s_l_kind) (Value.none) (Value.none) (Value.none) (Value.str (Str.ofString "law_sizechains_k09_sizes_read_and_refused") 972) (none) (Value.ref 688) (Value.none)), #[]⟩) ::
  (nat_lit 690, { cls := Value.type "tuple", data := Data.seq #[] }) ::
  (nat_lit 692, { cls := Value.type "tuple", data := Data.seq #[Value.str (Str.ofString "_law_act") 1079, Value.str (Str.ofString "_law_e") 1080] }) ::
  (nat_lit 693, { cls := Value.type "tuple", data := Data.seq #[] }) ::
  (nat_lit 695, { cls := Value.type "code", data := Data.fields #[Value.str (Str.ofString "_law_caught") 1076, Value.str (Str.ofString "_law_caught") 1077, Value.str (Str.ofString "/claim/cut.py") 1078, Value.int 264 0, Value.int 1 0, Value.int 0 0, Value.int 0 0, Value.int 3 0, Value.ref 690, Value.bool true, Value.int 181 0, Value.ref 691, Value.none, Value.ref 692, Value.ref 693, Value.ref 694, Value.int 1081 0, Value.int 264 0, Value.str (Str.ofString "/claim/cut.py") 1082] }) ::
  (nat_lit 696, ⟨Value.type "function", none, Data.func (PySem.W.fnOf (Str.ofString "_law_caught") (Str.ofString "_law_caught") (L2.defArgs s_l_caught) (L2.defBody s_l_caught) (L2.defScope s_l_caught) (Value.none) (Value.none) (Value.none) (Value.str (Str.ofString "law_sizechains_k09_sizes_read_and_refused") 972) (none) (Value.ref 695) (Value.none)), #[]⟩) ::
  (nat_lit 697, { cls := Value.type "tuple", data := Data.seq #[] }) ::
  (nat_lit 699, { cls := Value.type "tuple", data := Data.seq #[Value.str (Str.ofString "_law_part_here") 1087] }) ::
  (nat_lit 700, { cls := Value.type "tuple", data := Data.seq #[] }) ::
  (nat_lit 702, { cls := Value.type "code", data := Data.fields #[Value.str (Str.ofString "_law_shown") 1084, Value.str (Str.ofString "_law_shown") 1085, Value.str (Str.ofString "/claim/cut.py") 1086, Value.int 278 0, Value.int 1 0, Value.int 0 0, Value.int 0 0, Value.int 3 0, Value.ref 697, Value.bool true, Value.int 181 0, Value.ref 698, Value.none, Value.ref 699, Value.ref 700, Value.ref 701, Value.int 1088 0, Value.int 278 0, Value.str (Str.ofString "/claim/cut.py") 1089] }) ::
  (nat_lit 703, ⟨Value.type "function", none, Data.func (PySem.W.fnOf (Str.ofString "_law_shown") (Str.ofString "_law_shown") (L2.defArgs s_l_shown) (L2.defBody s_l_shown) (L2.defScope s_l_shown) (Value.none) (Value.none) (Value.none) (Value.str (Str.ofString "law_sizechains_k09_sizes_read_and_refused") 972) (none) (Value.ref 702) (Value.none)), #[]⟩) ::
  (nat_lit 704, { cls := Value.type "tuple", data := Data.seq #[] }) ::
  (nat_lit 707, { cls := Value.type "code", data := Data.fields #[Value.str (Str.ofString "_law_read") 1091, Value.str (Str.ofString "_law_read") 1092, Value.str (Str.ofString "/claim/cut.py") 1093, Value.int 280 0, Value.int 1 0, Value.int 0 0, Value.int 0 0, Value.int 3 0, Value.ref 704, Value.bool true, Value.int 181 0, Value.ref 705, Value.none, Value.none, Value.none, Value.ref 706, Value.int 1094 0, Value.int 280 0, Value.str (Str.ofString "/claim/cut.py") 1095] }) ::
  (nat_lit 708, ⟨Value.type "function", none, Data.func (PySem.W.fnOf (Str.ofString "_law_read") (Str.ofString "_law_read") (L2.defArgs s_l_read) (L2.defBody s_l_read) (L2.defScope s_l_read) (Value.none) (Value.none) (Value.none) (Value.str (Str.ofString "law_sizechains_k09_sizes_read_and_refused") 972) (none) (Value.ref 707) (Value.none)), #[]⟩) ::
  (nat_lit 709, { cls := Value.type "tuple", data := Data.seq #[] }) ::
  (nat_lit 712, { cls := Value.type "code", data := Data.fields #[Value.str (Str.ofString "_law_two") 1097, Value.str (Str.ofString "_law_two") 1098, Value.str (Str.ofString "/claim/cut.py") 1099, Value.int 291 0, Value.int 1 0, Value.int 0 0, Value.int 0 0, Value.int 3 0, Value.ref 709, Value.bool true, Value.int 181 0, Value.ref 710, Value.none, Value.none, Value.none, Value.ref 711, Value.int 1100 0, Value.int 291 0, Value.str (Str.ofString "/claim/cut.py") 1101] }) ::
  (nat_lit 713, ⟨Value.type "function", none, Data.func (PySem.W.fnOf (Str.ofString "_law_two") (Str.ofString "_law_two") (L2.defArgs s_l_two) (L2.defBody s_l_two) (L2.defScope s_l_two) (Value.none) (Value.none) (Value.none) (Value.str (Str.ofString "law_sizechains_k09_sizes_read_and_refused") 972) (none) (Value.ref 712) (Value.none)), #[]⟩) ::
  (nat_lit 714, { cls := Value.type "tuple", data := Data.seq #[] }) ::
  (nat_lit 716, { cls := Value.type "tuple", data := Data.seq #[Value.str (Str.ofString "_law_said") 1106, Value.str (Str.ofString "_law_found") 1107, Value.str (Str.ofString "_law_due") 1108, Value.str (Str.ofString "_law_told") 1109, Value.str (Str.ofString "_law_thing") 1110] }) ::
  (nat_lit 717, { cls := Value.type "tuple", data := Data.seq #[Value.str (Str.ofString "_law_said") 1111] }) ::
  (nat_lit 719, { cls := Value.type "code", data := Data.fields #[Value.str (Str.ofString "_law_read_right") 1103, Value.str (Str.ofString "_law_read_right") 1104, Value.str (Str.ofString "/claim/cut.py") 1105, Value.int 294 0, Value.int 1 0, Value.int 0 0, Value.int 0 0, Value.int 3 0, Value.ref 714, Value.bool true, Value.int 181 0, Value.ref 715, Value.none, Value.ref 716, Value.ref 717, Value.ref 718, Value.int 1112 0, Value.int 294 0, Value.str (Str.ofString "/claim/cut.py") 1113] }) ::
  (nat_lit 720, ⟨Value.type "function", none, Data.func (PySem.W.fnOf (Str.ofString "_law_read_right") (Str.ofString "_law_read_right") (L2.defArgs s_l_read_right) (L2.defBody s_l_read_right) (L2.defScope s_l_read_right) (Value.none) (Value.none) (Value.none) (Value.str (Str.ofString "law_sizechains_k09_sizes_read_and_refused") 972) (none) (Value.ref 719) (Value.none)), #[]⟩) ::
  (nat_lit 721, { cls := Value.type "tuple", data := Data.seq #[] }) ::
  (nat_lit 723, { cls := Value.type "tuple", data := Data.seq #[Value.str (Str.ofString "_law_thing") 1118] }) ::
  (nat_lit 724, { cls := Value.type "tuple", data := Data.seq #[] }) ::
  (nat_lit 726, { cls := Value.type "code", data := Data.fields #[Value.str (Str.ofString "_law_is_side") 1115, Value.str (Str.ofString "_law_is_side") 1116, Value.str (Str.ofString "/claim/cut.py") 1117, Value.int 307 0, Value.int 1 0, Value.int 0 0, Value.int 0 0, Value.int 3 0, Value.ref 721, Value.bool true, Value.int 181 0, Value.ref 722, Value.none, Value.ref 723, Value.ref 724, Value.ref 725, Value.int 1119 0, Value.int 307 0, Value.str (Str.ofString "/claim/cut.py") 1120] }) ::
  (nat_lit 727, ⟨Value.type "function", none, Data.func (PySem.W.fnOf (Str.ofString "_law_is_side") (Str.ofString "_law_is_side") (L2.defArgs s_l_is_side) (L2.defBody s_l_is_side) (L2.defScope s_l_is_side) (Value.none) (Value.none) (Value.none) (Value.str (Str.ofString "law_sizechains_k09_sizes_read_and_refused") 972) (none) (Value.ref 726) (Value.none)), #[]⟩) ::
  (nat_lit 728, { cls := Value.type "tuple", data := Data.seq #[] }) ::
  (nat_lit 730, { cls := Value.type "tuple", data := Data.seq #[Value.str (Str.ofString "_law_wide") 1125, Value.str (Str.ofString "_law_tall") 1126, Value.str (Str.ofString "_law_due") 1127, Value.str (Str.ofString "_law_told") 1128] }) ::
  (nat_lit 731, { cls := Value.type "tuple", data := Data.seq #[Value.str (Str.ofString "_law_wide") 1129, Value.str (Str.ofString "_law_tall") 1130] }) ::
  (nat_lit 733, { cls := Value.type "code", data := Data.fields #[Value.str (Str.ofString "_law_sides_right") 1122, Value.str (Str.ofString "_law_sides_right") 1123, Value.str (Str.ofString "/claim/cut.py") 1124, Value.int 309 0, Value.int 2 0, Value.int 0 0, Value.int 0 0, Value.int 3 0, Value.ref 728, Value.bool true, Value.int 181 0, Value.ref 729, Value.none, Value.ref 730, Value.ref 731, Value.ref 732, Value.int 1131 0, Value.int 309 0, Value.str (Str.ofString "/claim/cut.py") 1132] }) ::
  (nat_lit 734, ⟨Value.type "function", none, Data.func (PySem.W.fnOf (Str.ofString "_law_sides_right") (Str.ofString "_law_sides_right") (L2.defArgs s_l_sides_right) (L2.defBody s_l_sides_right) (L2.defScope s_l_sides_right) (Value.none) (Value.none) (Value.none) (Value.str (Str.ofString "law_sizechains_k09_sizes_read_and_refused") 972) (none) (Value.ref 733) (Value.none)), #[]⟩) ::
  (nat_lit 735, { cls := Value.type "tuple", data := Data.seq #[] }) ::
  (nat_lit 737, { cls := Value.type "tuple", data := Data.seq #[Value.str (Str.ofString "_law_pool_here") 1137, Value.str (Str.ofString "_law_sides_here") 1138, Value.str (Str.ofString "_law_wide") 1139, Value.str (Str.ofString "_law_tall") 1140, Value.str (Str.ofString "_law_said") 1141, Value.str (Str.ofString "_law_many") 1142, Value.str (Str.ofString "_law_at") 1143, Value.str (Str.ofString "_law_sign") 1144, Value.str (Str.ofString "_law_some") 1145, Value.str (Str.ofString "_law_high") 1146, Value.str (Str.ofString "_law_low_here") 1147] }) ::
  (nat_lit 738, { cls := Value.type "tuple", data := Data.seq #[] }) ::
  (nat_lit 740, { cls := Value.type "code", data := Data.fields #[Value.str (Str.ofString "_law_bent") 1134, Value.str (Str.ofString "_law_bent") 1135, Value.str (Str.ofString "/claim/cut.py") 1136, Value.int 316 0, Value.int 2 0, Value.int 0 0, Value.int 0 0, Value.int 3 0, Value.ref 735, Value.bool true, Value.int 181 0, Value.ref 736, Value.none, Value.ref 737, Value.ref 738, Value.ref 739, Value.int 1148 0, Value.int 316 0, Value.str (Str.ofString "/claim/cut.py") 1149] }) ::
  (nat_lit 741, ⟨Value.type "function", none, Data.func (PySem.W.fnOf (Str.ofString "_law_bent") (Str.ofString "_law_bent") (L2.defArgs s_l_bent) (L2.defBody s_l_bent) (L2.defScope s_l_bent) (Value.none) (Value.none) (Value.none) (Value.str (Str.ofString "law_sizechains_k09_sizes_read_and_refused") 972) (none) (Value.ref 740) (Value.none)), #[]⟩) ::
  (nat_lit 742, { cls := Value.type "tuple", data := Data.seq #[] }) ::
  (nat_lit 745, { cls := Value.type "code", data := Data.fields #[Value.str (Str.ofString "_law_by_hand") 1151, Value.str (Str.ofString "_law_by_hand") 1152, Value.str (Str.ofString "/claim/cut.py") 1153, Value.int 326 0, Value.int 0 0, Value.int 0 0, Value.int 0 0, Value.int 3 0, Value.ref 742, Value.bool true, Value.int 181 0, Value.ref 743, Value.none, Value.none, Value.none, Value.ref 744, Value.int 1154 0, Value.int 326 0, Value.str (Str.ofString "/claim/cut.py") 1155] }) ::
  (nat_lit 746, ⟨Value.type "function", none, Data.func (PySem.W.fnOf (Str.ofString "_law_by_hand") (Str.ofString "_law_by_hand") (L2.defArgs s_l_by_hand) (L2.defBody s_l_by_hand) (L2.defScope s_l_by_hand) (Value.none) (Value.none) (Value.none) (Value.str (Str.ofString "law_sizechains_k09_sizes_read_and_refused") 972) (none) (Value.ref 745) (Value.none)), #[]⟩) ::
  (nat_lit 747, { cls := Value.type "tuple", data := Data.seq #[] }) ::
  (nat_lit 750, { cls := Value.type "code", data := Data.fields #[Value.str (Str.ofString "_law_right") 1157, Value.str (Str.ofString "_law_right") 1158, Value.str (Str.ofString "/claim/cut.py") 1159, Value.int 336 0, Value.int 1 0, Value.int 0 0, Value.int 0 0, Value.int 3 0, Value.ref 747, Value.bool true, Value.int 181 0, Value.ref 748, Value.none, Value.none, Value.none, Value.ref 749, Value.int 1160 0, Value.int 336 0, Value.str (Str.ofString "/claim/cut.py") 1161] }) ::
  (nat_lit 751, ⟨Value.type "function", none, Data.func (PySem.W.fnOf (Str.ofString "_law_right") (Str.ofString "_law_right") (L2.defArgs s_l_right) (L2.defBody s_l_right) (L2.defScope s_l_right) (Value.none) (Value.none) (Value.none) (Value.str (Str.ofString "law_sizechains_k09_sizes_read_and_refused") 972) (none) (Value.ref 750) (Value.none)), #[]⟩) ::
  (nat_lit 752, { cls := Value.type "tuple", data := Data.seq #[] }) ::
  (nat_lit 755, { cls := Value.type "code", data := Data.fields #[Value.str (Str.ofString "law") 1163, Value.str (Str.ofString "law") 1164, Value.str (Str.ofString "/claim/cut.py") 1165, Value.int 348 0, Value.int 1 0, Value.int 0 0, Value.int 0 0, Value.int 3 0, Value.ref 752, Value.bool true, Value.int 181 0, Value.ref 753, Value.none, Value.none, Value.none, Value.ref 754, Value.int 1166 0, Value.int 348 0, Value.str (Str.ofString "/claim/cut.py") 1167] }) ::
  (nat_lit 756, ⟨Value.type "function", none, Data.func (PySem.W.fnOf (Str.ofString "law") (Str.ofString "law") (L2.defArgs s_law) (L2.defBody s_law) (L2.defScope s_law) (Value.none) (Value.none) (Value.none) (Value.str (Str.ofString "law_sizechains_k09_sizes_read_and_refused") 972) (none) (Value.ref 755) (Value.none)), #[]⟩) :: []
def as0 : List Nat := [2, 3, 15, 17, 18, 20, 21, 22, 29, 30, 31, 32, 35, 42, 44, 45, 47, 48, 49, 50, 51, 54, 61, 63, 64, 66, 67, 68, 69, 70, 73, 80, 82, 83, 85, 86, 87, 88, 89, 92, 99, 101, 102, 104, 105, 106, 107, 108, 111, 118, 120, 121, 123, 124, 125, 126, 127, 130, 137, 139, 140, 142, 143, 144, 145, 146, 149, 156, 158, 159, 161, 162, 163, 164, 165, 168, 175, 177, 178, 180, 181, 182, 183, 184, 187, 194, 196, 197, 199, 200, 201, 202, 203, 206, 213, 215, 216, 218, 219, 220, 221, 222, 225, 232, 234, 235, 237, 238, 239, 240, 241, 244, 251, 253, 254, 256, 257, 258, 259, 260, 263, 270, 272, 273, 275, 276, 277, 278, 279, 282, 289, 291, 292, 294, 295, 296, 297, 298, 301, 308, 309, 310, 311, 314, 321, 323, 324, 326, 327, 328, 329, 330, 333, 340, 342, 343, 345, 346, 347, 348, 349, 352, 359, 361, 362, 364, 365, 366, 367, 368, 371, 378, 379, 380, 383, 390, 391, 392, 393, 396, 403, 405, 406, 408, 409, 410, 411, 412, 415, 422, 424, 425, 427, 428, 429, 430, 431, 434, 436, 437, 439, 440, 441, 443, 444, 446, 447, 448, 450, 451, 453, 454, 455, 457, 458, 460, 461, 462, 464, 465, 467, 468, 469, 471, 472, 474, 475, 476, 478, 479, 481, 482, 483, 485, 486, 488, 489, 490, 492, 493, 495, 496, 497, 499, 500, 502, 503, 504, 506, 507, 509, 510, 511, 513, 514, 516, 517, 518, 520, 521, 523, 524, 525, 527, 528, 530, 531, 539, 541, 542, 544, 545, 546, 548, 549, 551, 552, 553, 554, 555, 556, 558, 559, 561, 562, 563, 564, 566, 567, 569, 570, 571, 573, 574, 576, 577, 578, 580, 581, 583, 584, 585, 587, 588, 590, 591, 592, 594, 595, 597, 598, 599, 601, 602, 604, 605, 606, 607, 608, 609, 610, 613, 615, 616, 618, 619, 620, 622, 623, 625, 626, 627, 629, 630, 632, 633, 634, 636, 637, 639, 640, 641, 643, 644, 646, 647, 648, 650, 651, 653, 654, 655, 657, 658, 660, 661, 662, 664, 665, 667, 668, 669, 671, 672, 674, 675, 676, 678, 679, 681, 682, 683, 685, 686, 688, 689, 690, 692, 693, 695, 696, 697, 699, 700, 702, 703, 704, 707, 708, 709, 712, 713, 714, 716, 717, 719, 720, 721, 723, 724, 726, 727, 728, 730, 731, 733, 734, 735, 737, 738, 740, 741, 742, 745, 746, 747, 750, 751, 752, 755, 756]
abbrev ts0 : List PySem.Addr := [715, 729]
theorem as0_ok : ∀ P, as0 = (K0 P).map (·.1) := fun _ => by kernel_rfl
theorem left_oneKm {p q : Program} {loose : List PySem.Str} {Xt : Shared → Bool} {K : PySem.Params → PySem.W.Frag} {as ts : List PySem.Addr} {ek : ∀ P, as = (K P).map (·.1)} {N M : Nat}
    (e : PySem.W.opening p = PySem.W.plainProg p.main.scope.names) (hN : Nat.ble 600 N = true) (f : ∀ s, PySem.fenceModules? p s = some s) (le : Nat.ble M N = true)
    (run : ∀ (w : World) (os : OsState), (HeadRun.endF (HeadRun.stepQ (HeadRun.denQ HeadRun.tabQ) p w) M p w os).map (fun s => (HeadRun.looksF p (PySem.W.boot_heap w.params) s.abs, HeadRun.seenQ q loose (importedModules p.main.body) Xt s.abs, as.map (HeadRun.getT s), ts.map (HeadRun.getT s))) = some (true, PySem.W.openGood q loose, (K w.params).map fun x => some x.2, ts.map fun _ => some (PySem.W.tabObj #[]))) :
    PySem.W.LeftO p q loose Xt (PySem.W.Hook.obs (PySem.W.kmHook K as ek ts)) (PySem.W.Hook.val (PySem.W.kmHook K as ek ts)) N true :=
  HeadRun.left_one (M := M) e hN f le fun w os => by
    have z := run w os
    have eo : (fun s : PySem.W.SharedT => (HeadRun.looksF p (PySem.W.boot_heap w.params) s.abs, HeadRun.seenQ q loose (importedModules p.main.body) Xt s.abs, as.map (HeadRun.getT s), ts.map (HeadRun.getT s))) = fun s => (HeadRun.looksF p (PySem.W.boot_heap w.params) s.abs, HeadRun.seenQ q loose (importedModules p.main.body) Xt s.abs, PySem.W.Hook.obs (PySem.W.kmHook K as ek ts) s.abs) := by
      funext s
      have q1 : (as.map (HeadRun.getT s), ts.map (HeadRun.getT s)) = PySem.W.Hook.obs (PySem.W.kmHook K as ek ts) s.abs := Prod.ext (List.map_congr_left fun a _ => HeadRun.getT_eq s a) (List.map_congr_left fun a _ => HeadRun.getT_eq s a)
      rw [q1]
      rfl
    rw [eo] at z
    simp only [HeadRun.endQ_eq, HeadRun.seenQ_eq]
    exact z
set_option maxHeartbeats 0 in
theorem left0 : PySem.W.LeftO PySem.Challenge.rw_sizechains_k09_sizes_read_and_refused.row.prog q0 loose0 seen0 (PySem.W.kmHook K0 as0 as0_ok ts0).obs (PySem.W.kmHook K0 as0 as0_ok ts0).val 15366 true :=
  left_oneKm (M := 14666) (by kernel_rfl) (by rfl) (fun s => by kernel_rfl) (by rfl) (fun w os => by kernel_rfl)


/-! repr of data at any depth, where no repr is running around -/
structure RRepr (K : PySem.W.Frag) (xs : List V) (H : Hp) (Q : VK) : Prop where
  ex : ∃ (v : V) (d : PyData), xs = [v] ∧ Dp K H v d ∧ isDisplay d = true ∧ d.showable = true ∧ d.hasDict = false ∧ d.depth ≤ 64 ∧ d.shown.length ≤ sizeLine ∧ Q (.str d.shown) H
/-! a def's promise where it is known that no repr is running around -/
structure FnG (P : Program) (w : World) (K : PySem.W.Frag) (mg : Str → Option Value) (base : Heap) (CX : CXT) (k : Nat) (f : Addr) (fd : FuncData) (ps : List Str) (sp : Sp) : Prop where
  len : ∀ vs H Q E, sp vs H Q E → vs.length = ps.length
  go : ∀ (A : Around) (out : List Env) (st : Shared) (H : Hp) (as : Args) (us : List Value) (vs : List V) (Q : VK) (E : XK), A.guards = some [] → Room k A → Env0 P w K mg base A out st H →
    BindsTo st fd as (ps.zip us) → Vals vs us → sp vs H Q E → codeAny (model P w) A (.call (.ref f) as) (CR CX out P w H st Q E) st
section
variable {P : Program} {w : World} {K : PySem.W.Frag} {mg : Str → Option Value} {base : Heap} {CX : CXT} {k : Nat} {f : Addr} {fd : FuncData} {ps : List Str} {sp : Sp}
theorem FnG.of (F : FnOk P w K mg base CX k f fd ps sp) : FnG P w K mg base CX k f fd ps sp :=
  ⟨F.len, fun A out st H as us vs Q E _ r e b v h => F.run A out st H as us vs Q E r e b v h⟩
theorem FnG.up {j : Nat} (F : FnG P w K mg base CX j f fd ps sp) (h : j ≤ k) : FnG P w K mg base CX k f fd ps sp :=
  ⟨F.len, fun A out st H as us vs Q E g r e b v s => F.go A out st H as us vs Q E g (r.mono h) e b v s⟩
theorem FnG.imp {sp' : Sp} (F : FnG P w K mg base CX k f fd ps sp) (h : ∀ vs H Q E, sp' vs H Q E → sp vs H Q E) : FnG P w K mg base CX k f fd ps sp' :=
  ⟨fun vs H Q E q => F.len vs H Q E (h _ _ _ _ q), fun A out st H as us vs Q E g r e b v s => F.go A out st H as us vs Q E g r e b v (h _ _ _ _ s)⟩

/-- by the body -/
theorem okG0 {name qual : Str} {params : Arguments} {body : List Stmt} {scope : Scope} {dV kV doc pm cdv ct oc : Value} {an od : Option Addr} {osl : Array (Option Value)} {N : List Str}
    (lk : K.lookup f = some ⟨oc, od, .func (PySem.W.fnOf name qual params body scope dV kV doc pm an cdv ct), osl⟩) (code : PySem.W.codeIn K cdv qual = true) (S : FnScope N ps scope)
    (len : ∀ vs H Q E, sp vs H Q E → vs.length = ps.length)
    (walk : ∀ (A : Around) (out : List Env) (st : Shared) (H : Hp) (vs : List V) (Q : VK) (E : XK), A.guards = some [] → Room k (A.deeper (envOfC qual scope st.heap.objs.size f cdv)) → sp vs H Q E →
      ∃ t, PSs (cxOf CX P w K mg base N qual scope f cdv A out st H E) body t ∧ t { nx := fun _ H' => Q .non H', rt := Q } (start N vs) H) :
    FnG P w K mg base CX (k + 1) f (PySem.W.fnOf name qual params body scope dV kV doc pm an cdv ct) ps sp := by
  refine ⟨len, ?_⟩
  intro A out st H as us vs Q E gds room env binds vals want
  have size := len _ _ _ _ want
  have lim : st.heap.NoLimit := env.mod.nolimit.keeps fun b o e => (env.bs b o e).1
  have inK : K.In st.heap := env.mod.kin.keeps fun b o e => (env.bs b o e).1
  have kinds : ∀ y ∈ ps.zip us, scope.names.lookup y.1 = some .local ∨ (scope.names.lookup y.1 = some .cell ∧ ((cellsFrom (st.heap.objs.size + 1) scope.names []).lookup y.1).isSome = true) := by
    rintro ⟨n, v⟩ mem
    have mem1 : n ∈ ps := (List.of_mem_zip mem).1
    cases S.par n mem1 with
    | inl loc => exact Or.inl loc
    | inr cel => exact Or.inr ⟨cel, PySem.W.cellsFrom_some _ _ _ (Or.inl cel)⟩
  refine codeAny_call_function room.depth (inK _ _ lk) rfl S.co S.gen rfl (PySem.W.codeRec_of inK code) (binds _ _ _ _ ?_)
  refine wpAny_newFunctionEnv_cells S.kind kinds fun en hen s1 inn => ?_
  subst hen
  refine ⟨lim.keeps inn.toInCall.keep, codeAny_func ?_⟩
  obtain ⟨t, term, read⟩ := walk A out st H vs Q E gds (room.deeper _) want
  have inv := inv_start (CX := CX) (E := E) S room.hd env size vals inn
  refine wpAny_mono (term.run [] s1 (start N vs) H _ inv read) (fun fl s' hs => ?_) fun _ _ hs => hs
  have done : ∀ {sl' : L2.St} {H' : Hp} {v : V} {u : Value}, Inv (cxOf CX P w K mg base N qual scope f cdv A out st H E) [] sl' H' s' → RelV v u → Q v H' → CE out P w H st Q u s' := by
    intro sl' H' v u J rel q
    exact ⟨v, H', J.os, J.bare, J.base, J.hok, rel, q⟩
  cases fl with
  | next =>
    obtain ⟨_, _, J, q⟩ := hs
    exact done (v := V.non) (u := Value.none) J rfl q
  | ret u =>
    obtain ⟨_, _, _, J, rel, q⟩ := hs
    exact done J rel q
  | brk => exact (hs.choose_spec.choose_spec.2).elim
  | cont => exact (hs.choose_spec.choose_spec.2).elim

end

/-! calls -/
section
variable {X : Cx} {CX : CXT} {k n : Nat} {f : Addr} {fd : FuncData} {ps ks : List Str} {sp : Sp} {dvs : List V} {ds : List Value} {E : XK} {x : Str} {p pos : Pos} {e : Expr} {es : List Expr} {kws : List Keyword} {t tk : TA} {g : List Value → List Value → List Value} {gV : List V → List V → List V}
theorem goG {pins : List (Addr × Obj)} {sl : L2.St} {H : Hp} {s : Shared} {Q : VK} {us0 us : List Value} {kw : List (Str × Value)} {vs : List V} (F : FnG X.prog X.w X.K X.mg X.base CX k f fd ps sp) (gds : X.A.guards = some []) (hr : Room k X.A) (hx : Passes CX X E)
    (inv : Inv X pins sl H s) (b : BindsTo s fd ⟨us0, kw⟩ (ps.zip us)) (r : Vals vs us) (want : sp vs H Q E) : wpAny (model X.prog X.w) X.A (call (.ref f) us0 kw) (EP X pins sl Q) X.xe s := by
  refine wpAny_call (codeAny_mono (F.go X.A X.stack s H ⟨us0, kw⟩ us vs Q E gds hr inv.env0 b r want) fun r s' got => ?_)
  cases r with
  | error e => exact hx pins sl H s e s' inv got
  | ok fl =>
    cases fl with
    | ret u => exact inv.after got
    | next => exact got.elim
    | brk => exact got.elim
    | cont => exact got.elim
theorem callG (F : FnG X.prog X.w X.K X.mg X.base CX k f fd ps sp) (gds : X.A.guards = some []) (hr : Room k X.A) (hg : Gl X x) (hm : X.mg x = some (.ref f)) (hk : PySem.W.keepIn X.K (.ref f) = true) (hb : Binds X.K fd ps ds) (hd : Vals dvs ds) (hx : Passes CX X E)
    (ha : PA X (e :: es) t) (hdb : (x == ("__debug__" : Str)) = false := by decide) (he : starEach (e :: es) X.env = (false, eval e X.env) :: starEach es X.env := by rfl) (hpl : (backTo pos (starEach es X.env)).any (·.1) = false := by rfl) :
    PE X (.Call (.Name x p) (e :: es) [] pos) (tCall sp dvs E t) := by
  constructor
  intro pins s sl H Q inv want
  refine wpAny_Call_Name_kw (ld_glob inv hg hm ?_ hdb)
  refine PySem.W.callWith_K (h₀ := X.base) inv.ok.mod.kin hk (thn (ha.run pos pins s sl H _ inv want) ?_) he hpl
  rintro us s1 ⟨vs, H1, inv1, rel, q⟩
  refine ⟨inv1.kIn, ?_⟩
  have rel2 : Vals (vs ++ dvs) (us ++ ds) := rel.append hd
  have sz : (us ++ ds).length = ps.length := rel2.length.symm.trans (F.len _ _ _ _ q)
  exact goG F gds hr hx inv1 (hb s1 us inv1.kIn sz) rel2 q
theorem callG0 (F : FnG X.prog X.w X.K X.mg X.base CX k f fd ps sp) (gds : X.A.guards = some []) (hr : Room k X.A) (hg : Gl X x) (hm : X.mg x = some (.ref f)) (hk : PySem.W.keepIn X.K (.ref f) = true) (hb : Binds X.K fd ps ds) (hd : Vals dvs ds) (hx : Passes CX X E)
    (hdb : (x == ("__debug__" : Str)) = false := by decide) : PE X (.Call (.Name x p) [] [] pos) (tCall sp dvs E tNil) := by
  constructor
  intro pins s sl H Q inv want
  refine wpAny_Call_Name_kw (ld_glob inv hg hm ?_ hdb)
  refine PySem.W.callWith_K0 inv.kIn hk ?_
  have q : sp dvs H Q E := want
  have sz : (([] : List Value) ++ ds).length = ps.length := hd.length.symm.trans (F.len _ _ _ _ q)
  exact goG F gds hr hx inv (hb s [] inv.kIn sz) hd q
end


/-! the end: the law's promise at the heap behind the top -/
section
variable {P : Program} {w : World} {K : PySem.W.Frag} {mg mb : Str → Option Value} {k : Nat} {fa a : Addr} {fd : FuncData} {x : Str} {sp : Sp} {st : Shared} {vs : List Value} {ns : List Int}
end

/-! arguments where some parameters have defaults -/
/-! ### values as trees -/
inductive T where
  | non | bl (b : Bool) | int (i : Int) | str (z : Str) | ty (n : String) | st (a : Addr) | cell (a : Addr)
  | tup (l : List T) | lst (l : List T) | scr (l : List T) | ins (C : Addr) (l : List (Str × T)) | dct | exc (C : Addr) (l : List (Str × T))
/-- what changes: a list, an instance -/
inductive Cell where
  | lst (l : List T) | ins (C : Addr) (l : List (Str × T)) | tab (q : Str)
abbrev Store := Addr → Option Cell
def Store.put (S : Store) (a : Addr) (c : Cell) : Store := fun b => if b = a then some c else S b
def Store.drop (S : Store) (a : Addr) : Store := fun b => if b = a then none else S b
theorem put_same {S : Store} {a : Addr} {c : Cell} : S.put a c a = some c := by unfold Store.put; rw [if_pos rfl]
theorem put_ne {S : Store} {a b : Addr} {c : Cell} (h : b ≠ a) : S.put a c b = S b := by unfold Store.put; rw [if_neg h]
theorem drop_same {S : Store} {a : Addr} : S.drop a a = none := by unfold Store.drop; rw [if_pos rfl]
theorem drop_ne {S : Store} {a b : Addr} (h : b ≠ a) : S.drop a b = S b := by unfold Store.drop; rw [if_neg h]
theorem put_put {S : Store} {a : Addr} {c d : Cell} : (S.put a c).put a d = S.put a d := by
  funext b; unfold Store.put; split <;> rfl
theorem put_drop {S : Store} {a : Addr} {c : Cell} (h : S a = none) : (S.put a c).drop a = S := by
  funext b
  by_cases e : b = a
  · subst e; rw [drop_same, h]
  · rw [drop_ne e, put_ne e]
/-- what may be hidden: a list, a dict -/
inductive Hi where
  | l (vs : List V) | d (kvs : List (Key × V))
def Hi.ho : Hi → HO
  | .l vs => .lst vs
  | .d kvs => .dK kvs
theorem Hi.nt (o : Hi) (ps) : o.ho ≠ .tbl ps := by cases o <;> exact fun e => nomatch e
section
variable (K : PySem.W.Frag) (Z : Addr → Prop) (S : Store) (H : Hp)
def TupAt (p : Addr) (vs : List V) : Prop := (Rd H p (.tup vs) ∧ S p = none ∧ ¬ Z p) ∨
  ∃ (o : Obj) (its : Array Value) (n : Nat), K.lookup p = some o ∧ o.cls = .type "tuple" ∧ o.data = .seq its n ∧ its.size ≤ sizeLine ∧ Vals vs its.toList
def LstAt (p : Addr) (vs : List V) : Prop := H p = some (.lst vs) ∧ S p = none ∧ ¬ Z p
def ScrAt (p : Addr) (vs : List V) : Prop := ((∃ o, H p = some (.frz o (.lst vs))) ∧ S p = none ∧ ¬ Z p) ∨
  ∃ (o : Obj) (its : Array Value) (n : Nat), K.lookup p = some o ∧ o.cls = .type "list" ∧ o.dict = none ∧ o.data = .seq its n ∧ its.size ≤ sizeLine ∧ Vals vs its.toList
/-- an error of a class of the program's own, with its own dict -/
def ExcAt (p C dx : Addr) : Heap → Prop := fun h => ∃ (oe : Obj) (t1 : Addr), h.get? p = some oe ∧ oe.cls = .ref C ∧ oe.dict = some dx ∧ oe.data = .fields #[.ref t1, .none, .none, .none, .bool false, .none]
mutual
inductive Rep : V → T → Prop
  | non : Rep .non .non
  | bl (b : Bool) : Rep (.bl b) (.bl b)
  | int (i : Int) : Rep (.int i) (.int i)
  | str (z : Str) : Rep (.str z) (.str z)
  | ty (n : String) : Rep (.ty n) (.ty n)
  | st (a : Addr) : Rep (.ref a) (.st a)
  | cell (a : Addr) : Rep (.ref a) (.cell a)
  | tup {p : Addr} {vs : List V} {ts : List T} (h : TupAt K Z S H p vs) (r : Reps vs ts) : Rep (.ref p) (.tup ts)
  | lst {p : Addr} {vs : List V} {ts : List T} (h : LstAt Z S H p vs) (r : Reps vs ts) : Rep (.ref p) (.lst ts)
  | scr {p : Addr} {vs : List V} {ts : List T} (h : ScrAt K Z S H p vs) (r : Reps vs ts) : Rep (.ref p) (.scr ts)
  | ins {p C dx : Addr} {fs : List (Str × V)} {gs : List (Str × T)} (h : H p = some (.ins C dx fs)) (n : S p = none ∧ ¬ Z p) (r : RepF fs gs) : Rep (.ref p) (.ins C gs)
  | dct {p : Addr} (h : H p = some (.dK [])) (n : S p = none ∧ ¬ Z p) : Rep (.ref p) .dct
  | exc {p C dx : Addr} {fs : List (Str × V)} {gs : List (Str × T)} (h : H p = some (.ext (ExcAt p C dx))) (n : S p = none ∧ ¬ Z p) (hd : H dx = some (.xd fs)) (nd : S dx = none ∧ ¬ Z dx) (r : RepF fs gs) : Rep (.ref p) (.exc C gs)
inductive Reps : List V → List T → Prop
  | nil : Reps [] []
  | cons {v : V} {t : T} {vs : List V} {ts : List T} (h : Rep v t) (r : Reps vs ts) : Reps (v :: vs) (t :: ts)
inductive RepF : List (Str × V) → List (Str × T) → Prop
  | nil : RepF [] []
  | cons {n : Str} {v : V} {t : T} {vs : List (Str × V)} {ts : List (Str × T)} (h : Rep v t) (r : RepF vs ts) : RepF ((n, v) :: vs) ((n, t) :: ts)
end
def CellOk (a : Addr) : Option Cell → Prop
  | none => True
  | some (.lst ts) => ∃ vs, H a = some (.lst vs) ∧ Reps K Z S H vs ts
  | some (.ins C gs) => ∃ dx fs, H a = some (.ins C dx fs) ∧ RepF K Z S H fs gs
  | some (.tab q) => LamX.TabS H a q
structure Ok : Prop where
  cl : ∀ a, CellOk K Z S H a (S a)
  hid : ∀ a, Z a → S a = none ∧ ∃ o : Hi, H a = some o.ho
end
/-- what stands, but for the cells, stands later -/
def Le (S : Store) (H : Hp) (S' : Store) (H' : Hp) : Prop := ∀ a o, H a = some o → S a = none → (∀ ps, o ≠ .tbl ps) → H' a = some o ∧ S' a = none
/-- .. and but for what is hidden -/
def LeZ (Z : Addr → Prop) (S : Store) (H : Hp) (S' : Store) (H' : Hp) : Prop := ∀ a o, H a = some o → S a = none → ¬ Z a → (∀ ps, o ≠ .tbl ps) → H' a = some o ∧ S' a = none
section
variable {K : PySem.W.Frag} {Z : Addr → Prop} {S S' S2 : Store} {H H' H2 : Hp}
theorem Le.refl : Le S H S H := fun _ _ h n _ => ⟨h, n⟩
theorem Le.z (l : Le S H S' H') : LeZ Z S H S' H' := fun a o h n _ => l a o h n
theorem Le.trans (a : Le S H S' H') (b : Le S' H' S2 H2) : Le S H S2 H2 := fun p o h n nt => b p o (a p o h n nt).1 (a p o h n nt).2 nt
theorem TupAt.lz {p : Addr} {vs : List V} (h : TupAt K Z S H p vs) (l : LeZ Z S H S' H') : TupAt K Z S' H' p vs := by
  rcases h with ⟨r, n, z⟩ | h
  · rcases r with r | ⟨o, r⟩
    · exact .inl ⟨.inl (l _ _ r n z (fun _ e => nomatch e)).1, (l _ _ r n z (fun _ e => nomatch e)).2, z⟩
    · exact .inl ⟨.inr ⟨o, (l _ _ r n z (fun _ e => nomatch e)).1⟩, (l _ _ r n z (fun _ e => nomatch e)).2, z⟩
  · exact .inr h
theorem TupAt.le {p : Addr} {vs : List V} (h : TupAt K Z S H p vs) (l : Le S H S' H') : TupAt K Z S' H' p vs := h.lz l.z
theorem LstAt.lz {p : Addr} {vs : List V} (h : LstAt Z S H p vs) (l : LeZ Z S H S' H') : LstAt Z S' H' p vs := ⟨(l _ _ h.1 h.2.1 h.2.2 (fun _ e => nomatch e)).1, (l _ _ h.1 h.2.1 h.2.2 (fun _ e => nomatch e)).2, h.2.2⟩
theorem ScrAt.lz {p : Addr} {vs : List V} (h : ScrAt K Z S H p vs) (l : LeZ Z S H S' H') : ScrAt K Z S' H' p vs := by
  rcases h with ⟨⟨o, r⟩, n, z⟩ | h
  · exact .inl ⟨⟨o, (l _ _ r n z (fun _ e => nomatch e)).1⟩, (l _ _ r n z (fun _ e => nomatch e)).2, z⟩
  · exact .inr h
theorem LstAt.le {p : Addr} {vs : List V} (h : LstAt Z S H p vs) (l : Le S H S' H') : LstAt Z S' H' p vs := h.lz l.z
theorem ScrAt.le {p : Addr} {vs : List V} (h : ScrAt K Z S H p vs) (l : Le S H S' H') : ScrAt K Z S' H' p vs := h.lz l.z
theorem TupAt.sq {p : Addr} {vs : List V} (h : TupAt K Z S H p vs) : SqT K H p vs := h.imp And.left id
theorem LstAt.sq {p : Addr} {vs : List V} (h : LstAt Z S H p vs) : SqL K H p vs := .inl (.inl h.1)
theorem ScrAt.sq {p : Addr} {vs : List V} (h : ScrAt K Z S H p vs) : SqL K H p vs := h.imp (fun a => .inr a.1) id
mutual
theorem Rep.lz (l : LeZ Z S H S' H') : ∀ {v : V} {t : T}, Rep K Z S H v t → Rep K Z S' H' v t
  | _, _, .non => .non
  | _, _, .bl b => .bl b
  | _, _, .int i => .int i
  | _, _, .str z => .str z
  | _, _, .ty n => .ty n
  | _, _, .st a => .st a
  | _, _, .cell a => .cell a
  | _, _, .tup h r => .tup (h.lz l) (Reps.lz l r)
  | _, _, .lst h r => .lst (h.lz l) (Reps.lz l r)
  | _, _, .scr h r => .scr (h.lz l) (Reps.lz l r)
  | _, _, .ins h n r => .ins (l _ _ h n.1 n.2 (fun _ e => nomatch e)).1 ⟨(l _ _ h n.1 n.2 (fun _ e => nomatch e)).2, n.2⟩ (RepF.lz l r)
  | _, _, .dct h n => .dct (l _ _ h n.1 n.2 (fun _ e => nomatch e)).1 ⟨(l _ _ h n.1 n.2 (fun _ e => nomatch e)).2, n.2⟩
  | _, _, .exc h n hd nd r => .exc (l _ _ h n.1 n.2 (fun _ e => nomatch e)).1 ⟨(l _ _ h n.1 n.2 (fun _ e => nomatch e)).2, n.2⟩ (l _ _ hd nd.1 nd.2 (fun _ e => nomatch e)).1 ⟨(l _ _ hd nd.1 nd.2 (fun _ e => nomatch e)).2, nd.2⟩ (RepF.lz l r)
theorem Reps.lz (l : LeZ Z S H S' H') : ∀ {vs : List V} {ts : List T}, Reps K Z S H vs ts → Reps K Z S' H' vs ts
  | _, _, .nil => .nil
  | _, _, .cons h r => .cons (Rep.lz l h) (Reps.lz l r)
theorem RepF.lz (l : LeZ Z S H S' H') : ∀ {vs : List (Str × V)} {ts : List (Str × T)}, RepF K Z S H vs ts → RepF K Z S' H' vs ts
  | _, _, .nil => .nil
  | _, _, .cons h r => .cons (Rep.lz l h) (RepF.lz l r)
end
theorem Rep.le {v : V} {t : T} (r : Rep K Z S H v t) (l : Le S H S' H') : Rep K Z S' H' v t := r.lz l.z
theorem Reps.le {vs : List V} {ts : List T} (r : Reps K Z S H vs ts) (l : Le S H S' H') : Reps K Z S' H' vs ts := r.lz l.z
theorem RepF.le {vs : List (Str × V)} {ts : List (Str × T)} (r : RepF K Z S H vs ts) (l : Le S H S' H') : RepF K Z S' H' vs ts := r.lz l.z
theorem Reps.length : ∀ {ts : List T} {vs : List V}, Reps K Z S H vs ts → vs.length = ts.length
  | [], _, .nil => rfl
  | _ :: _, _, .cons _ r => by simp [Reps.length r]
theorem Reps.append {vs ws : List V} {ts us : List T} (r : Reps K Z S H vs ts) (q : Reps K Z S H ws us) : Reps K Z S H (vs ++ ws) (ts ++ us) := by
  induction ts generalizing vs with
  | nil => cases r; exact q
  | cons t ts ih => cases r with | cons h r => exact .cons h (ih r)
theorem Reps.get {vs : List V} {ts : List T} {i : Nat} {t : T} (r : Reps K Z S H vs ts) (h : ts[i]? = some t) : ∃ v, vs[i]? = some v ∧ Rep K Z S H v t := by
  induction ts generalizing vs i with
  | nil => cases h
  | cons u ts ih =>
    cases r with
    | cons q r =>
      cases i with
      | zero => cases h; exact ⟨_, rfl, q⟩
      | succ i =>
        have hh : ts[i]? = some t := h
        obtain ⟨w, a, b⟩ := ih r hh
        exact ⟨w, a, b⟩
theorem Reps.take {vs : List V} {ts : List T} (n : Nat) (r : Reps K Z S H vs ts) : Reps K Z S H (vs.take n) (ts.take n) := by
  induction ts generalizing vs n with
  | nil => cases r; simp; exact .nil
  | cons t ts ih =>
    cases r with
    | cons h r =>
      cases n with
      | zero => exact .nil
      | succ n => exact .cons h (ih n r)
theorem Reps.drop {vs : List V} {ts : List T} (n : Nat) (r : Reps K Z S H vs ts) : Reps K Z S H (vs.drop n) (ts.drop n) := by
  induction ts generalizing vs n with
  | nil => cases r; simp; exact .nil
  | cons t ts ih =>
    cases r with
    | cons h r =>
      cases n with
      | zero => exact .cons h r
      | succ n => exact ih n r
theorem Reps.set {vs : List V} {ts : List T} {v : V} {t : T} (n : Nat) (r : Reps K Z S H vs ts) (h : Rep K Z S H v t) : Reps K Z S H (vs.set n v) (ts.set n t) := by
  induction ts generalizing vs n with
  | nil => cases r; exact .nil
  | cons u ts ih =>
    cases r with
    | cons q r =>
      cases n with
      | zero => exact .cons h r
      | succ n => exact .cons q (ih n r)
theorem Reps.reverse {vs : List V} {ts : List T} (r : Reps K Z S H vs ts) : Reps K Z S H vs.reverse ts.reverse := by
  induction ts generalizing vs with
  | nil => cases r; exact .nil
  | cons u ts ih =>
    cases r with
    | cons q r => rw [List.reverse_cons, List.reverse_cons]; exact (ih r).append (.cons q .nil)
theorem RepF.look {fs : List (Str × V)} {gs : List (Str × T)} {f : Str} {t : T} (r : RepF K Z S H fs gs) (h : gs.lookup f = some t) : ∃ v, fs.lookup f = some v ∧ Rep K Z S H v t := by
  induction gs generalizing fs with
  | nil => cases h
  | cons g gs ih =>
    cases r with
    | @cons n v u vs ts q r =>
      by_cases e : f = n
      · subst e
        simp only [List.lookup, beq_self_eq_true] at h ⊢
        cases h
        exact ⟨_, rfl, q⟩
      · have e' : (f == n) = false := by simpa using e
        simp only [List.lookup, e'] at h ⊢
        exact ih r h
theorem RepF.length {fs : List (Str × V)} {gs : List (Str × T)} (r : RepF K Z S H fs gs) : fs.length = gs.length := by
  induction gs generalizing fs with
  | nil => cases r; rfl
  | cons g gs ih => cases r with | cons q r => simp [ih r]
/-- a new thing is laid -/
theorem le_new {p : Addr} {o : HO} (h : H p = none) : Le S H S (upd H p o) := fun a u e n _ => ⟨by rw [upd_ne (ne_of_none e h)]; exact e, n⟩
theorem Ok.free {p : Addr} (ok : Ok K Z S H) (h : H p = none) : S p = none := by
  have := ok.cl p
  cases e : S p with
  | none => rfl
  | some c =>
    rw [e] at this
    cases c with
    | lst ts => obtain ⟨vs, q, _⟩ := this; rw [h] at q; cases q
    | ins C gs => obtain ⟨dx, fs, q, _⟩ := this; rw [h] at q; cases q
    | tab z => obtain ⟨ps, q, _⟩ := this; rw [h] at q; cases q
theorem Ok.nz {p : Addr} (ok : Ok K Z S H) (h : H p = none) : ¬ Z p := fun z => by
  obtain ⟨_, o, e⟩ := ok.hid p z
  rw [h] at e; cases e
theorem Ok.nzc {p : Addr} {c : Cell} (ok : Ok K Z S H) (h : S p = some c) : ¬ Z p := fun z => by
  obtain ⟨e, _⟩ := ok.hid p z
  rw [h] at e; cases e
theorem Ok.codeN {c : Addr} {q : Str} (ok : Ok K Z S H) (h : H c = some (LamX.CodeO c q)) : S c = none := by
  have k := ok.cl c
  cases e : S c with
  | none => rfl
  | some x =>
    rw [e] at k
    cases x with
    | lst ts => obtain ⟨vs, z, _⟩ := k; rw [h] at z; cases z
    | ins C gs => obtain ⟨dx, fs, z, _⟩ := k; rw [h] at z; cases z
    | tab w => obtain ⟨ps, z, _⟩ := k; rw [h] at z; cases z
theorem tab_le {P : Addr} {q : Str} (k : LamX.TabS H P q) (e : H' P = H P) (f : ∀ c, H c = some (LamX.CodeO c q) → H' c = some (LamX.CodeO c q)) : LamX.TabS H' P q := by
  obtain ⟨ps, h, tr, g⟩ := k
  refine ⟨ps, by rw [e]; exact h, tr, fun pos cv hc => ?_⟩
  obtain ⟨c, e1, e2⟩ := g pos cv hc
  exact ⟨c, e1, f c e2⟩
theorem CellOk.le {a : Addr} (ok : Ok K Z S H) (k : CellOk K Z S H a (S a)) (l : Le S H S' H') (c : S a ≠ none → H' a = H a) : CellOk K Z S' H' a (S a) := by
  cases e : S a with
  | none => trivial
  | some x =>
    rw [e] at k
    have ca := c (by rw [e]; exact fun z => nomatch z)
    cases x with
    | lst ts => obtain ⟨vs, q, r⟩ := k; exact ⟨vs, by rw [ca]; exact q, r.le l⟩
    | ins C gs => obtain ⟨dx, fs, q, r⟩ := k; exact ⟨dx, fs, by rw [ca]; exact q, r.le l⟩
    | tab q => exact tab_le k ca fun c h => (l c _ h (ok.codeN h) (fun _ e => nomatch e)).1
theorem Ok.le (ok : Ok K Z S H) (l : Le S H S H') (c : ∀ a, S a ≠ none → H' a = H a) : Ok K Z S H' :=
  ⟨fun a => (ok.cl a).le ok l (c a), fun a z => by
    obtain ⟨n, o, e⟩ := ok.hid a z
    exact ⟨n, o, (l a _ e n o.nt).1⟩⟩
theorem Ok.new {p : Addr} {o : HO} (ok : Ok K Z S H) (h : H p = none) : Ok K Z S (upd H p o) :=
  ok.le (le_new h) fun a n => upd_ne fun e => n (by rw [e]; exact ok.free h)
theorem Rep.tupN {p : Addr} {vs : List V} {ts : List T} (ok : Ok K Z S H) (h : H p = none) (r : Reps K Z S H vs ts) : Rep K Z S (upd H p (.tup vs)) (.ref p) (.tup ts) :=
  .tup (.inl ⟨.inl upd_same, ok.free h, ok.nz h⟩) (r.le (le_new h))
theorem Rep.lstN {p : Addr} {vs : List V} {ts : List T} (ok : Ok K Z S H) (h : H p = none) (r : Reps K Z S H vs ts) : Rep K Z S (upd H p (.lst vs)) (.ref p) (.lst ts) :=
  .lst ⟨upd_same, ok.free h, ok.nz h⟩ (r.le (le_new h))
/-- a new cell -/
theorem le_newc {p : Addr} {o : HO} {c : Cell} (h : H p = none) : Le S H (S.put p c) (upd H p o) := fun a u e n _ => by
  have ne := ne_of_none e h
  exact ⟨by rw [upd_ne ne]; exact e, by rw [put_ne ne]; exact n⟩
theorem Ok.putG {p : Addr} {c : Cell} (ok : Ok K Z S H) (l : Le S H (S.put p c) H') (nz : ¬ Z p) (st : ∀ a, a ≠ p → S a ≠ none → H' a = H a) (new : CellOk K Z (S.put p c) H' p (some c)) : Ok K Z (S.put p c) H' := by
  refine ⟨fun a => ?_, fun a z => ?_⟩
  · by_cases e : a = p
    · subst e; rw [put_same]; exact new
    · rw [put_ne e]
      exact (ok.cl a).le ok l (st a e)
  · have e : a ≠ p := fun e => nz (e ▸ z)
    obtain ⟨n, o, h⟩ := ok.hid a z
    exact ⟨by rw [put_ne e]; exact n, o, (l a _ h n o.nt).1⟩
theorem Ok.put {p : Addr} {o : HO} {c : Cell} (ok : Ok K Z S H) (l : Le S H (S.put p c) (upd H p o)) (nz : ¬ Z p) (new : CellOk K Z (S.put p c) (upd H p o) p (some c)) : Ok K Z (S.put p c) (upd H p o) :=
  ok.putG l nz (fun a e _ => upd_ne e) new
/-- a cell changes -/
theorem le_setc {p : Addr} {o : HO} {c d : Cell} (h : S p = some d) : Le S H (S.put p c) (upd H p o) := fun a u e n _ => by
  have ne : a ≠ p := fun z => by rw [z, h] at n; cases n
  exact ⟨by rw [upd_ne ne]; exact e, by rw [put_ne ne]; exact n⟩
/-- a cell ceases to change -/
theorem le_drop {p : Addr} : Le S H (S.drop p) H := fun a u e n _ => ⟨e, by
  by_cases z : a = p
  · rw [z]; exact drop_same
  · rw [drop_ne z]; exact n⟩
theorem Ok.drop {p : Addr} (ok : Ok K Z S H) : Ok K Z (S.drop p) H := by
  refine ⟨fun a => ?_, fun a z => ?_⟩
  · by_cases e : a = p
    · rw [e, drop_same]; trivial
    · rw [drop_ne e]
      exact (ok.cl a).le ok le_drop fun _ => rfl
  · obtain ⟨n, h⟩ := ok.hid a z
    refine ⟨?_, h⟩
    by_cases e : a = p
    · rw [e]; exact drop_same
    · rw [drop_ne e]; exact n
theorem Rep.frz {p : Addr} {ts : List T} (ok : Ok K Z S H) (h : S p = some (.lst ts)) : Rep K Z (S.drop p) H (.ref p) (.lst ts) := by
  have := ok.cl p
  rw [h] at this
  obtain ⟨vs, q, r⟩ := this
  exact .lst ⟨q, drop_same, ok.nzc h⟩ (r.le le_drop)
theorem Rep.frzI {p C : Addr} {gs : List (Str × T)} (ok : Ok K Z S H) (h : S p = some (.ins C gs)) : Rep K Z (S.drop p) H (.ref p) (.ins C gs) := by
  have := ok.cl p
  rw [h] at this
  obtain ⟨dx, fs, q, r⟩ := this
  exact .ins q ⟨drop_same, ok.nzc h⟩ (r.le le_drop)
/-- p is hidden from now on; it was new -/
def hideA (Z : Addr → Prop) (p : Addr) : Addr → Prop := fun a => Z a ∨ a = p
/-- more is hidden, of what was not there -/
def Hid (H : Hp) (Z Z' : Addr → Prop) : Prop := ∀ a, Z' a → Z a ∨ H a = none
theorem hid_a {p : Addr} (h : H p = none) : Hid H Z (hideA Z p) := fun a z => z.imp id fun e => by rw [e]; exact h
theorem Hid.rd {Z' : Addr → Prop} {p : Addr} {u : HO} (x : Hid H Z Z') (n : ¬ Z p) (r : Rd H p u) : ¬ Z' p := fun z => by
  rcases x p z with z | e
  · exact n z
  · rcases r with r | ⟨_, r⟩ <;> (rw [e] at r; cases r)
theorem TupAt.hide {Z' : Addr → Prop} {p : Addr} {vs : List V} (x : Hid H Z Z') (h : TupAt K Z S H p vs) : TupAt K Z' S H p vs := h.imp (fun ⟨a, b, c⟩ => ⟨a, b, x.rd c a⟩) id
theorem LstAt.hide {Z' : Addr → Prop} {p : Addr} {vs : List V} (x : Hid H Z Z') (h : LstAt Z S H p vs) : LstAt Z' S H p vs := ⟨h.1, h.2.1, x.rd h.2.2 (.inl h.1)⟩
theorem ScrAt.hide {Z' : Addr → Prop} {p : Addr} {vs : List V} (x : Hid H Z Z') (h : ScrAt K Z S H p vs) : ScrAt K Z' S H p vs := h.imp (fun ⟨⟨o, a⟩, b, c⟩ => ⟨⟨o, a⟩, b, fun z => by
  rcases x p z with z | e
  · exact c z
  · rw [e] at a; cases a⟩) id
mutual
theorem Rep.hide {Z' : Addr → Prop} (x : Hid H Z Z') : ∀ {v : V} {t : T}, Rep K Z S H v t → Rep K Z' S H v t
  | _, _, .non => .non
  | _, _, .bl b => .bl b
  | _, _, .int i => .int i
  | _, _, .str z => .str z
  | _, _, .ty n => .ty n
  | _, _, .st a => .st a
  | _, _, .cell a => .cell a
  | _, _, .tup h r => .tup (h.hide x) (Reps.hide x r)
  | _, _, .lst h r => .lst (h.hide x) (Reps.hide x r)
  | _, _, .scr h r => .scr (h.hide x) (Reps.hide x r)
  | _, _, .ins h n r => .ins h ⟨n.1, x.rd n.2 (.inl h)⟩ (RepF.hide x r)
  | _, _, .dct h n => .dct h ⟨n.1, x.rd n.2 (.inl h)⟩
  | _, _, .exc h n hd nd r => .exc h ⟨n.1, x.rd n.2 (.inl h)⟩ hd ⟨nd.1, x.rd nd.2 (.inl hd)⟩ (RepF.hide x r)
theorem Reps.hide {Z' : Addr → Prop} (x : Hid H Z Z') : ∀ {vs : List V} {ts : List T}, Reps K Z S H vs ts → Reps K Z' S H vs ts
  | _, _, .nil => .nil
  | _, _, .cons h r => .cons (Rep.hide x h) (Reps.hide x r)
theorem RepF.hide {Z' : Addr → Prop} (x : Hid H Z Z') : ∀ {vs : List (Str × V)} {ts : List (Str × T)}, RepF K Z S H vs ts → RepF K Z' S H vs ts
  | _, _, .nil => .nil
  | _, _, .cons h r => .cons (Rep.hide x h) (RepF.hide x r)
end
mutual
theorem Rep.show {p : Addr} : ∀ {v : V} {t : T}, Rep K (hideA Z p) S H v t → Rep K Z S H v t
  | _, _, .non => .non
  | _, _, .bl b => .bl b
  | _, _, .int i => .int i
  | _, _, .str z => .str z
  | _, _, .ty n => .ty n
  | _, _, .st a => .st a
  | _, _, .cell a => .cell a
  | _, _, .tup h r => .tup (h.imp (fun ⟨a, b, c⟩ => ⟨a, b, fun z => c (.inl z)⟩) id) (Reps.show r)
  | _, _, .lst h r => .lst ⟨h.1, h.2.1, fun z => h.2.2 (.inl z)⟩ (Reps.show r)
  | _, _, .scr h r => .scr (h.imp (fun ⟨a, b, c⟩ => ⟨a, b, fun z => c (.inl z)⟩) id) (Reps.show r)
  | _, _, .ins h n r => .ins h ⟨n.1, fun z => n.2 (.inl z)⟩ (RepF.show r)
  | _, _, .dct h n => .dct h ⟨n.1, fun z => n.2 (.inl z)⟩
  | _, _, .exc h n hd nd r => .exc h ⟨n.1, fun z => n.2 (.inl z)⟩ hd ⟨nd.1, fun z => nd.2 (.inl z)⟩ (RepF.show r)
theorem Reps.show {p : Addr} : ∀ {vs : List V} {ts : List T}, Reps K (hideA Z p) S H vs ts → Reps K Z S H vs ts
  | _, _, .nil => .nil
  | _, _, .cons h r => .cons (Rep.show h) (Reps.show r)
theorem RepF.show {p : Addr} : ∀ {vs : List (Str × V)} {ts : List (Str × T)}, RepF K (hideA Z p) S H vs ts → RepF K Z S H vs ts
  | _, _, .nil => .nil
  | _, _, .cons h r => .cons (Rep.show h) (RepF.show r)
end
theorem CellOk.map {Z' : Addr → Prop} {a : Addr} {c : Option Cell} (k : CellOk K Z S H a c) (f : ∀ {vs ts}, Reps K Z S H vs ts → Reps K Z' S' H' vs ts) (g : ∀ {vs ts}, RepF K Z S H vs ts → RepF K Z' S' H' vs ts) (e : c ≠ none → H' a = H a) (hc : ∀ c q, H c = some (LamX.CodeO c q) → H' c = some (LamX.CodeO c q)) : CellOk K Z' S' H' a c := by
  cases c with
  | none => trivial
  | some x =>
    have ca := e (fun z => nomatch z)
    cases x with
    | lst ts => obtain ⟨vs, q, r⟩ := k; exact ⟨vs, by rw [ca]; exact q, f r⟩
    | ins C gs => obtain ⟨dx, fs, q, r⟩ := k; exact ⟨dx, fs, by rw [ca]; exact q, g r⟩
    | tab q => exact tab_le k ca fun c h => hc c q h
/-- a hidden thing is laid -/
theorem Ok.hideO {p : Addr} {o : Hi} (ok : Ok K Z S H) (h : H p = none) : Ok K (hideA Z p) S (upd H p o.ho) := by
  have ne : ∀ a, S a ≠ none → a ≠ p := fun a n e => n (by rw [e]; exact ok.free h)
  refine ⟨fun a => (ok.cl a).map (fun r => (r.hide (hid_a h)).le (le_new h)) (fun r => (r.hide (hid_a h)).le (le_new h)) (fun n => upd_ne (ne a n)) fun c q e => by rw [upd_ne (ne_of_none e h)]; exact e, fun a z => ?_⟩
  rcases z with z | rfl
  · obtain ⟨n, u, e⟩ := ok.hid a z
    exact ⟨n, u, ((le_new (S := S) (o := o.ho) h) a _ e n u.nt).1⟩
  · exact ⟨ok.free h, o, upd_same⟩
theorem Ok.hide {p : Addr} {us : List V} (ok : Ok K Z S H) (h : H p = none) : Ok K (hideA Z p) S (upd H p (.lst us)) := ok.hideO (o := .l us) h
/-- it changes -/
theorem lz_hid {p : Addr} {o : HO} : LeZ (hideA Z p) S H S (upd H p o) := fun a u e n z _ => ⟨by rw [upd_ne fun q => z (.inr q)]; exact e, n⟩
theorem Ok.hidSetO {p : Addr} {o : Hi} (ok : Ok K (hideA Z p) S H) : Ok K (hideA Z p) S (upd H p o.ho) := by
  have ne : ∀ a, S a ≠ none → a ≠ p := fun a n e => n (by rw [e]; exact (ok.hid p (.inr rfl)).1)
  refine ⟨fun a => (ok.cl a).map (fun r => r.lz lz_hid) (fun r => r.lz lz_hid) (fun n => upd_ne (ne a n)) fun c q e => ?_, fun a z => ?_⟩
  · have nc : c ≠ p := fun z => by
      obtain ⟨_, u, h⟩ := ok.hid p (.inr rfl)
      rw [z, h] at e
      cases u <;> cases e
    rw [upd_ne nc]; exact e
  obtain ⟨n, u, e⟩ := ok.hid a z
  by_cases q : a = p
  · subst q; exact ⟨n, o, upd_same⟩
  · exact ⟨n, u, by rw [upd_ne q]; exact e⟩
theorem Ok.hidSet {p : Addr} {us : List V} (ok : Ok K (hideA Z p) S H) : Ok K (hideA Z p) S (upd H p (.lst us)) := ok.hidSetO (o := .l us)
/-- it is shown -/
theorem Ok.show {p : Addr} (ok : Ok K (hideA Z p) S H) : Ok K Z S H :=
  ⟨fun a => (ok.cl a).map (fun r => r.show) (fun r => r.show) (fun _ => rfl) fun _ _ e => e, fun a z => ok.hid a (.inl z)⟩
end
/-! ### the names of a def -/
inductive FrR (K : PySem.W.Frag) (Z : Addr → Prop) (S : Store) (H : Hp) : List (Option V) → List (Option T) → Prop
  | nil : FrR K Z S H [] []
  | skip {x : Option V} {l : List (Option V)} {m : List (Option T)} (r : FrR K Z S H l m) : FrR K Z S H (x :: l) (none :: m)
  | cons {v : V} {t : T} {l : List (Option V)} {m : List (Option T)} (h : Rep K Z S H v t) (r : FrR K Z S H l m) : FrR K Z S H (some v :: l) (some t :: m)
section
variable {K : PySem.W.Frag} {Z : Addr → Prop} {S S' S2 : Store} {H H' H2 : Hp}
theorem FrR.le {sl : List (Option V)} {σ : List (Option T)} (f : FrR K Z S H sl σ) (l : Le S H S' H') : FrR K Z S' H' sl σ := by
  induction f with
  | nil => exact .nil
  | skip _ ih => exact .skip ih
  | cons h _ ih => exact .cons (h.le l) ih
theorem FrR.get {sl : List (Option V)} {σ : List (Option T)} {i : Nat} {t : T} (f : FrR K Z S H sl σ) (h : σ[i]? = some (some t)) : ∃ v, sl[i]? = some (some v) ∧ Rep K Z S H v t := by
  induction f generalizing i with
  | nil => cases h
  | skip _ ih =>
    cases i with
    | zero => cases h
    | succ i => exact ih h
  | cons q _ ih =>
    cases i with
    | zero => cases h; exact ⟨_, rfl, q⟩
    | succ i => exact ih h
theorem FrR.set {sl : List (Option V)} {σ : List (Option T)} {v : V} {t : T} (i : Nat) (f : FrR K Z S H sl σ) (h : Rep K Z S H v t) : FrR K Z S H (sl.set i (some v)) (σ.set i (some t)) := by
  induction f generalizing i with
  | nil => exact .nil
  | skip r ih =>
    cases i with
    | zero => exact .cons h r
    | succ i => exact .skip (ih i)
  | cons q r ih =>
    cases i with
    | zero => exact .cons h r
    | succ i => exact .cons q (ih i)
theorem FrR.hide {Z' : Addr → Prop} {sl : List (Option V)} {σ : List (Option T)} (x : Hid H Z Z') (f : FrR K Z S H sl σ) : FrR K Z' S H sl σ := by
  induction f with
  | nil => exact .nil
  | skip _ ih => exact .skip ih
  | cons h _ ih => exact .cons (h.hide x) ih
theorem FrR.lz {sl : List (Option V)} {σ : List (Option T)} (f : FrR K Z S H sl σ) (l : LeZ Z S H S' H') : FrR K Z S' H' sl σ := by
  induction f with
  | nil => exact .nil
  | skip _ ih => exact .skip ih
  | cons h _ ih => exact .cons (h.lz l) ih
theorem FrR.length {sl : List (Option V)} {σ : List (Option T)} (f : FrR K Z S H sl σ) : sl.length = σ.length := by
  induction f with
  | nil => rfl
  | skip _ ih => simp [ih]
  | cons _ _ ih => simp [ih]
def startT (N : List Str) (ts : List T) : List (Option T) := ts.map some ++ List.replicate (N.length - ts.length) none
theorem FrR.reps {vs : List V} {ts : List T} (r : Reps K Z S H vs ts) {l : List (Option V)} {m : List (Option T)} (f : FrR K Z S H l m) : FrR K Z S H (vs.map some ++ l) (ts.map some ++ m) := by
  induction ts generalizing vs with
  | nil => cases r; exact f
  | cons t ts ih => cases r with | cons h r => exact .cons h (ih r)
theorem FrR.nones (n : Nat) : FrR K Z S H (List.replicate n none) (List.replicate n none) := by
  induction n with
  | zero => exact .nil
  | succ n ih => exact .skip ih
theorem FrR.start {N : List Str} {vs : List V} {ts : List T} (r : Reps K Z S H vs ts) : FrR K Z S H (start N vs) (startT N ts) := by
  unfold L2.start startT
  rw [r.length]
  exact FrR.reps r (FrR.nones _)
end

theorem pe_weak {X : Cx} {e : Expr} {t t' : TE} (he : PE X e t) (imp : ∀ sl H Q, t' sl H Q → t sl H Q) : PE X e t' := ⟨fun pins s sl H Q inv h => he.run pins s sl H Q inv (imp sl H Q h)⟩
/-! ### what trees are to fulfil -/
abbrev Fm := List (Option T)
abbrev XT := Addr → List (Str × T) → Store → Prop
abbrev TR := Fm → Store → (T → Store → Prop) → XT → Prop
abbrev TRB := Fm → Store → (Bool → Store → Prop) → XT → Prop
abbrev TRA := Fm → Store → (List T → Store → Prop) → XT → Prop
structure EnT where
  nx : Fm → Store → Prop
  rt : T → Store → Prop
  ex : XT
  bk : Fm → Store → Prop := fun _ _ => False
  ct : Fm → Store → Prop := fun _ _ => False
abbrev TRS := EnT → Fm → Store → Prop
def XD (H : Hp) (od : Option Addr) (fs : List (Str × V)) : Prop := match od with
  | some d => H d = some (.xd fs)
  | none => fs = []
section
variable (K : PySem.W.Frag) (Z : Addr → Prop) (S : Store) (H : Hp)
def XOk (RE : XT) (E : XK) : Prop := ∀ C gs S' od fs H', RE C gs S' → Le S H S' H' → Ok K Z S' H' → XD H' od fs → RepF K Z S' H' fs gs → E (.ref C) od H'
def PO (R : T → Store → Prop) (Q : VK) : Prop := ∀ t S' v H', R t S' → Le S H S' H' → Ok K Z S' H' → Rep K Z S' H' v t → Q v H'
def POB (R : Bool → Store → Prop) (Q : Bool → Hp → Prop) : Prop := ∀ b S' H', R b S' → Le S H S' H' → Ok K Z S' H' → Q b H'
def POA (R : List T → Store → Prop) (Q : List V → Hp → Prop) : Prop := ∀ ts S' vs H', R ts S' → Le S H S' H' → Ok K Z S' H' → Reps K Z S' H' vs ts → Q vs H'
def POF (R : Fm → Store → Prop) (Q : L2.St → Hp → Prop) : Prop := ∀ σ S' sl H', R σ S' → Le S H S' H' → Ok K Z S' H' → FrR K Z S' H' sl σ → Q sl H'
end
structure UpE (K : PySem.W.Frag) (E : XK) (r : TR) (sl : L2.St) (H : Hp) (Q : VK) : Prop where
  ex : ∃ Z σ S R RE, FrR K Z S H sl σ ∧ Ok K Z S H ∧ r σ S R RE ∧ PO K Z S H R Q ∧ XOk K Z S H RE E
structure UpB (K : PySem.W.Frag) (E : XK) (r : TRB) (sl : L2.St) (H : Hp) (Q : Bool → Hp → Prop) : Prop where
  ex : ∃ Z σ S R RE, FrR K Z S H sl σ ∧ Ok K Z S H ∧ r σ S R RE ∧ POB K Z S H R Q ∧ XOk K Z S H RE E
structure UpA (K : PySem.W.Frag) (E : XK) (r : TRA) (sl : L2.St) (H : Hp) (Q : List V → Hp → Prop) : Prop where
  ex : ∃ Z σ S R RE, FrR K Z S H sl σ ∧ Ok K Z S H ∧ r σ S R RE ∧ POA K Z S H R Q ∧ XOk K Z S H RE E
structure EO (K : PySem.W.Frag) (Z : Addr → Prop) (S : Store) (H : Hp) (DT : EnT) (D : Ends) : Prop where
  nx : POF K Z S H DT.nx D.nx
  rt : PO K Z S H DT.rt D.rt
  bk : POF K Z S H DT.bk D.bk
  ct : POF K Z S H DT.ct D.ct
structure UpS (K : PySem.W.Frag) (E : XK) (r : TRS) (D : Ends) (sl : L2.St) (H : Hp) : Prop where
  ex : ∃ Z σ S DT, FrR K Z S H sl σ ∧ Ok K Z S H ∧ r DT σ S ∧ EO K Z S H DT D ∧ XOk K Z S H DT.ex E
structure ET (X : Cx) (E : XK) (e : Expr) (r : TR) : Prop where
  pe : PE X e (UpE X.K E r)
structure TT' (X : Cx) (E : XK) (e : Expr) (r : TRB) : Prop where
  pt : PT X e (UpB X.K E r)
structure TW' (X : Cx) (E : XK) (e : Expr) (r : TRB) : Prop where
  pw : PW X e (UpB X.K E r)
structure AT (X : Cx) (E : XK) (es : List Expr) (r : TRA) : Prop where
  pa : PA X es (UpA X.K E r)
structure SS (X : Cx) (E : XK) (st : Stmt) (r : TRS) : Prop where
  ps : PS X st (UpS X.K E r)
structure BS (X : Cx) (E : XK) (st : List Stmt) (r : TRS) : Prop where
  ps : PSs X st (UpS X.K E r)
section
variable {K : PySem.W.Frag} {Z : Addr → Prop} {S S1 S2 : Store} {H H1 H2 : Hp} {E : XK} {Q : VK} {sl : L2.St} {ra rb : TR}
theorem XOk.le {RE : XT} (x : XOk K Z S H RE E) (l : Le S H S1 H1) : XOk K Z S1 H1 RE E := fun C gs S' od fs H' r l' ok d rf => x C gs S' od fs H' r (l.trans l') ok d rf
theorem PO.le {R : T → Store → Prop} (x : PO K Z S H R Q) (l : Le S H S1 H1) : PO K Z S1 H1 R Q := fun t S' v H' r l' ok rep => x t S' v H' r (l.trans l') ok rep
theorem POB.le {R : Bool → Store → Prop} {Q : Bool → Hp → Prop} (x : POB K Z S H R Q) (l : Le S H S1 H1) : POB K Z S1 H1 R Q := fun t S' H' r l' ok => x t S' H' r (l.trans l') ok
theorem POA.le {R : List T → Store → Prop} {Q : List V → Hp → Prop} (x : POA K Z S H R Q) (l : Le S H S1 H1) : POA K Z S1 H1 R Q := fun t S' v H' r l' ok rep => x t S' v H' r (l.trans l') ok rep
theorem POF.le {R : Fm → Store → Prop} {Q : L2.St → Hp → Prop} (x : POF K Z S H R Q) (l : Le S H S1 H1) : POF K Z S1 H1 R Q := fun t S' v H' r l' ok rep => x t S' v H' r (l.trans l') ok rep
theorem EO.le {DT : EnT} {D : Ends} (x : EO K Z S H DT D) (l : Le S H S1 H1) : EO K Z S1 H1 DT D := ⟨x.nx.le l, x.rt.le l, x.bk.le l, x.ct.le l⟩
/-- one part, then the rest -/
theorem UpE.one {k : Fm → T → Store → (T → Store → Prop) → XT → Prop} {Q' : VK} (h : UpE K E (fun σ S R RE => ra σ S (fun x S1 => k σ x S1 R RE) RE) sl H Q)
    (step : ∀ Z σ x S1 v H1 R RE, FrR K Z S1 H1 sl σ → Ok K Z S1 H1 → Rep K Z S1 H1 v x → k σ x S1 R RE → PO K Z S1 H1 R Q → XOk K Z S1 H1 RE E → Q' v H1) : UpE K E ra sl H Q' := by
  obtain ⟨Z, σ, S, R, RE, fr, ok, w, po, xo⟩ := h.ex
  exact ⟨_, σ, S, _, RE, fr, ok, w, fun x S1 v H1 kk le ok1 rep => step Z σ x S1 v H1 R RE (fr.le le) ok1 rep kk (po.le le) (xo.le le), xo⟩
/-- two parts, then the rest -/
theorem UpE.two {k : T → T → Store → (T → Store → Prop) → XT → Prop} {Q2 : V → V → Hp → Prop} (h : UpE K E (fun σ S R RE => ra σ S (fun x S1 => rb σ S1 (fun y S2 => k x y S2 R RE) RE) RE) sl H Q)
    (step : ∀ Z x y S2 v u H2 R RE, Ok K Z S2 H2 → Rep K Z S2 H2 v x → Rep K Z S2 H2 u y → k x y S2 R RE → PO K Z S2 H2 R Q → XOk K Z S2 H2 RE E → Q2 v u H2) :
    UpE K E ra sl H (fun v H1 => UpE K E rb sl H1 (fun u H2 => Q2 v u H2)) := by
  obtain ⟨Z, σ, S, R, RE, fr, ok, w, po, xo⟩ := h.ex
  refine ⟨_, σ, S, _, RE, fr, ok, w, fun x S1 v H1 kk le ok1 rep => ?_, xo⟩
  exact ⟨_, σ, S1, _, RE, fr.le le, ok1, kk, fun y S2 u H2 k2 le2 ok2 rep2 => step Z x y S2 v u H2 R RE ok2 (rep.le le2) rep2 k2 ((po.le le).le le2) ((xo.le le).le le2), xo.le le⟩
theorem UpA.args {t : TRA} {k : List T → Store → (T → Store → Prop) → XT → Prop} {Q' : List V → Hp → Prop} (h : UpE K E (fun σ S R RE => t σ S (fun x S1 => k x S1 R RE) RE) sl H Q)
    (step : ∀ Z x S1 v H1 R RE, Ok K Z S1 H1 → Reps K Z S1 H1 v x → k x S1 R RE → PO K Z S1 H1 R Q → XOk K Z S1 H1 RE E → Q' v H1) : UpA K E t sl H Q' := by
  obtain ⟨Z, σ, S, R, RE, fr, ok, w, po, xo⟩ := h.ex
  exact ⟨_, σ, S, _, RE, fr, ok, w, fun x S1 v H1 kk le ok1 rep => step Z x S1 v H1 R RE ok1 rep kk (po.le le) (xo.le le), xo⟩
end
section
variable {X : Cx} {E : XK} {e a b c : Expr} {es : List Expr} {pos : Pos} {ra rb rc : TR}
/-! ### names, constants -/
def rVar (i : Nat) : TR := fun σ S R _ => ∃ t, σ[i]? = some (some t) ∧ R t S
theorem et_var {i : Nat} (h : PE X e (tVar i)) : ET X E e (rVar i) := ⟨pe_weak h fun sl H Q ⟨⟨Z, σ, S, R, RE, fr, ok, ⟨t, hi, r⟩, po, _⟩⟩ => by
  obtain ⟨v, hv, rep⟩ := fr.get hi
  exact ⟨v, hv, po t S v H r .refl ok rep⟩⟩
/-- a name whose list changes no more -/
def rFrz (i : Nat) : TR := fun σ S R _ => ∃ a ts, σ[i]? = some (some (.cell a)) ∧ S a = some (.lst ts) ∧ R (.lst ts) (S.drop a)
theorem et_frz {i : Nat} (h : PE X e (tVar i)) : ET X E e (rFrz i) := ⟨pe_weak h fun sl H Q ⟨⟨Z, σ, S, R, RE, fr, ok, ⟨a, ts, hi, hs, r⟩, po, _⟩⟩ => by
  obtain ⟨v, hv, rep⟩ := fr.get hi
  cases rep
  exact ⟨_, hv, po _ (S.drop a) _ H r le_drop ok.drop (.frz ok hs)⟩⟩
def rC (t : T) : TR := fun _ S R _ => R t S
theorem et_c {v : V} {t : T} (h : PE X e (tC v)) (rep : ∀ Z S H, Rep X.K Z S H v t) : ET X E e (rC t) := ⟨pe_weak h fun sl H Q ⟨⟨Z, σ, S, R, RE, fr, ok, r, po, _⟩⟩ => po t S v H r .refl ok (rep Z S H)⟩
theorem et_int {i : Int} {j} : ET X E (.Constant (.int i) j pos) (rC (.int i)) := et_c pe_int fun _ _ _ => .int i
theorem et_bl {i : Bool} {j} : ET X E (.Constant (.bool i) j pos) (rC (.bl i)) := et_c pe_bl fun _ _ _ => .bl i
theorem et_non {j} : ET X E (.Constant .none j pos) (rC .non) := et_c pe_non fun _ _ _ => .non
theorem et_str {z : Str} {j} : ET X E (.Constant (.str z) j pos) (rC (.str z)) := et_c pe_str fun _ _ _ => .str z
theorem et_glob {x : Str} {a : Addr} (hg : Gl X x) (hm : X.mg x = some (.ref a)) (hd : (x == ("__debug__" : Str)) = false := by decide) : ET X E (.Name x pos) (rC (.st a)) := et_c (pe_glob (v := .ref a) hg hm rfl hd) fun _ _ _ => .st a
theorem et_blty {x : Str} {n : String} (hg : Gl X x) (hm : X.mg x = none) (hv : bootBuiltins x = some (.type n)) (hn : x ≠ "__name__" := by decide) (hd : (x == ("__debug__" : Str)) = false := by decide) : ET X E (.Name x pos) (rC (.ty n)) :=
  et_c (pe_bltn (v := .ty n) hg hm hv rfl hn hd) fun _ _ _ => .ty n
/-! ### operators, by values -/
def rBin (k : T → T → Store → (T → Store → Prop) → XT → Prop) (ra rb : TR) : TR := fun σ S R RE => ra σ S (fun x S1 => rb σ S1 (fun y S2 => k x y S2 R RE) RE) RE
/-- an operator's rule in the layer follows from one about trees -/
def Conv (K : PySem.W.Frag) (E : XK) (k : T → T → Store → (T → Store → Prop) → XT → Prop) (r : R2) : Prop := ∀ Z x y S v u H R RE Q, Ok K Z S H → Rep K Z S H v x → Rep K Z S H u y → k x y S R RE → PO K Z S H R Q → XOk K Z S H RE E → r v u H Q
theorem et_op {op : Operator} {r : R2} {k} (ho : OpR X (binaryOp op) r) (cv : Conv X.K E k r) (ha : ET X E a ra) (hb : ET X E b rb) : ET X E (.BinOp a op b pos) (rBin k ra rb) :=
  ⟨pe_weak (pe_op ho ha.pe hb.pe) fun sl H Q h => UpE.two h fun Z x y S2 v u H2 R RE ok rx ry kk po xo => cv Z x y S2 v u H2 R RE Q ok rx ry kk po xo⟩
theorem et_cmp {op : CmpOp} {r : R2} {k} (ho : OpR X (compareOp op) r) (cv : Conv X.K E k r) (ha : ET X E a ra) (hb : ET X E b rb) (hm : behindInMarks op b = false) : ET X E (.Compare a [op] [b] pos) (rBin k ra rb) :=
  ⟨pe_weak (pe_cmpR ho ha.pe hb.pe hm) fun sl H Q h => UpE.two h fun Z x y S2 v u H2 R RE ok rx ry kk po xo => cv Z x y S2 v u H2 R RE Q ok rx ry kk po xo⟩
theorem et_ix {r : R2} {k} (ho : IxR X r) (cv : Conv X.K E k r) (ha : ET X E a ra) (hb : ET X E b rb) (hs : PlainIx b) : ET X E (.Subscript a b pos) (rBin k ra rb) :=
  ⟨pe_weak (pe_ix ho ha.pe hb.pe hs) fun sl H Q h => UpE.two h fun Z x y S2 v u H2 R RE ok rx ry kk po xo => cv Z x y S2 v u H2 R RE Q ok rx ry kk po xo⟩
/-- a bool from a value -/
def rTest (ra : TR) : TRB := fun σ S R RE => ra σ S (fun x S1 => ∃ c, x = .bl c ∧ R c S1) RE
theorem UpB.test {K : PySem.W.Frag} {sl : L2.St} {H : Hp} {Q : Bool → Hp → Prop} (h : UpB K E (rTest ra) sl H Q) : UpE K E ra sl H (fun x H1 => ∃ c, x = .bl c ∧ Q c H1) := by
  obtain ⟨Z, σ, S, R, RE, fr, ok, w, po, xo⟩ := h.ex
  refine ⟨_, σ, S, _, RE, fr, ok, w, fun x S1 v H1 kk le ok1 rep => ?_, xo⟩
  obtain ⟨c, rfl, r⟩ := kk
  cases rep
  exact ⟨c, rfl, po c S1 H1 r le ok1⟩
theorem tt_val (ha : ET X E a ra) (he : ∀ whole, isTrue a X.env whole = (do let v ← whole; standAt a.pos; holding [v] (truthy v)) := by intro _; rfl) : TT' X E a (rTest ra) :=
  ⟨⟨fun pins s sl H Q I h => (pt_val ha.pe he).run pins s sl H Q I h.test⟩⟩
theorem tt_cmp {op : CmpOp} {r : R2} {k} (ho : OpR X (compareOp op) r) (cv : Conv X.K E k r) (ha : ET X E a ra) (hb : ET X E b rb) (hm : behindInMarks op b = false) : TT' X E (.Compare a [op] [b] pos) (rTest (rBin k ra rb)) :=
  ⟨⟨fun pins s sl H Q I h => (pt_cmpR ho ha.pe hb.pe hm).run pins s sl H Q I (UpE.two (k := k) h.test fun Z x y S2 v u H2 R RE ok rx ry kk po xo => cv Z x y S2 v u H2 R RE _ ok rx ry kk po xo)⟩⟩
/-! ### and, or, not -/
variable {rest : List Expr} {ta tb tc : TRB}
def bAnd (ta tb : TRB) : TRB := fun σ S R RE => ta σ S (fun c S1 => if c = true then tb σ S1 R RE else R false S1) RE
def bOr (ta tb : TRB) : TRB := fun σ S R RE => ta σ S (fun c S1 => if c = true then R true S1 else tb σ S1 R RE) RE
def bNot (ta : TRB) : TRB := fun σ S R RE => ta σ S (fun c S1 => R (!c) S1) RE
theorem tw_and1 (h : TT' X E a ta) : TW' X E (.BoolOp .And [a] pos) ta := ⟨pw_and1 h.pt⟩
theorem tw_or1 (h : TT' X E a ta) : TW' X E (.BoolOp .Or [a] pos) ta := ⟨pw_or1 h.pt⟩
theorem tw_and (ha : TT' X E a ta) (hb : TW' X E (.BoolOp .And (b :: rest) pos) tb) : TW' X E (.BoolOp .And (a :: b :: rest) pos) (bAnd ta tb) := by
  refine ⟨⟨fun wh pins s sl H Q I h => (pw_and ha.pt hb.pw).run wh pins s sl H Q I ?_⟩⟩
  obtain ⟨Z, σ, S, R, RE, fr, ok, w, po, xo⟩ := h.ex
  refine ⟨_, σ, S, _, RE, fr, ok, w, fun c S1 H1 kk le ok1 => ?_, xo⟩
  cases c with
  | true => exact ⟨_, σ, S1, R, RE, fr.le le, ok1, kk, po.le le, xo.le le⟩
  | false => exact po false S1 H1 kk le ok1
theorem tw_or (ha : TT' X E a ta) (hb : TW' X E (.BoolOp .Or (b :: rest) pos) tb) : TW' X E (.BoolOp .Or (a :: b :: rest) pos) (bOr ta tb) := by
  refine ⟨⟨fun wh pins s sl H Q I h => (pw_or ha.pt hb.pw).run wh pins s sl H Q I ?_⟩⟩
  obtain ⟨Z, σ, S, R, RE, fr, ok, w, po, xo⟩ := h.ex
  refine ⟨_, σ, S, _, RE, fr, ok, w, fun c S1 H1 kk le ok1 => ?_, xo⟩
  cases c with
  | false => exact ⟨_, σ, S1, R, RE, fr.le le, ok1, kk, po.le le, xo.le le⟩
  | true => exact po true S1 H1 kk le ok1
theorem tt_w (h : TW' X E a ta) : TT' X E a ta := ⟨h.pw.pt⟩
theorem tt_not (ha : TT' X E a ta) : TT' X E (.UnaryOp .Not a pos) (bNot ta) := by
  refine ⟨⟨fun pins s sl H Q I h => (pt_not ha.pt).run pins s sl H Q I ?_⟩⟩
  obtain ⟨Z, σ, S, R, RE, fr, ok, w, po, xo⟩ := h.ex
  exact ⟨_, σ, S, _, RE, fr, ok, w, fun c S1 H1 kk le ok1 => po _ S1 H1 kk le ok1, xo⟩
/-- .. as values -/
def vAnd (ra rb : TR) : TR := fun σ S R RE => ra σ S (fun x S1 => ∃ c, x = .bl c ∧ if c = true then rb σ S1 R RE else R (.bl false) S1) RE
def vOr (ra rb : TR) : TR := fun σ S R RE => ra σ S (fun x S1 => ∃ c, x = .bl c ∧ if c = true then R (.bl true) S1 else rb σ S1 R RE) RE
def vNot (ra : TR) : TR := fun σ S R RE => ra σ S (fun x S1 => ∃ c, x = .bl c ∧ R (.bl (!c)) S1) RE
theorem et_one {op} (h : ET X E a ra) : ET X E (.BoolOp op [a] pos) ra := ⟨pe_one h.pe⟩
theorem et_and (ha : ET X E a ra) (hb : ET X E (.BoolOp .And (b :: rest) pos) rb) : ET X E (.BoolOp .And (a :: b :: rest) pos) (vAnd ra rb) :=
  ⟨pe_weak (pe_and ha.pe hb.pe) fun sl H Q h => UpE.one (k := fun σ x S1 R RE => ∃ c, x = .bl c ∧ if c = true then rb σ S1 R RE else R (.bl false) S1) h fun Z σ x S1 v H1 R RE fr ok rx kk po xo => by
    obtain ⟨c, rfl, kk⟩ := kk
    cases rx
    refine ⟨c, rfl, ?_⟩
    cases c with
    | true => exact ⟨_, σ, S1, R, RE, fr, ok, kk, po, xo⟩
    | false => exact po _ S1 _ H1 kk .refl ok (.bl false)⟩
theorem et_or (ha : ET X E a ra) (hb : ET X E (.BoolOp .Or (b :: rest) pos) rb) : ET X E (.BoolOp .Or (a :: b :: rest) pos) (vOr ra rb) :=
  ⟨pe_weak (pe_or ha.pe hb.pe) fun sl H Q h => UpE.one (k := fun σ x S1 R RE => ∃ c, x = .bl c ∧ if c = true then R (.bl true) S1 else rb σ S1 R RE) h fun Z σ x S1 v H1 R RE fr ok rx kk po xo => by
    obtain ⟨c, rfl, kk⟩ := kk
    cases rx
    refine ⟨c, rfl, ?_⟩
    cases c with
    | false => exact ⟨_, σ, S1, R, RE, fr, ok, kk, po, xo⟩
    | true => exact po _ S1 _ H1 kk .refl ok (.bl true)⟩
theorem et_not (ha : ET X E a ra) : ET X E (.UnaryOp .Not a pos) (vNot ra) :=
  ⟨pe_weak (pe_not ha.pe) fun sl H Q h => UpE.one (k := fun σ x S1 R RE => ∃ c, x = .bl c ∧ R (.bl (!c)) S1) h fun Z σ x S1 v H1 R RE fr ok rx kk po xo => by
    obtain ⟨c, rfl, kk⟩ := kk
    cases rx
    exact ⟨c, rfl, po _ S1 _ H1 kk .refl ok (.bl _)⟩⟩
def rIf (tc : TRB) (ra rb : TR) : TR := fun σ S R RE => tc σ S (fun c S1 => if c = true then ra σ S1 R RE else rb σ S1 R RE) RE
theorem et_if (hc : TT' X E c tc) (ha : ET X E a ra) (hb : ET X E b rb) : ET X E (.IfExp c a b pos) (rIf tc ra rb) := by
  refine ⟨pe_weak (pe_ifExp hc.pt ha.pe hb.pe) fun sl H Q h => ?_⟩
  obtain ⟨Z, σ, S, R, RE, fr, ok, w, po, xo⟩ := h.ex
  refine ⟨_, σ, S, _, RE, fr, ok, w, fun c S1 H1 kk le ok1 => ?_, xo⟩
  cases c with
  | true => exact ⟨_, σ, S1, R, RE, fr.le le, ok1, kk, po.le le, xo.le le⟩
  | false => exact ⟨_, σ, S1, R, RE, fr.le le, ok1, kk, po.le le, xo.le le⟩
/-! ### argument lists, displays -/
def aNil : TRA := fun _ S R _ => R [] S
def aCons (ra : TR) (t : TRA) : TRA := fun σ S R RE => ra σ S (fun x S1 => t σ S1 (fun xs S2 => R (x :: xs) S2) RE) RE
theorem at_nil : AT X E [] aNil := ⟨⟨fun pos pins s sl H Q I h => pa_nil.run pos pins s sl H Q I (by
  obtain ⟨Z, σ, S, R, RE, fr, ok, w, po, xo⟩ := h.ex
  exact po [] S [] H w .refl ok .nil)⟩⟩
theorem at_cons {t : TRA} (ha : ET X E e ra) (hr : AT X E es t) (hs : starEach (e :: es) X.env = (false, eval e X.env) :: starEach es X.env := by rfl) : AT X E (e :: es) (aCons ra t) := ⟨⟨fun pos pins s sl H Q I h => (pa_cons ha.pe hr.pa hs).run pos pins s sl H Q I (by
  obtain ⟨Z, σ, S, R, RE, fr, ok, w, po, xo⟩ := h.ex
  refine ⟨_, σ, S, _, RE, fr, ok, w, fun x S1 v H1 kk le ok1 rep => ?_, xo⟩
  exact ⟨_, σ, S1, _, RE, fr.le le, ok1, kk, fun xs S2 vs H2 k2 le2 ok2 rs => po (x :: xs) S2 (v :: vs) H2 k2 (le.trans le2) ok2 (.cons (rep.le le2) rs), xo.le le⟩)⟩⟩
def rTup (t : TRA) : TR := fun σ S R RE => t σ S (fun xs S1 => xs.length ≤ sizeLine ∧ R (.tup xs) S1) RE
def rLst (t : TRA) : TR := fun σ S R RE => t σ S (fun xs S1 => xs.length ≤ sizeLine ∧ R (.lst xs) S1) RE
def rLstC (t : TRA) : TR := fun σ S R RE => t σ S (fun xs S1 => xs.length ≤ sizeLine ∧ ∀ a, S1 a = none → R (.cell a) (S1.put a (.lst xs))) RE
variable {t : TRA}
theorem et_tup {x1} (h : AT X E es t) : ET X E (.Tuple es x1 pos) (rTup t) :=
  ⟨pe_weak (pe_tup h.pa) fun sl H Q h => UpA.args (k := fun xs S1 R RE => xs.length ≤ sizeLine ∧ R (.tup xs) S1) h fun Z xs S1 vs H1 R RE ok rs kk po xo =>
    ⟨by rw [rs.length]; exact kk.1, fun p hp => po _ S1 _ _ kk.2 (le_new hp) (ok.new hp) (.tupN ok hp rs)⟩⟩
theorem et_lst (h : AT X E es t) : ET X E (.List es pos) (rLst t) :=
  ⟨pe_weak (pe_lst h.pa) fun sl H Q h => UpA.args (k := fun xs S1 R RE => xs.length ≤ sizeLine ∧ R (.lst xs) S1) h fun Z xs S1 vs H1 R RE ok rs kk po xo =>
    ⟨by rw [rs.length]; exact kk.1, fun p hp => po _ S1 _ _ kk.2 (le_new hp) (ok.new hp) (.lstN ok hp rs)⟩⟩
theorem et_lstC (h : AT X E es t) : ET X E (.List es pos) (rLstC t) :=
  ⟨pe_weak (pe_lst h.pa) fun sl H Q h => UpA.args (k := fun xs S1 R RE => xs.length ≤ sizeLine ∧ ∀ a, S1 a = none → R (.cell a) (S1.put a (.lst xs))) h fun Z xs S1 vs H1 R RE ok rs kk po xo =>
    ⟨by rw [rs.length]; exact kk.1, fun p hp => by
      have l := le_newc (S := S1) (o := .lst vs) (c := .lst xs) hp
      exact po _ _ _ _ (kk.2 p (ok.free hp)) l (ok.put l (ok.nz hp) ⟨vs, upd_same, rs.le l⟩) (.cell p)⟩⟩
/-- a built-in called with values -/
def rArgs (k : List T → Store → (T → Store → Prop) → XT → Prop) (t : TRA) : TR := fun σ S R RE => t σ S (fun xs S1 => k xs S1 R RE) RE
def ConvA (K : PySem.W.Frag) (E : XK) (k : List T → Store → (T → Store → Prop) → XT → Prop) (r : List V → Hp → VK → Prop) : Prop := ∀ Z xs S vs H R RE Q, Ok K Z S H → Reps K Z S H vs xs → k xs S R RE → PO K Z S H R Q → XOk K Z S H RE E → r vs H Q
theorem et_blt {id : String} {x : Str} {p : Pos} {r : List V → Hp → VK → Prop} {k} (hc : CallR X (.builtin id) r) (cv : ConvA X.K E k r) (hg : Gl X x) (hm : X.mg x = none) (hv : bootBuiltins x = some (.builtin id)) (ha : AT X E (e :: es) t) (hn : x ≠ "__name__" := by decide) (hdb : (x == ("__debug__" : Str)) = false := by decide)
    (he : starEach (e :: es) X.env = (false, eval e X.env) :: starEach es X.env := by rfl) (hpl : (backTo pos (starEach es X.env)).any (·.1) = false := by rfl) : ET X E (.Call (.Name x p) (e :: es) [] pos) (rArgs k t) :=
  ⟨pe_weak (pe_callB hc hg hm hv ha.pa hn hdb he hpl) fun sl H Q h => UpA.args h fun Z xs S1 vs H1 R RE ok rs kk po xo => cv Z xs S1 vs H1 R RE Q ok rs kk po xo⟩
theorem et_typ {T' : String} {x : Str} {p : Pos} {r : List V → Hp → VK → Prop} {k} (hc : CallR X (.type T') r) (cv : ConvA X.K E k r) (hg : Gl X x) (hm : X.mg x = none) (hv : bootBuiltins x = some (.type T')) (ha : AT X E (e :: es) t) (hn : x ≠ "__name__" := by decide) (hdb : (x == ("__debug__" : Str)) = false := by decide)
    (he : starEach (e :: es) X.env = (false, eval e X.env) :: starEach es X.env := by rfl) (hpl : (backTo pos (starEach es X.env)).any (·.1) = false := by rfl) : ET X E (.Call (.Name x p) (e :: es) [] pos) (rArgs k t) :=
  ⟨pe_weak (pe_callTy hc hg hm hv ha.pa hn hdb he hpl) fun sl H Q h => UpA.args h fun Z xs S1 vs H1 R RE ok rs kk po xo => cv Z xs S1 vs H1 R RE Q ok rs kk po xo⟩
end

/-! ### targets -/
abbrev TRG := T → Fm → Store → (Fm → Store → Prop) → XT → Prop
abbrev TRGs := List T → Fm → Store → (Fm → Store → Prop) → XT → Prop
structure UpG (K : PySem.W.Frag) (E : XK) (r : TRG) (v : V) (sl : L2.St) (H : Hp) (Q : L2.St → Hp → Prop) : Prop where
  ex : ∃ Z σ S t R RE, FrR K Z S H sl σ ∧ Ok K Z S H ∧ Rep K Z S H v t ∧ r t σ S R RE ∧ POF K Z S H R Q ∧ XOk K Z S H RE E
structure UpGs (K : PySem.W.Frag) (E : XK) (r : TRGs) (vs : List V) (sl : L2.St) (H : Hp) (Q : L2.St → Hp → Prop) : Prop where
  ex : ∃ Z σ S ts R RE, FrR K Z S H sl σ ∧ Ok K Z S H ∧ Reps K Z S H vs ts ∧ r ts σ S R RE ∧ POF K Z S H R Q ∧ XOk K Z S H RE E
structure GT (X : Cx) (E : XK) (tg : Expr) (r : TRG) : Prop where
  pg : PG X tg (UpG X.K E r)
structure GTs (X : Cx) (E : XK) (ts : List Expr) (r : TRGs) : Prop where
  pg : PGs X ts (UpGs X.K E r)
section
variable {X : Cx} {E : XK} {e a b c : Expr} {es : List Expr} {pos : Pos} {ra rb rc : TR} {g : TRG} {gs : TRGs} {t : TRA}
def gNameT (i : Nat) : TRG := fun t σ S R _ => R (σ.set i (some t)) S
theorem pg_weak {X : Cx} {e : Expr} {t t' : TG} (he : PG X e t) (imp : ∀ v sl H Q, t' v sl H Q → t v sl H Q) : PG X e t' := ⟨fun pins s sl H v u Q inv r h => he.run pins s sl H v u Q inv r (imp v sl H Q h)⟩
theorem gt_name {i : Nat} (h : PG X e (gName i)) : GT X E e (gNameT i) := ⟨pg_weak h fun v sl H Q ⟨⟨Z, σ, S, t, R, RE, fr, ok, rep, r, po, _⟩⟩ => po _ S _ H r .refl ok (fr.set i rep)⟩
def gNilT : TRGs := fun ts σ S R _ => ts = [] ∧ R σ S
def gConsT (g : TRG) (gs : TRGs) : TRGs := fun ts σ S R RE => ∃ x r, ts = x :: r ∧ g x σ S (fun σ1 S1 => gs r σ1 S1 R RE) RE
theorem gts_nil : GTs X E [] gNilT := ⟨⟨fun pins s sl H vs us Q I r ⟨⟨Z, σ, S, ts, R, RE, fr, ok, rep, ⟨e, w⟩, po, _⟩⟩ => by
  subst e
  cases rep
  exact pgs_nil.run pins s sl H [] us Q I r ⟨rfl, po σ S sl H w .refl ok fr⟩⟩⟩
theorem gts_cons (h1 : GT X E e g) (h2 : GTs X E es gs) (hs : (assignEach (e :: es) X.env).map (·.2) = assign e X.env :: (assignEach es X.env).map (·.2) := by rfl) : GTs X E (e :: es) (gConsT g gs) :=
  ⟨⟨fun pins s sl H vs us Q I r ⟨⟨Z, σ, S, ts, R, RE, fr, ok, rep, ⟨x, xs, e, w⟩, po, xo⟩⟩ => by
    subst e
    cases rep with
    | cons rx rr =>
      refine (pgs_cons h1.pg h2.pg hs).run pins s sl H _ us Q I r ⟨_, _, rfl, _, σ, S, x, _, RE, fr, ok, rx, w, fun σ1 S1 sl1 H1 k le ok1 fr1 => ?_, xo⟩
      exact ⟨_, σ1, S1, xs, R, RE, fr1, ok1, rr.le le, k, po.le le, xo.le le⟩⟩⟩
def gTupT (n : Nat) (gs : TRGs) : TRG := fun t σ S R RE => ∃ ts, t = .tup ts ∧ ts.length = n ∧ gs ts σ S R RE
theorem gt_tup {k : Nat} {n : Nat} (hc : X.calm = true) (h : GTs X E es gs) (hn : (assignEach es X.env).length = n := by rfl) (hst : (assignEach es X.env).findIdx? (·.1) = none := by rfl) : GT X E (.Tuple es k pos) (gTupT n gs) :=
  ⟨pg_weak (pg_tup hc h.pg hn hst) fun v sl H Q ⟨⟨Z, σ, S, t, R, RE, fr, ok, rep, ⟨ts, e, l, w⟩, po, xo⟩⟩ => by
    subst e
    cases rep with
    | tup h r => exact ⟨_, _, rfl, h.sq, r.length.trans l, _, σ, S, ts, R, RE, fr, ok, r, w, po, xo⟩⟩
/-- xs[i] = .., xs a list that changes -/
def gSubT (ra rb : TR) : TRG := fun t σ S R RE => ra σ S (fun x S1 => rb σ S1 (fun y S2 => ∃ a ts i j, x = .cell a ∧ y = .int i ∧ S2 a = some (.lst ts) ∧ ixN ts.length i = some j ∧ R σ (S2.put a (.lst (ts.set j t)))) RE) RE
theorem gt_sub {o i : Expr} (ho : ET X E o ra) (hi : ET X E i rb) (ha : ∀ v, assign (.Subscript o i pos) X.env v = (do
      let ov ← holding [v] (eval o X.env)
      let iv ← holding [v, ov] (eval i X.env)
      standAt pos
      holding [v, ov, iv] (setItem ov iv v)
      release [v, ov, iv] []) := by intro _; rfl) : GT X E (.Subscript o i pos) (gSubT ra rb) :=
  ⟨pg_weak (pg_sub ho.pe hi.pe set_list ha) fun v sl H Q ⟨⟨Z, σ, S, t, R, RE, fr, ok, rep, w, po, xo⟩⟩ => by
    refine ⟨_, σ, S, _, RE, fr, ok, w, fun x S1 vx H1 k1 le1 ok1 rx => ?_, xo⟩
    refine ⟨_, σ, S1, _, RE, fr.le le1, ok1, k1, fun y S2 vy H2 k2 le2 ok2 ry => ?_, xo.le le1⟩
    obtain ⟨a, ts, i, j, rfl, rfl, hs, hj, w⟩ := k2
    cases rx; cases ry
    have ca := ok2.cl a
    rw [hs] at ca
    obtain ⟨vs, hv, rs⟩ := ca
    refine ⟨a, vs, i, j, rfl, rfl, hv, by rw [rs.length]; exact hj, ?_⟩
    have l3 : Le S2 H2 (S2.put a (.lst (ts.set j t))) (upd H2 a (.lst (vs.set j v))) := le_setc hs
    exact po _ _ _ _ w ((le1.trans le2).trans l3) (ok2.put l3 (ok2.nzc hs) ⟨_, upd_same, (rs.le l3).set j (((rep.le le1).le le2).le l3)⟩) (((fr.le le1).le le2).le l3)⟩
/-! ### statements -/
def sAsg (ra : TR) (g : TRG) : TRS := fun D σ S => ra σ S (fun x S1 => g x σ S1 D.nx D.ex) D.ex
theorem ps_weak {X : Cx} {e : Stmt} {t t' : TS} (he : PS X e t) (imp : ∀ D sl H, t' D sl H → t D sl H) : PS X e t' := ⟨fun pins s sl H D inv h => he.run pins s sl H D inv (imp D sl H h)⟩
theorem pss_weak {X : Cx} {e : List Stmt} {t t' : TS} (he : PSs X e t) (imp : ∀ D sl H, t' D sl H → t D sl H) : PSs X e t' := ⟨fun pins s sl H D inv h => he.run pins s sl H D inv (imp D sl H h)⟩
theorem ss_asg {tg : Expr} (he : ET X E e ra) (hg : GT X E tg g) (hs : swapsWithSole [tg] e pos.line X.env = pure false := by rfl) (hw : swappedStores [tg] e X.env = pure none := by rfl)
    (h1 : (assignEach [tg] X.env).map (·.2) = [assign tg X.env] := by rfl) : SS X E (.Assign [tg] e pos) (sAsg ra g) :=
  ⟨ps_weak (ps_asg he.pe hg.pg hs hw h1) fun D sl H ⟨⟨Z, σ, S, DT, fr, ok, w, eo, xo⟩⟩ =>
    ⟨_, σ, S, _, DT.ex, fr, ok, w, fun x S1 v H1 k le ok1 rep => ⟨_, σ, S1, x, DT.nx, DT.ex, fr.le le, ok1, rep, k, eo.nx.le le, xo.le le⟩, xo⟩⟩
theorem ss_set {i : Nat} {x : Str} {pos' : Pos} (hN : X.N.Nodup) (hi : X.N[i]? = some x) (hx : Loc X.env.scope x) (he : ET X E e ra) (hs : swapsWith e (some (.Name x pos')) pos.line X.env = pure false := by rfl)
    (hf : X.fn x = true ∨ X.env.scope.names.lookup x = some .local := by first | exact .inl rfl | exact .inr rfl | assumption) : SS X E (.Assign [.Name x pos'] e pos) (sAsg ra (gNameT i)) :=
  ⟨ps_weak (ps_set hN hi hx he.pe hs hf) fun D sl H ⟨⟨Z, σ, S, DT, fr, ok, w, eo, xo⟩⟩ =>
    ⟨_, σ, S, _, DT.ex, fr, ok, w, fun x S1 v H1 k le ok1 rep => eo.nx _ S1 _ H1 k le ok1 ((fr.le le).set i rep), xo⟩⟩
/-- a, b = e1, e2 -/
def sPar (i j : Nat) (t : TRA) : TRS := fun D σ S => t σ S (fun ts S1 => ∃ x y, ts = [x, y] ∧ D.nx ((σ.set i (some x)).set j (some y)) S1) D.ex
theorem ss_par {i j : Nat} {x y : Str} {px py pt : Pos} {kt k2 pt2} (hc : X.calm = true) (hN : X.N.Nodup) (hi : X.N[i]? = some x) (hj : X.N[j]? = some y) (hij : i ≠ j)
    (hx : X.env.scope.names.lookup x = some .local) (hy : X.env.scope.names.lookup y = some .local) (ha : AT X E [a, b] t)
    (hw : swappedStores [.Tuple [.Name x px, .Name y py] kt pt] (.Tuple [a, b] k2 pt2) X.env = pure (some [x, y]))
    (hs : swapsWithSole [.Tuple [.Name x px, .Name y py] kt pt] (.Tuple [a, b] k2 pt2) pos.line X.env = pure false := by rfl) :
    SS X E (.Assign [.Tuple [.Name x px, .Name y py] kt pt] (.Tuple [a, b] k2 pt2) pos) (sPar i j t) :=
  ⟨ps_weak (ps_par hc hN hi hj hij hx hy ha.pa hw hs) fun D sl H ⟨⟨Z, σ, S, DT, fr, ok, w, eo, xo⟩⟩ =>
    ⟨_, σ, S, _, DT.ex, fr, ok, w, fun xs S1 vs H1 k le ok1 rep => by
      obtain ⟨x, y, rfl, k⟩ := k
      cases rep with
      | cons r1 rr =>
        cases rr with
        | cons r2 rr =>
          cases rr
          exact ⟨_, _, rfl, eo.nx _ S1 _ H1 k le ok1 (((fr.le le).set i r1).set j r2)⟩, xo⟩⟩
def sDrop (ra : TR) : TRS := fun D σ S => ra σ S (fun _ S1 => D.nx σ S1) D.ex
theorem ss_expr (he : ET X E e ra) (hs : swapsWith e none pos.line X.env = pure false := by rfl) : SS X E (.Expr e pos) (sDrop ra) :=
  ⟨ps_weak (ps_expr he.pe hs) fun D sl H ⟨⟨Z, σ, S, DT, fr, ok, w, eo, xo⟩⟩ => ⟨_, σ, S, _, DT.ex, fr, ok, w, fun x S1 v H1 k le ok1 _ => eo.nx σ S1 sl H1 k le ok1 (fr.le le), xo⟩⟩
def sRet (ra : TR) : TRS := fun D σ S => ra σ S D.rt D.ex
theorem ss_ret (he : ET X E e ra) : SS X E (.Return (some e) pos) (sRet ra) := ⟨ps_weak (ps_ret he.pe) fun D sl H ⟨⟨Z, σ, S, DT, fr, ok, w, eo, xo⟩⟩ => ⟨_, σ, S, _, DT.ex, fr, ok, w, eo.rt, xo⟩⟩
def sRetN : TRS := fun D _ S => D.rt .non S
def sIf (tc : TRB) (ra rb : TRS) : TRS := fun D σ S => tc σ S (fun c S1 => if c = true then ra D σ S1 else rb D σ S1) D.ex
theorem ss_if {ta : TRB} {sa sb : TRS} {as bs : List Stmt} (hc : TT' X E c ta) (ha : BS X E as sa) (hb : BS X E bs sb) : SS X E (.If c as bs pos) (sIf ta sa sb) :=
  ⟨ps_weak (ps_if hc.pt ha.ps hb.ps) fun D sl H ⟨⟨Z, σ, S, DT, fr, ok, w, eo, xo⟩⟩ => ⟨_, σ, S, _, DT.ex, fr, ok, w, fun c S1 H1 k le ok1 => by
    cases c with
    | true => exact ⟨_, σ, S1, DT, fr.le le, ok1, k, eo.le le, xo.le le⟩
    | false => exact ⟨_, σ, S1, DT, fr.le le, ok1, k, eo.le le, xo.le le⟩, xo⟩⟩
def sNext : TRS := fun D σ S => D.nx σ S
def sSeq (ra rb : TRS) : TRS := fun D σ S => ra { D with nx := rb D } σ S
theorem bs_nil : BS X E [] sNext := ⟨pss_weak pss_nil fun D sl H ⟨⟨Z, σ, S, DT, fr, ok, w, eo, xo⟩⟩ => eo.nx σ S sl H w .refl ok fr⟩
theorem bs_cons {st : Stmt} {rest : List Stmt} {sa sb : TRS} (h1 : SS X E st sa) (h2 : BS X E rest sb) : BS X E (st :: rest) (sSeq sa sb) :=
  ⟨pss_weak (pss_cons h1.ps h2.ps) fun D sl H ⟨⟨Z, σ, S, DT, fr, ok, w, eo, xo⟩⟩ => ⟨_, σ, S, { DT with nx := sb DT }, fr, ok, w,
    ⟨fun σ1 S1 sl1 H1 k le ok1 fr1 => ⟨_, σ1, S1, DT, fr1, ok1, k, eo.le le, xo.le le⟩, eo.rt, eo.bk, eo.ct⟩, xo⟩⟩
theorem bs_one {st : Stmt} {sa : TRS} (h1 : SS X E st sa) : BS X E [st] sa :=
  ⟨pss_weak (pss_one h1.ps) fun D sl H h => h⟩
/-! ### what is walked -/
abbrev TRI := Fm → Store → (List T → Store → Prop) → XT → Prop
/-- J walks the things ts, whatever is made meanwhile -/
def SrcOk (K : PySem.W.Frag) (Z : Addr → Prop) (S0 : Store) (H0 : Hp) (J : It) (ts : List T) : Prop := ∀ Z' S H, Hid H0 Z Z' → Le S0 H0 S H → Ok K Z' S H →
  (∀ i t, ts[i]? = some t → J.go i H ∧ ∀ x H', J.yld i H x H' → Le S H S H' ∧ Ok K Z' S H' ∧ Rep K Z' S H' x t) ∧ ∀ i, ts.length ≤ i → J.stop i H
structure UpI (K : PySem.W.Frag) (E : XK) (r : TRI) (sl : L2.St) (H : Hp) (Q : It → Hp → Prop) : Prop where
  ex : ∃ Z σ S R RE, FrR K Z S H sl σ ∧ Ok K Z S H ∧ r σ S R RE ∧ (∀ ts S' J H', R ts S' → Le S H S' H' → Ok K Z S' H' → SrcOk K Z S' H' J ts → Q J H') ∧ XOk K Z S H RE E
structure IT (X : Cx) (E : XK) (tg it : Expr) (r : TRI) : Prop where
  pi : PI X tg it (UpI X.K E r)
def seqOf : T → Option (List T)
  | .lst ts => some ts
  | .scr ts => some ts
  | .tup ts => some ts
  | _ => none
def iSeq (ra : TR) : TRI := fun σ S R RE => ra σ S (fun t S1 => ∃ ts, seqOf t = some ts ∧ R ts S1) RE
theorem src_list {K : PySem.W.Frag} {Z : Addr → Prop} {S : Store} {H : Hp} {p : Addr} {vs : List V} {ts : List T} (h : LstAt Z S H p vs) (r : Reps K Z S H vs ts) : SrcOk K Z S H (Itl K p) ts := fun Z' S1 H1 hz le ok => by
  replace h := h.hide hz
  replace r := r.hide hz
  refine ⟨fun i t hi => ?_, fun i hi => ⟨vs, (h.le le).sq, by rw [r.length]; exact hi⟩⟩
  obtain ⟨v, hv, rep⟩ := r.get hi
  refine ⟨⟨vs, v, (h.le le).sq, hv⟩, fun x H' ⟨e, y⟩ => ?_⟩
  subst e
  have := y vs (h.le le).sq
  rw [hv] at this
  cases this
  exact ⟨.refl, ok, rep.le le⟩
theorem src_scr {K : PySem.W.Frag} {Z : Addr → Prop} {S : Store} {H : Hp} {p : Addr} {vs : List V} {ts : List T} (h : ScrAt K Z S H p vs) (r : Reps K Z S H vs ts) : SrcOk K Z S H (Itl K p) ts := fun Z' S1 H1 hz le ok => by
  replace h := h.hide hz
  replace r := r.hide hz
  refine ⟨fun i t hi => ?_, fun i hi => ⟨vs, (h.le le).sq, by rw [r.length]; exact hi⟩⟩
  obtain ⟨v, hv, rep⟩ := r.get hi
  refine ⟨⟨vs, v, (h.le le).sq, hv⟩, fun x H' ⟨e, y⟩ => ?_⟩
  subst e
  have := y vs (h.le le).sq
  rw [hv] at this
  cases this
  exact ⟨.refl, ok, rep.le le⟩
theorem src_tup {K : PySem.W.Frag} {Z : Addr → Prop} {S : Store} {H : Hp} {p : Addr} {vs : List V} {ts : List T} (h : TupAt K Z S H p vs) (r : Reps K Z S H vs ts) : SrcOk K Z S H (Itt K p) ts := fun Z' S1 H1 hz le ok => by
  replace h := h.hide hz
  replace r := r.hide hz
  refine ⟨fun i t hi => ?_, fun i hi => ⟨vs, (h.le le).sq, by rw [r.length]; exact hi⟩⟩
  obtain ⟨v, hv, rep⟩ := r.get hi
  refine ⟨⟨vs, v, (h.le le).sq, hv⟩, fun x H' ⟨e, y⟩ => ?_⟩
  subst e
  have := y vs (h.le le).sq
  rw [hv] at this
  cases this
  exact ⟨.refl, ok, rep.le le⟩
def iLT (K : PySem.W.Frag) (tl : TE) : TI := fun σ H R => tl σ H fun x H1 => ∃ a, x = .ref a ∧ (((∃ xs, SqL K H1 a xs) ∧ R (Itl K a) H1) ∨ ((∃ xs, SqT K H1 a xs) ∧ R (Itt K a) H1))
theorem pi_lt {tg l : Expr} {tl : TE} (hl : PE X l tl) : PI X tg l (iLT X.K tl) := by
  refine ⟨fun pins s sl H R I h => ?_⟩
  refine thn (hl.run pins s sl H _ I h) fun v s1 ⟨x, H1, I1, r1, q1⟩ => ?_
  obtain ⟨a, e, q⟩ := q1
  subst e
  cases r1
  rcases q with ⟨⟨xs, hq⟩, q⟩ | ⟨⟨xs, hq⟩, q⟩
  · obtain ⟨its, rv, p, hz⟩ := I1.list hq
    refine wpAny_pyIter_list p.isList ?_
    refine ⟨s1.heap.objs.size, [s1.heap.objs.size], _, _, H1, rfl, I1.kept (t' := s1.toks) fun b o e => Heap.get?_push_of_some _ e, turn_list a _, ⟨_, Heap.get?_push_size _ rfl, rfl, rfl⟩, fun b hb => ?_, q⟩
    have e : b = s1.heap.objs.size := by simpa using hb
    subst e
    exact I1.fpOk (Nat.le_refl _) (I1.hok.fresh (Nat.le_refl _))
  · obtain ⟨its, rv, p, hz⟩ := I1.tuple hq
    refine wpAny_pyIter_tuple (show s1.heap.IsTuple a its.toArray from p) ?_
    refine ⟨s1.heap.objs.size, [s1.heap.objs.size], _, _, H1, rfl, I1.kept (t' := s1.toks) fun b o e => Heap.get?_push_of_some _ e, turn_tuple a _, ⟨_, Heap.get?_push_size _ rfl, rfl, rfl⟩, fun b hb => ?_, q⟩
    have e : b = s1.heap.objs.size := by simpa using hb
    subst e
    exact I1.fpOk (Nat.le_refl _) (I1.hok.fresh (Nat.le_refl _))
theorem pi_weak {X : Cx} {tg e : Expr} {t t' : TI} (he : PI X tg e t) (imp : ∀ sl H Q, t' sl H Q → t sl H Q) : PI X tg e t' := ⟨fun pins s sl H R inv h => he.run pins s sl H R inv (imp sl H R h)⟩
theorem it_seq {tg : Expr} (ha : ET X E a ra) : IT X E tg a (iSeq ra) := ⟨pi_weak (pi_lt ha.pe) fun sl H Q ⟨⟨Z, σ, S, R, RE, fr, ok, w, po, xo⟩⟩ => by
  refine ⟨_, σ, S, _, RE, fr, ok, w, fun t S1 v H1 k le ok1 rep => ?_, xo⟩
  obtain ⟨ts, e, k⟩ := k
  cases rep <;> try (cases e; done)
  · cases e
    rename_i h r
    exact ⟨_, rfl, .inr ⟨⟨_, h.sq⟩, po ts S1 _ H1 k le ok1 (src_tup h r)⟩⟩
  · cases e
    rename_i h r
    exact ⟨_, rfl, .inl ⟨⟨_, h.sq⟩, po ts S1 _ H1 k le ok1 (src_list h r)⟩⟩
  · cases e
    rename_i h r
    exact ⟨_, rfl, .inl ⟨⟨_, h.sq⟩, po ts S1 _ H1 k le ok1 (src_scr h r)⟩⟩⟩
def rangeT (lo hi : Int) : List T := (List.range (hi - lo).toNat).map fun (i : Nat) => T.int (lo + i)
theorem src_range {K : PySem.W.Frag} {Z : Addr → Prop} {S : Store} {H : Hp} {lo : Int} {n : Nat} : SrcOk K Z S H (Itr lo n) ((List.range n).map fun (i : Nat) => T.int (lo + i)) := fun Z' S1 H1 hz le ok => by
  refine ⟨fun i t hi => ?_, fun i hi => by rw [List.length_map, List.length_range] at hi; exact hi⟩
  rw [List.getElem?_map] at hi
  obtain ⟨j, hj, e⟩ := Option.map_eq_some_iff.mp hi
  obtain ⟨l, ej⟩ := List.getElem?_eq_some_iff.mp hj
  rw [List.getElem_range] at ej
  subst ej e
  rw [List.length_range] at l
  refine ⟨l, fun x H' ⟨e1, e2⟩ => ?_⟩
  subst e1 e2
  exact ⟨.refl, ok, .int _⟩
def iRng1T (t : TRA) : TRI := fun σ S R RE => t σ S (fun xs S1 => ∃ j : Int, xs = [.int j] ∧ -(2 ^ 62) ≤ j ∧ j < 2 ^ 62 ∧ R (rangeT 0 j) S1) RE
def iRng2T (t : TRA) : TRI := fun σ S R RE => t σ S (fun xs S1 => ∃ i j : Int, xs = [.int i, .int j] ∧ (-(2 ^ 62) ≤ i ∧ i < 2 ^ 62 ∧ -(2 ^ 62) ≤ j ∧ j < 2 ^ 62) ∧ R (rangeT i j) S1) RE
theorem it_range1 {tg : Expr} {p : Pos} (hg : Gl X "range") (hm : X.mg "range" = none) (ha : AT X E [a] t) (hs : starEach [a] X.env = [(false, eval a X.env)] := by rfl) : IT X E tg (.Call (.Name "range" p) [a] [] pos) (iRng1T t) :=
  ⟨pi_weak (pi_range1 hg hm ha.pa hs) fun sl H Q ⟨⟨Z, σ, S, R, RE, fr, ok, w, po, xo⟩⟩ => ⟨_, σ, S, _, RE, fr, ok, w, fun xs S1 vs H1 k le ok1 rep => by
    obtain ⟨j, rfl, h1, h2, k⟩ := k
    cases rep with
    | cons r rr =>
      cases r; cases rr
      refine ⟨j, rfl, h1, h2, po _ S1 _ H1 k le ok1 ?_⟩
      have := src_range (K := X.K) (Z := Z) (S := S1) (H := H1) (lo := 0) (n := j.toNat)
      unfold rangeT
      rw [Int.sub_zero]
      exact this, xo⟩⟩
/-! ### for -/
def rLoop (g : TRG) (rb : TRS) (D : EnT) : List T → Fm → Store → Prop
  | [], σ, S => D.nx σ S
  | t :: ts, σ, S => g t σ S (fun σ1 S1 => rb { D with nx := rLoop g rb D ts, ct := rLoop g rb D ts, bk := D.nx } σ1 S1) D.ex
def sFor (ri : TRI) (g : TRG) (rb : TRS) : TRS := fun D σ S => ri σ S (fun ts S1 => rLoop g rb D ts σ S1) D.ex
theorem ss_for {iter tg : Expr} {body : List Stmt} {ri : TRI} {rb : TRS} (hp : PassesOwn (model X.prog X.w) X.A X.env X.xe) (hc : X.calm = true) (hi : IT X E tg iter ri) (hg : GT X E tg g) (hb : BS X E body rb)
    (hs : ∀ x, foldedSetIterable iter X.env x = pure x := by intro _; rfl) : SS X E (.For tg iter body [] pos) (sFor ri g rb) :=
  ⟨ps_weak (ps_for hp hc hi.pi hg.pg hb.ps hs) fun D sl H ⟨⟨Z, σ, S, DT, fr, ok, w, eo, xo⟩⟩ => by
    refine ⟨_, σ, S, _, DT.ex, fr, ok, w, fun ts S1 J H1 k le ok1 src => ?_, xo⟩
    refine ⟨fun i m sl' H' => m = ts.length - i ∧ i ≤ ts.length ∧ ∃ σ' S', FrR X.K Z S' H' sl' σ' ∧ Ok X.K Z S' H' ∧ Le S1 H1 S' H' ∧ rLoop g rb DT (ts.drop i) σ' S', ⟨_, rfl, Nat.zero_le _, σ, S1, fr.le le, ok1, .refl, k⟩, ?_⟩
    rintro i m sl' H' ⟨rfl, hi, σ', S', fr', ok', le', k'⟩
    obtain ⟨go, stop⟩ := src Z S' H' (fun _ z => .inl z) le' ok'
    by_cases hlt : i < ts.length
    · refine .inr ?_
      have hd : ts.drop i = ts[i] :: ts.drop (i + 1) := (List.drop_eq_getElem_cons hlt)
      rw [hd] at k'
      obtain ⟨g1, g2⟩ := go i ts[i] (List.getElem?_eq_getElem hlt)
      refine ⟨g1, fun sl2 H2 => ∃ σ2 S2, FrR X.K Z S2 H2 sl2 σ2 ∧ Ok X.K Z S2 H2 ∧ Le S1 H1 S2 H2 ∧ rLoop g rb DT (ts.drop (i + 1)) σ2 S2, ?_, ?_⟩
      · rintro sl2 H2 ⟨σ2, S2, f2, o2, l2, k2⟩
        exact ⟨_, by omega, rfl, hlt, σ2, S2, f2, o2, l2, k2⟩
      · intro x H2 y
        obtain ⟨l2, o2, rep⟩ := g2 x H2 y
        refine ⟨_, σ', S', ts[i], _, DT.ex, fr'.le l2, o2, rep, k', fun σ3 S3 sl3 H3 k3 l3 o3 f3 => ?_, (xo.le (le.trans le')).le l2⟩
        have lt := (le'.trans l2).trans l3
        refine ⟨_, σ3, S3, _, f3, o3, k3, ⟨fun σ4 S4 sl4 H4 k4 l4 o4 f4 => ⟨σ4, S4, f4, o4, lt.trans l4, k4⟩, (eo.rt.le (le.trans lt)), (eo.nx.le (le.trans lt)), fun σ4 S4 sl4 H4 k4 l4 o4 f4 => ⟨σ4, S4, f4, o4, lt.trans l4, k4⟩⟩, (xo.le (le.trans lt))⟩
    · have e : i = ts.length := by omega
      subst e
      rw [List.drop_length] at k'
      exact .inl ⟨stop _ (Nat.le_refl _), eo.nx σ' S' sl' H' k' (le.trans le') ok' fr'⟩⟩
/-- with an invariant -/
theorem rLoop_inv {rb : TRS} {D : EnT} {ts : List T} {σ : Fm} {S : Store} (P : Nat → Fm → Store → Prop) (h0 : P 0 σ S)
    (hs : ∀ i t σ S, ts[i]? = some t → P i σ S → ∀ N : Fm → Store → Prop, (∀ σ' S', P (i + 1) σ' S' → N σ' S') → g t σ S (fun σ1 S1 => rb { D with nx := N, ct := N, bk := D.nx } σ1 S1) D.ex)
    (hd : ∀ σ S, P ts.length σ S → D.nx σ S) : rLoop g rb D ts σ S := by
  suffices h : ∀ (us : List T) (i : Nat) σ S, ts.drop i = us → i ≤ ts.length → P i σ S → rLoop g rb D us σ S from h ts 0 σ S rfl (Nat.zero_le _) h0
  intro us
  induction us with
  | nil =>
    intro i σ S e hi p
    have : i = ts.length := by
      have := congrArg List.length e
      simp at this
      omega
    subst this
    exact hd σ S p
  | cons u us ih =>
    intro i σ S e hi p
    have hlt : i < ts.length := by
      have := congrArg List.length e
      simp at this
      omega
    rw [List.drop_eq_getElem_cons hlt] at e
    injection e with e1 e2
    exact hs i u σ S (by rw [← e1]; exact List.getElem?_eq_getElem hlt) p _ fun σ' S' p' => ih (i + 1) σ' S' e2 hlt p'
/-! ### while -/
def sWhile (tc : TRB) (rb : TRS) : TRS := fun D σ S => ∃ W : Nat → Fm → Store → Prop, (∃ m, W m σ S) ∧ ∀ m σ S, W m σ S →
  tc σ S (fun c S1 => if c = true then rb { D with nx := fun σ' S' => ∃ m', m' < m ∧ W m' σ' S', ct := fun σ' S' => ∃ m', m' < m ∧ W m' σ' S', bk := D.nx } σ S1 else D.nx σ S1) D.ex
theorem ss_while {body : List Stmt} {ta : TRB} {rb : TRS} (hp : PassesOwn (model X.prog X.w) X.A X.env X.xe) (hc : TT' X E c ta) (hb : BS X E body rb) : SS X E (.While c body [] pos) (sWhile ta rb) :=
  ⟨ps_weak (ps_while hp hc.pt hb.ps) fun D sl H ⟨⟨Z, σ, S, DT, fr, ok, ⟨W, ⟨m0, w0⟩, turn⟩, eo, xo⟩⟩ => by
    refine ⟨fun m sl' H' => ∃ σ' S', FrR X.K Z S' H' sl' σ' ∧ Ok X.K Z S' H' ∧ Le S H S' H' ∧ W m σ' S', ⟨m0, σ, S, fr, ok, .refl, w0⟩, ?_⟩
    rintro m sl' H' ⟨σ', S', fr', ok', le', w'⟩
    refine ⟨_, σ', S', _, DT.ex, fr', ok', turn m σ' S' w', fun c S1 H1 k le1 ok1 => ?_, xo.le le'⟩
    cases c with
    | true =>
      refine ⟨fun sl2 H2 => ∃ σ2 S2, FrR X.K Z S2 H2 sl2 σ2 ∧ Ok X.K Z S2 H2 ∧ Le S H S2 H2 ∧ ∃ m', m' < m ∧ W m' σ2 S2, ?_, ?_⟩
      · rintro sl2 H2 ⟨σ2, S2, f2, o2, l2, m', hm, k2⟩
        exact ⟨m', hm, σ2, S2, f2, o2, l2, k2⟩
      · have lt := le'.trans le1
        exact ⟨_, σ', S1, _, fr'.le le1, ok1, k, ⟨fun σ4 S4 sl4 H4 k4 l4 o4 f4 => ⟨σ4, S4, f4, o4, lt.trans l4, k4⟩, eo.rt.le lt, eo.nx.le lt, fun σ4 S4 sl4 H4 k4 l4 o4 f4 => ⟨σ4, S4, f4, o4, lt.trans l4, k4⟩⟩, xo.le lt⟩
    | false => exact eo.nx σ' S1 sl' H1 k (le'.trans le1) ok1 (fr'.le le1)⟩
end

/-! ### comprehensions -/
def XF : XT := fun _ _ _ => False
def EF : XK := fun _ _ _ => False
theorem XOk.f {K : PySem.W.Frag} {Z : Addr → Prop} {S : Store} {H : Hp} : XOk K Z S H XF EF := fun _ _ _ _ _ _ z => z.elim
structure TTs (X : Cx) (E : XK) (es : List Expr) (r : TRB) : Prop where
  pt : PTs X es (UpB X.K E r)
def bYes : TRB := fun _ S R _ => R true S
def rComp (fr : T → Fm) (tt : TRB) (re : TR) : List T → List T → Store → (List T → Store → Prop) → Prop
  | [], acc, S, R => R acc S
  | t :: ts, acc, S, R => tt (fr t) S (fun b S1 => if b = true then re (fr t) S1 (fun y S2 => acc.length < sizeLine ∧ rComp fr tt re ts (acc ++ [y]) S2 R) XF else rComp fr tt re ts acc S1 R) XF
section
variable {X : Cx} {E : XK} {e a b c : Expr} {es : List Expr} {pos : Pos} {ra rb rc : TR} {g : TRG} {gs : TRGs} {t : TRA}
theorem tts_nil : TTs X E [] bYes := ⟨⟨fun pins s sl H Q I h => pts_nil.run pins s sl H Q I (by
  obtain ⟨Z, σ, S, R, RE, fr, ok, w, po, xo⟩ := h.ex
  exact po true S H w .refl ok)⟩⟩
theorem tts_one {ta : TRB} (h : TT' X E c ta) : TTs X E [c] ta := ⟨pts_one h.pt⟩
def rLc (ri : TRI) (j : Nat) (tt : TRB) (re : TR) : TR := fun σ S R RE => ri σ S (fun ts S1 => rComp (fun t => σ.set j (some t)) tt re ts [] S1 (fun ys S2 => R (.lst ys) S2)) RE
theorem lc_turns {K : PySem.W.Frag} {Z : Addr → Prop} {S1 : Store} {H1 : Hp} {J : It} {ts : List T} {sl : L2.St} {σ : Fm} {g : TG} {vs : List Nat} {fr : T → Fm} {tt : TRB} {re : TR} {Q : VK} {R : List T → Store → Prop}
    (ok1 : Ok K Z S1 H1) (fr1 : FrR K Z S1 H1 sl σ) (src : SrcOk K Z S1 H1 J ts) (k : rComp fr tt re ts [] S1 R)
    (hg : ∀ Z' S H x t (Q' : L2.St → Hp → Prop), FrR K Z' S H sl σ → Rep K Z' S H x t → (∀ sl2, FrR K Z' S H sl2 (fr t) → wipe sl2 vs = wipe sl vs → Q' sl2 H) → g x (wipe sl vs) H Q')
    (po : ∀ ys S' v H', R ys S' → Le S1 H1 S' H' → Ok K Z S' H' → Rep K Z S' H' v (.lst ys) → Q v H') :
    ∀ D, H1 D = none → ∃ W : Nat → Nat → Hp → Prop, (∃ m, W 0 m (upd H1 D (.lst []))) ∧ ∀ i m H, W i m H →
  (J.stop i H ∧ Q (.ref D) H) ∨ (J.go i H ∧ ∃ Nx : Hp → Prop, (∀ H', Nx H' → ∃ m', m' < m ∧ W (i + 1) m' H') ∧ ∀ x H', J.yld i H x H' → g x (wipe sl vs) H' fun σ2 H2 => wipe σ2 vs = wipe sl vs ∧ UpB K EF tt σ2 H2 fun b H3 =>
    if b = true then UpE K EF re σ2 H3 fun y H4 => ∃ acc, H4 D = some (.lst acc) ∧ acc.length < sizeLine ∧ Nx (upd H4 D (.lst (acc ++ [y]))) else Nx H3) := by
  intro D hD
  have hz := hid_a (Z := Z) hD
  -- what holds at each turn
  let In : Nat → Hp → Prop := fun i H' => ∃ S' acc accV, Ok K (hideA Z D) S' H' ∧ FrR K (hideA Z D) S' H' sl σ ∧ Le S1 H1 S' H' ∧ H' D = some (.lst accV) ∧ Reps K (hideA Z D) S' H' accV acc ∧ rComp fr tt re (ts.drop i) acc S' R
  refine ⟨fun i m H' => m = ts.length - i ∧ i ≤ ts.length ∧ In i H', ⟨_, rfl, Nat.zero_le _, S1, [], [], ok1.hide hD, (fr1.hide hz).le (le_new hD), le_new hD, upd_same, .nil, k⟩, ?_⟩
  rintro i m H' ⟨rfl, hi, S', acc, accV, ok', fr', le', hd, rs, k'⟩
  obtain ⟨go, stop⟩ := src _ S' H' hz le' ok'
  by_cases hlt : i < ts.length
  · refine .inr ?_
    obtain ⟨g1, g2⟩ := go i ts[i] (List.getElem?_eq_getElem hlt)
    rw [List.drop_eq_getElem_cons hlt] at k'
    refine ⟨g1, In (i + 1), fun H2 h2 => ⟨_, by omega, rfl, hlt, h2⟩, fun x H2 y => ?_⟩
    obtain ⟨l2, o2, rep⟩ := g2 x H2 y
    refine hg _ S' H2 x ts[i] _ (fr'.le l2) rep fun sl2 f2 we => ⟨we, ?_⟩
    have hd2 := (l2 D _ hd (ok'.hid D (.inr rfl)).1 (fun _ e => nomatch e)).1
    refine ⟨_, fr ts[i], S', _, XF, f2, o2, k', fun b S3 H3 k3 l3 o3 => ?_, .f⟩
    have hd3 := (l3 D _ hd2 (o2.hid D (.inr rfl)).1 (fun _ e => nomatch e)).1
    cases b with
    | true =>
      refine ⟨_, fr ts[i], S3, _, XF, f2.le l3, o3, k3, fun y S4 vy H4 k4 l4 o4 ry => ?_, .f⟩
      obtain ⟨z, k4⟩ := k4
      have hd4 := (l4 D _ hd3 (o3.hid D (.inr rfl)).1 (fun _ e => nomatch e)).1
      have ll := ((l2.trans l3).trans l4)
      have lz : LeZ (hideA Z D) S4 H4 S4 (upd H4 D (.lst (accV ++ [vy]))) := lz_hid
      refine ⟨accV, hd4, by rw [rs.length]; exact z, S4, _, _, o4.hidSet, ((fr'.le ll).lz lz), fun a o h n nt => ?_, upd_same, ((rs.le ll).append (.cons ry .nil)).lz lz, k4⟩
      have := (le'.trans ll) a o h n nt
      rw [upd_ne (ne_of_none h hD)]
      exact this
    | false => exact ⟨S3, acc, accV, o3, fr'.le (l2.trans l3), (le'.trans l2).trans l3, hd3, rs.le (l2.trans l3), k3⟩
  · have e : i = ts.length := by omega
    subst e
    rw [List.drop_length] at k'
    refine .inl ⟨stop _ (Nat.le_refl _), po acc S' _ H' k' le' ok'.show ?_⟩
    exact .lst ⟨hd, (ok'.hid D (.inr rfl)).1, fun z => by
      obtain ⟨_, o, e⟩ := ok1.hid D z
      rw [hD] at e; cases e⟩ rs.show
theorem et_lc {elt tg iter : Expr} {ifs : List Expr} {scope : Scope} {x : Str} {j : Nat} {ri : TRI} {tt : TRB} {re : TR} (hc : X.calm = true) (hN : X.N.Nodup) (hi : IT X E tg iter ri) (ok : BlkOk X.N X.env.scope scope [(x, j)])
    (hg : ∀ (s : Shared) (H : Hp) (C : Addr) (cl : List (Str × Addr)) (fp : List Addr), PG (X.blk s H scope (compEnvC scope cl C X.env) fp) tg (gName j)) (ht : ∀ (s : Shared) (H : Hp) (C : Addr) (cl : List (Str × Addr)) (fp : List Addr), TTs (X.blk s H scope (compEnvC scope cl C X.env) fp) EF ifs tt)
    (he : ∀ (s : Shared) (H : Hp) (C : Addr) (cl : List (Str × Addr)) (fp : List Addr), ET (X.blk s H scope (compEnvC scope cl C X.env) fp) EF elt re) (hs : ∀ x, foldedSetIterable iter X.env x = pure x := by intro _; rfl) :
    ET X E (.ListComp elt [⟨tg, iter, ifs, 0⟩] scope pos) (rLc ri j tt re) :=
  ⟨pe_weak (pe_lc hc hN hi.pi ok hg (fun s H C cl fp => (ht s H C cl fp).pt) (fun s H C cl fp => (he s H C cl fp).pe) hs) fun sl H Q h => by
    obtain ⟨Z, σ, S, R, RE, fr, ok, w, po, xo⟩ := h.ex
    refine ⟨Z, σ, S, _, RE, fr, ok, w, fun ts S1 J H1 k le ok1 src => ?_, xo⟩
    refine lc_turns (fr := fun t => σ.set j (some t)) ok1 (fr.le le) src k (fun Z' S' H' x t Q' f r q => q _ ?_ ?_) fun ys S' v H' r l o rep => po _ S' v H' r (le.trans l) o rep
    · show FrR X.K Z' S' H' (((wipe sl []).set j none).set j (some x)) (σ.set j (some t))
      rw [List.set_set]
      exact f.set j r
    · show (((wipe sl []).set j none).set j (some x)).set j none = (wipe sl []).set j none
      rw [List.set_set, List.set_set]⟩
/-- y = [..] -/
theorem ss_setLc {i : Nat} {y : Str} {py spos : Pos} {elt tg iter : Expr} {ifs : List Expr} {scope : Scope} {x : Str} {j : Nat} {ri : TRI} {tt : TRB} {re : TR} (hc : X.calm = true) (hN : X.N.Nodup) (hy : X.N[i]? = some y) (hyl : X.env.scope.names.lookup y = some .local)
    (hsw : swapsWith (.ListComp elt [⟨tg, iter, ifs, 0⟩] scope pos) (some (.Name y py)) spos.line X.env = pure true) (hi : IT X E tg iter ri) (ok : BlkOk X.N X.env.scope scope [(x, j)])
    (hg : ∀ (s : Shared) (H : Hp) (C : Addr) (cl : List (Str × Addr)) (fp : List Addr), PG (X.blk s H scope (compEnvC scope cl C X.env) fp) tg (gName j)) (ht : ∀ (s : Shared) (H : Hp) (C : Addr) (cl : List (Str × Addr)) (fp : List Addr), TTs (X.blk s H scope (compEnvC scope cl C X.env) fp) EF ifs tt)
    (he : ∀ (s : Shared) (H : Hp) (C : Addr) (cl : List (Str × Addr)) (fp : List Addr), ET (X.blk s H scope (compEnvC scope cl C X.env) fp) EF elt re) (hs : ∀ x, foldedSetIterable iter X.env x = pure x := by intro _; rfl) :
    SS X E (.Assign [.Name y py] (.ListComp elt [⟨tg, iter, ifs, 0⟩] scope pos) spos) (sAsg (rLc ri j tt re) (gNameT i)) :=
  ⟨ps_weak (ps_setLc hc hN hy hyl hsw hi.pi ok hg (fun s H C cl fp => (ht s H C cl fp).pt) (fun s H C cl fp => (he s H C cl fp).pe) hs) fun D sl H h => by
    obtain ⟨Z, σ, S, DT, fr, ok, w, eo, xo⟩ := h.ex
    refine ⟨Z, σ, S, _, DT.ex, fr, ok, w, fun ts S1 J H1 k le ok1 src => ?_, xo⟩
    refine lc_turns (fr := fun t => σ.set j (some t)) ok1 (fr.le le) src k (fun Z' S' H' x t Q' f r q => q _ ?_ ?_) fun ys S' v H' r l o rep => eo.nx _ S' _ H' r (le.trans l) o ((fr.le (le.trans l)).set i rep)
    · show FrR X.K Z' S' H' (((wipe sl []).set j none).set j (some x)) (σ.set j (some t))
      rw [List.set_set]
      exact f.set j r
    · show (((wipe sl []).set j none).set j (some x)).set j none = (wipe sl []).set j none
      rw [List.set_set, List.set_set]⟩
/-- by an invariant: all items kept -/
theorem rComp_all {fr : T → Fm} {re : TR} {ts : List T} {S : Store} {R : List T → Store → Prop} (P : Nat → Store → Prop) (F : Nat → T → T → Prop) (h0 : P 0 S) (hl : ts.length ≤ sizeLine)
    (hs : ∀ i t S, ts[i]? = some t → P i S → ∀ N : T → Store → Prop, (∀ y S', F i t y → P (i + 1) S' → N y S') → re (fr t) S N XF)
    (hd : ∀ ys S, ys.length = ts.length → (∀ (i : Nat) t y, ts[i]? = some t → ys[i]? = some y → F i t y) → P ts.length S → R ys S) : rComp fr bYes re ts [] S R := by
  suffices h : ∀ (us : List T) (i : Nat) acc S, ts.drop i = us → i ≤ ts.length → acc.length = i → (∀ (j : Nat) t y, ts[j]? = some t → acc[j]? = some y → F j t y) → P i S → rComp fr bYes re us acc S R from
    h ts 0 [] S rfl (Nat.zero_le _) rfl (fun j t y _ e => by simp at e) h0
  intro us
  induction us with
  | nil =>
    intro i acc S e hi la fa p
    have : i = ts.length := by
      have := congrArg List.length e
      simp at this
      omega
    subst this
    exact hd acc S la fa p
  | cons u us ih =>
    intro i acc S e hi la fa p
    have hlt : i < ts.length := by
      have := congrArg List.length e
      simp at this
      omega
    rw [List.drop_eq_getElem_cons hlt] at e
    injection e with e1 e2
    have hu : ts[i]? = some u := by rw [← e1]; exact List.getElem?_eq_getElem hlt
    refine hs i u S hu p _ fun y S' f p' => ⟨by omega, ih (i + 1) (acc ++ [y]) S' e2 hlt (by simp [la]) (fun j t z ht hz => ?_) p'⟩
    by_cases hj : j < acc.length
    · rw [List.getElem?_append_left hj] at hz
      exact fa j t z ht hz
    · rw [List.getElem?_append_right (by omega)] at hz
      by_cases hj2 : j = acc.length
      · subst hj2
        simp at hz
        subst hz
        rw [la] at ht ⊢
        rw [hu] at ht
        cases ht
        exact f
      · rw [List.getElem?_eq_none (by simp; omega)] at hz
        cases hz
end
/-! ### defs -/
/-- a def's promise: arguments, what changes, what is wanted of the answer, of an error -/
abbrev SpT := List T → Store → (T → Store → Prop) → XT → Prop
structure UpF (K : PySem.W.Frag) (sp : SpT) (vs : List V) (H : Hp) (Q : VK) (E : XK) : Prop where
  ex : ∃ Z ts S R RE, Reps K Z S H vs ts ∧ Ok K Z S H ∧ sp ts S R RE ∧ PO K Z S H R Q ∧ XOk K Z S H RE E
theorem passN {X : Cx} : Passes (L2N.CX X.prog X.w) X EF := fun _ _ _ _ _ _ _ h => by
  obtain ⟨_, _, _, _, _, _, _, _, _, _, _, _, z⟩ := h
  exact z.elim
theorem passL2N {X : Cx} {E : XK} (tk : L2N.Takes X (fun cls d _ H => E cls d H)) : Passes (L2N.CX X.prog X.w) X E := L2N.passes_call tk fun _ _ _ _ h => h
structure FnT (P : Program) (w : World) (K : PySem.W.Frag) (mg : Str → Option Value) (base : Heap) (k : Nat) (f : Addr) (fd : FuncData) (ps : List Str) (sp : SpT) : Prop where
  fn : FnG P w K mg base (L2N.CX P w) k f fd ps (UpF K sp)
section
variable {P : Program} {w : World} {K : PySem.W.Frag} {mg : Str → Option Value} {base : Heap} {k : Nat} {f : Addr} {fd : FuncData} {ps : List Str} {sp : SpT}
theorem FnT.up {j : Nat} (F : FnT P w K mg base j f fd ps sp) (h : j ≤ k) : FnT P w K mg base k f fd ps sp := ⟨F.fn.up h⟩
theorem FnT.imp {sp' : SpT} (F : FnT P w K mg base k f fd ps sp) (h : ∀ ts S R RE, sp' ts S R RE → sp ts S R RE) : FnT P w K mg base k f fd ps sp' :=
  ⟨F.fn.imp fun vs H Q E q => let ⟨Z, ts, S, R, RE, rs, ok, s, po, xo⟩ := q.ex; ⟨Z, ts, S, R, RE, rs, ok, h _ _ _ _ s, po, xo⟩⟩
/-- the context of a def's body -/
abbrev cxT (P : Program) (w : World) (K : PySem.W.Frag) (mg : Str → Option Value) (base : Heap) (N : List Str) (qual : Str) (sc : Scope) (f : Addr) (cdv : Value) (A : Around) (out : List Env) (s : Shared) (H : Hp) (E : XK) : Cx := cxOf (L2N.CX P w) P w K mg base N qual sc f cdv A out s H E
theorem up_body {N : List Str} {X : Cx} {E : XK} {body : List Stmt} {r : TRS} {vs : List V} {H : Hp} {Q : VK} (bs : BS X E body r) (hsp : ∀ ts S R RE, sp ts S R RE → r { nx := fun _ S' => R .non S', rt := R, ex := RE } (startT N ts) S) (q : UpF X.K sp vs H Q E) :
    ∃ t, PSs X body t ∧ t { nx := fun _ H' => Q .non H', rt := Q } (start N vs) H := by
  obtain ⟨Z, ts, S, R, RE, rs, ok, s, po, xo⟩ := q.ex
  refine ⟨_, bs.ps, Z, startT N ts, S, _, FrR.start rs, ok, hsp ts S R RE s, ⟨fun σ' S' sl' H' r' le' ok' _ => po _ S' _ H' r' le' ok' .non, po, fun _ _ _ _ z => z.elim, fun _ _ _ _ z => z.elim⟩, xo⟩
theorem okT {x qual : Str} {st : Stmt} {N : List Str} {r : TRS} (F : Fun K x qual st f fd) (S : FnScope N ps (defScope st)) (len : ∀ ts S R RE, sp ts S R RE → ts.length = ps.length)
    (bs : ∀ (cdv : Value) (A : Around) (out : List Env) (s : Shared) (H : Hp) (E : XK), A.guards = some [] → Room k (A.deeper (envOfC qual (defScope st) s.heap.objs.size f cdv)) → BS (cxT P w K mg base N qual (defScope st) f cdv A out s H E) E (defBody st) r)
    (hsp : ∀ ts S R RE, sp ts S R RE → r { nx := fun _ S' => R .non S', rt := R, ex := RE } (startT N ts) S) : FnT P w K mg base (k + 1) f fd ps sp := by
  obtain ⟨_, _, _, _, _, _, cdv, _, _, e, lk, code⟩ := F.ex
  subst e
  refine ⟨okG0 lk code S (fun vs H Q E q => ?_) fun A out s H vs Q E g rm q => up_body (bs cdv A out s H E g rm) hsp q⟩
  obtain ⟨Z, ts, S, R, RE, rs, ok, s, po, xo⟩ := q.ex
  exact rs.length.trans (len _ _ _ _ s)
end
section
variable {X : Cx} {E : XK} {k n : Nat} {f : Addr} {fd : FuncData} {ps ks : List Str} {sp : SpT} {dvs : List V} {dts : List T} {ds : List Value} {x : Str} {p pos : Pos} {e : Expr} {es : List Expr} {kws : List Keyword} {t : TRA}
def rCall (sp : SpT) (dts : List T) (t : TRA) : TR := fun σ S R RE => t σ S (fun xs S1 => sp (xs ++ dts) S1 R RE) RE
/-- values that are the same whatever the heap -/
def DefT (K : PySem.W.Frag) (dvs : List V) (dts : List T) : Prop := ∀ Z S H, Reps K Z S H dvs dts
theorem DefT.nil {K : PySem.W.Frag} : DefT K [] [] := fun _ _ _ => .nil
theorem DefT.int {K : PySem.W.Frag} {i : Int} {vs ts} (r : DefT K vs ts) : DefT K (.int i :: vs) (.int i :: ts) := fun Z S H => .cons (.int i) (r Z S H)
theorem DefT.non {K : PySem.W.Frag} {vs ts} (r : DefT K vs ts) : DefT K (.non :: vs) (.non :: ts) := fun Z S H => .cons .non (r Z S H)
theorem DefT.bl {K : PySem.W.Frag} {b : Bool} {vs ts} (r : DefT K vs ts) : DefT K (.bl b :: vs) (.bl b :: ts) := fun Z S H => .cons (.bl b) (r Z S H)
theorem DefT.str {K : PySem.W.Frag} {z : Str} {vs ts} (r : DefT K vs ts) : DefT K (.str z :: vs) (.str z :: ts) := fun Z S H => .cons (.str z) (r Z S H)
theorem et_call (F : FnT X.prog X.w X.K X.mg X.base k f fd ps sp) (gds : X.A.guards = some []) (hr : Room k X.A) (hg : Gl X x) (hm : X.mg x = some (.ref f)) (hk : PySem.W.keepIn X.K (.ref f) = true) (hb : Binds X.K fd ps ds) (hd : Vals dvs ds) (hdt : DefT X.K dvs dts) (hx : Passes (L2N.CX X.prog X.w) X E)
    (ha : AT X E (e :: es) t) (hdb : (x == ("__debug__" : Str)) = false := by decide) (he : starEach (e :: es) X.env = (false, eval e X.env) :: starEach es X.env := by rfl) (hpl : (backTo pos (starEach es X.env)).any (·.1) = false := by rfl) :
    ET X E (.Call (.Name x p) (e :: es) [] pos) (rCall sp dts t) :=
  ⟨pe_weak (callG F.fn gds hr hg hm hk hb hd hx ha.pa hdb he hpl) fun sl H Q h => UpA.args (k := fun xs S1 R RE => sp (xs ++ dts) S1 R RE) h fun Z xs S1 vs H1 R RE ok rs kk po xo =>
    ⟨Z, _, S1, R, RE, rs.append (hdt Z S1 H1), ok, kk, po, xo⟩⟩
theorem et_call0 (F : FnT X.prog X.w X.K X.mg X.base k f fd ps sp) (gds : X.A.guards = some []) (hr : Room k X.A) (hg : Gl X x) (hm : X.mg x = some (.ref f)) (hk : PySem.W.keepIn X.K (.ref f) = true) (hb : Binds X.K fd ps ds) (hd : Vals dvs ds) (hdt : DefT X.K dvs dts) (hx : Passes (L2N.CX X.prog X.w) X E)
    (hdb : (x == ("__debug__" : Str)) = false := by decide) : ET X E (.Call (.Name x p) [] [] pos) (rCall sp dts aNil) :=
  ⟨pe_weak (callG0 F.fn gds hr hg hm hk hb hd hx hdb) fun sl H Q h => by
    obtain ⟨Z, σ, S, R, RE, fr, ok, w, po, xo⟩ := h.ex
    exact ⟨Z, _, S, R, RE, hdt Z S H, ok, w, po, xo⟩⟩
/-! keywords -/
structure KT (X : Cx) (E : XK) (kws : List Keyword) (r : TRA) : Prop where
  pk : PK X kws (UpA X.K E r)
/-- an order of the arguments, the same for trees and values -/
def OrdT (K : PySem.W.Frag) (gV : List V → List V → List V) (gT : List T → List T → List T) : Prop := ∀ Z S H vs ts us ws, Reps K Z S H vs ts → Reps K Z S H us ws → Reps K Z S H (gV vs us) (gT ts ws)
def rCallN (n m : Nat) (sp : SpT) (gT : List T → List T → List T) (t tk : TRA) : TR := fun σ S R RE => t σ S (fun xs S1 => tk σ S1 (fun zs S2 => xs.length = n ∧ zs.length = m ∧ sp (gT xs zs) S2 R RE) RE) RE
variable {g : List Value → List Value → List Value} {gV : List V → List V → List V} {gT : List T → List T → List T} {tk : TRA}
end

/-! ### data -/
mutual
def T.dat : T → Option PyData
  | .non => some .none
  | .bl b => some (.bool b)
  | .int i => some (.int i)
  | .str z => some (.str z)
  | .lst l => (T.datL l).map .list
  | .tup l => (T.datL l).map .tuple
  | _ => none
def T.datL : List T → Option (List PyData)
  | [] => some []
  | t :: ts => match t.dat, T.datL ts with
    | some d, some ds => some (d :: ds)
    | _, _ => none
end
section
variable {K : PySem.W.Frag} {Z : Addr → Prop} {S : Store} {H : Hp}
mutual
theorem Rep.dp : ∀ {v : V} {t : T}, Rep K Z S H v t → ∀ {d}, t.dat = some d → Dp K H v d
  | _, _, .non, d, e => by rw [T.dat] at e; cases e; exact .non
  | _, _, .bl b, d, e => by rw [T.dat] at e; cases e; exact .bl b
  | _, _, .int i, d, e => by rw [T.dat] at e; cases e; exact .int i
  | _, _, .str z, d, e => by rw [T.dat] at e; cases e; exact .str z
  | _, _, .ty n, d, e => by rw [T.dat] at e <;> first | cases e | (intros; rename_i h; cases h)
  | _, _, .st a, d, e => by rw [T.dat] at e <;> first | cases e | (intros; rename_i h; cases h)
  | _, _, .cell a, d, e => by rw [T.dat] at e <;> first | cases e | (intros; rename_i h; cases h)
  | _, _, .scr h r, d, e => by rw [T.dat] at e <;> first | cases e | (intros; rename_i h; cases h)
  | _, _, .ins h n r, d, e => by rw [T.dat] at e <;> first | cases e | (intros; rename_i h; cases h)
  | _, _, .dct h n, d, e => by rw [T.dat] at e <;> first | cases e | (intros; rename_i h; cases h)
  | _, _, .exc h n hd nd r, d, e => by rw [T.dat] at e <;> first | cases e | (intros; rename_i h; cases h)
  | _, _, .tup h r, d, e => by
    rw [T.dat] at e
    obtain ⟨ds, e1, rfl⟩ := Option.map_eq_some_iff.mp e
    exact .tup h.sq (Reps.dp r e1)
  | _, _, .lst h r, d, e => by
    rw [T.dat] at e
    obtain ⟨ds, e1, rfl⟩ := Option.map_eq_some_iff.mp e
    exact .lst h.sq (Reps.dp r e1)
theorem Reps.dp : ∀ {vs : List V} {ts : List T}, Reps K Z S H vs ts → ∀ {ds}, T.datL ts = some ds → DpAll K H vs ds
  | _, _, .nil, ds, e => by rw [T.datL] at e; cases e; exact .nil
  | _, _, .cons h r, ds, e => by
    rw [T.datL] at e
    split at e
    · rename_i d1 ds1 e1 e2
      cases e
      exact .cons (Rep.dp h e1) (Reps.dp r e2)
    · cases e
end
end
/-! ### operators of trees -/
section
variable {X : Cx} {E : XK}
theorem OpR.or {f : Value → Value → Sem Value} {r r' : R2} (h : OpR X f r) (h' : OpR X f r') : OpR X f (fun x y H Q => r x y H Q ∨ r' x y H Q) := fun pins s σ H x y v u Q I rx ry w =>
  w.elim (h pins s σ H x y v u Q I rx ry) (h' pins s σ H x y v u Q I rx ry)
abbrev KB := T → T → Store → (T → Store → Prop) → XT → Prop
def kAdd : KB := fun x y S R _ => match x, y with
  | .int i, .int j => R (.int (i + j)) S
  | .str a, .str b => a.length + b.length ≤ sizeLine ∧ R (.str (a ++ b)) S
  | .lst a, .lst b => a.length + b.length ≤ sizeLine ∧ R (.lst (a ++ b)) S
  | .tup a, .tup b => a ≠ [] ∧ a.length + b.length ≤ sizeLine ∧ R (.tup (a ++ b)) S
  | _, _ => False
def rStrAdd : R2 := fun x y H Q => ∃ i j, x = .str i ∧ y = .str j ∧ i.length + j.length ≤ sizeLine ∧ Q (.str (i ++ j)) H
theorem cv_add : Conv X.K E kAdd (fun x y H Q => (rI0 fun i j => .int (i + j)) x y H Q ∨ (rStrAdd x y H Q ∨ (rCat x y H Q ∨ rCatT X.K x y H Q))) := by
  intro Z x y S v u H R RE Q ok rx ry kk po xo
  unfold kAdd at kk
  split at kk
  · cases rx; cases ry
    exact .inl ⟨_, _, rfl, rfl, po _ _ _ _ kk .refl ok (.int _)⟩
  · cases rx; cases ry
    exact .inr (.inl ⟨_, _, rfl, rfl, kk.1, po _ _ _ _ kk.2 .refl ok (.str _)⟩)
  · cases rx with
    | lst h1 r1 =>
      cases ry with
      | lst h2 r2 => exact .inr (.inr (.inl ⟨_, _, _, _, rfl, rfl, h1.1, h2.1, by rw [r1.length, r2.length]; exact kk.1, fun p hp => po _ _ _ _ kk.2 (le_new hp) (ok.new hp) (.lstN ok hp (r1.append r2))⟩))
  · cases rx with
    | tup h1 r1 =>
      cases ry with
      | @tup p2 vs2 ts2 h2 r2 =>
        refine .inr (.inr (.inr ⟨_, _, _, _, rfl, rfl, h1.sq, h2.sq, fun e => ?_, by rw [r1.length, r2.length]; exact kk.2.1, fun e => ?_, fun _ p hp => po _ _ _ _ kk.2.2 (le_new hp) (ok.new hp) (.tupN ok hp (r1.append r2))⟩))
        · subst e
          cases r1
          exact kk.1 rfl
        · subst e
          cases r2
          have q := kk.2.2
          rw [List.append_nil] at q
          exact po _ _ _ _ q .refl ok (.tup h1 r1)
  · exact kk.elim
theorem op_addG : OpR X (binaryOp .Add) (fun x y H Q => (rI0 fun i j => .int (i + j)) x y H Q ∨ (rStrAdd x y H Q ∨ (rCat x y H Q ∨ rCatT X.K x y H Q))) := op_add.or (OpR.or op_add_str (op_cat.or op_catT))
def kI2 (C : Int → Int → Prop) (g : Int → Int → T) : KB := fun x y S R _ => match x, y with
  | .int i, .int j => C i j ∧ R (g i j) S
  | _, _ => False
theorem cv_I2 {C : Int → Int → Prop} {g : Int → Int → Int} : Conv X.K E (kI2 C fun i j => .int (g i j)) (rI C fun i j => .int (g i j)) := by
  intro Z x y S v u H R RE Q ok rx ry kk po xo
  unfold kI2 at kk
  split at kk
  · cases rx; cases ry
    exact ⟨_, _, rfl, rfl, kk.1, po _ _ _ _ kk.2 .refl ok (.int _)⟩
  · exact kk.elim
def kI2n (g : Int → Int → T) : KB := fun x y S R _ => match x, y with
  | .int i, .int j => R (g i j) S
  | _, _ => False
theorem cv_I2n {g : Int → Int → Int} : Conv X.K E (kI2n fun i j => .int (g i j)) (rI0 fun i j => .int (g i j)) := by
  intro Z x y S v u H R RE Q ok rx ry kk po xo
  unfold kI2n at kk
  split at kk
  · cases rx; cases ry
    exact ⟨_, _, rfl, rfl, po _ _ _ _ kk .refl ok (.int _)⟩
  · exact kk.elim
theorem cv_B2n {g : Int → Int → Bool} : Conv X.K E (kI2n fun i j => .bl (g i j)) (rI0 fun i j => .bl (g i j)) := by
  intro Z x y S v u H R RE Q ok rx ry kk po xo
  unfold kI2n at kk
  split at kk
  · cases rx; cases ry
    exact ⟨_, _, rfl, rfl, po _ _ _ _ kk .refl ok (.bl _)⟩
  · exact kk.elim
def kMul : KB := fun x y S R _ => match x, y with
  | .int i, .int j => IntMulOk i j ∧ R (.int (i * j)) S
  | .lst a, .int k => (-(2 ^ 63) ≤ k ∧ k < 2 ^ 63) ∧ a.length * k.toNat ≤ sizeLine ∧ R (.lst (List.replicate k.toNat a).flatten) S
  | .tup a, .int k => a ≠ [] ∧ 2 ≤ k ∧ k ≤ 1000 ∧ a.length ≤ 1000 ∧ R (.tup (List.replicate k.toNat a).flatten) S
  | _, _ => False
theorem Reps.rep {K : PySem.W.Frag} {Z : Addr → Prop} {S : Store} {H : Hp} {vs : List V} {ts : List T} (r : Reps K Z S H vs ts) : ∀ n : Nat, Reps K Z S H (List.replicate n vs).flatten (List.replicate n ts).flatten
  | 0 => .nil
  | n + 1 => by
    rw [List.replicate_succ, List.replicate_succ, List.flatten_cons, List.flatten_cons]
    exact r.append (Reps.rep r n)
theorem cv_mul : Conv X.K E kMul (fun x y H Q => (rI IntMulOk fun i j => .int (i * j)) x y H Q ∨ (rRep x y H Q ∨ rRepT X.K x y H Q)) := by
  intro Z x y S v u H R RE Q ok rx ry kk po xo
  unfold kMul at kk
  split at kk
  · cases rx; cases ry
    exact .inl ⟨_, _, rfl, rfl, kk.1, po _ _ _ _ kk.2 .refl ok (.int _)⟩
  · cases ry
    cases rx with
    | lst h1 r1 => exact .inr (.inl ⟨_, _, _, rfl, rfl, h1.1, kk.1.1, kk.1.2, by rw [r1.length]; exact kk.2.1, fun p hp => po _ _ _ _ kk.2.2 (le_new hp) (ok.new hp) (.lstN ok hp (r1.rep _))⟩)
  · cases ry
    cases rx with
    | tup h1 r1 => exact .inr (.inr ⟨_, _, _, rfl, rfl, h1.sq, fun e => by subst e; cases r1; exact kk.1 rfl, kk.2.1, kk.2.2.1, by rw [r1.length]; exact kk.2.2.2.1, fun p hp => po _ _ _ _ kk.2.2.2.2 (le_new hp) (ok.new hp) (.tupN ok hp (r1.rep _))⟩)
  · exact kk.elim
theorem op_mulP : OpR X (binaryOp .Mult) (rI IntMulOk fun i j => .int (i * j)) := opI fun _ _ _ _ _ _ _ hc q => mul_int q hc
theorem op_mulG : OpR X (binaryOp .Mult) (fun x y H Q => (rI IntMulOk fun i j => .int (i * j)) x y H Q ∨ (rRep x y H Q ∨ rRepT X.K x y H Q)) := op_mulP.or (op_rep.or op_repT)
/-! comparisons -/
def scalT : T → T → Bool
  | .non, .non => true | .non, .int _ => true | .int _, .non => true | .non, .bl _ => true | .bl _, .non => true | .non, .str _ => true | .str _, .non => true
  | .int _, .int _ => true | .bl _, .bl _ => true | .str _, .str _ => true
  | .int _, .str _ => true | .str _, .int _ => true | .bl _, .str _ => true | .str _, .bl _ => true
  | _, _ => false
def eqS : T → T → Bool
  | .non, .non => true
  | .int i, .int j => decide (i = j)
  | .bl i, .bl j => decide (i = j)
  | .str i, .str j => decide (i = j)
  | _, _ => false
def kEqG (ng : Bool) : KB := fun x y S R _ => (scalT x y = true ∧ R (.bl (ng ^^ eqS x y)) S) ∨ ∃ d e, x.dat = some d ∧ y.dat = some e ∧ SeqAt.shaped d = true ∧ SeqAt.shaped e = true ∧ R (.bl (ng ^^ PyData.eqv d e)) S
theorem scal_rep {K : PySem.W.Frag} {Z : Addr → Prop} {S : Store} {H : Hp} {v u : V} {x y : T} (rx : Rep K Z S H v x) (ry : Rep K Z S H u y) (h : scalT x y = true) : scal v u = true ∧ decide (v = u) = eqS x y := by
  cases rx <;> cases ry <;> first | (cases h; done) | exact ⟨rfl, by simp [eqS]⟩
theorem cv_eq : Conv X.K E (kEqG false) (fun x y H Q => rEq x y H Q ∨ rEqD X.K x y H Q) := by
  intro Z x y S v u H R RE Q ok rx ry kk po xo
  rcases kk with ⟨h, k⟩ | ⟨d, e, hd, he, sd, se, k⟩
  · obtain ⟨h1, h2⟩ := scal_rep rx ry h
    refine .inl ⟨h1, ?_⟩
    rw [h2]
    exact po _ _ _ _ (by simpa using k) .refl ok (.bl _)
  · exact .inr ⟨d, e, rx.dp hd, ry.dp he, sd, se, po _ _ _ _ (by simpa using k) .refl ok (.bl _)⟩
theorem cv_ne : Conv X.K E (kEqG true) (fun x y H Q => rNe x y H Q ∨ rNeD X.K x y H Q) := by
  intro Z x y S v u H R RE Q ok rx ry kk po xo
  rcases kk with ⟨h, k⟩ | ⟨d, e, hd, he, sd, se, k⟩
  · obtain ⟨h1, h2⟩ := scal_rep rx ry h
    refine .inl ⟨h1, ?_⟩
    rw [h2]
    exact po _ _ _ _ (by simpa using k) .refl ok (.bl _)
  · exact .inr ⟨d, e, rx.dp hd, ry.dp he, sd, se, po _ _ _ _ (by simpa using k) .refl ok (.bl _)⟩
theorem op_eqG (hu : X.A.units + 64 < cLine) : OpR X (compareOp .Eq) (fun x y H Q => rEq x y H Q ∨ rEqD X.K x y H Q) := op_eq.or (op_eqD hu)
theorem op_neG (hu : X.A.units + 64 < cLine) : OpR X (compareOp .NotEq) (fun x y H Q => rNe x y H Q ∨ rNeD X.K x y H Q) := op_ne.or (op_neD hu)
def isNon : T → Bool
  | .non => true
  | _ => false
def kIsN (ng : Bool) : KB := fun x y S R _ => y = .non ∧ R (.bl (ng ^^ isNon x)) S
theorem non_rep {K : PySem.W.Frag} {Z : Addr → Prop} {S : Store} {H : Hp} {v : V} {x : T} (rx : Rep K Z S H v x) : decide (v = .non) = isNon x := by
  cases rx <;> simp [isNon]
theorem cv_isN : Conv X.K E (kIsN false) (fun x y H Q => y = .non ∧ Q (.bl (decide (x = .non))) H) := by
  intro Z x y S v u H R RE Q ok rx ry ⟨e, k⟩ po xo
  subst e
  cases ry
  refine ⟨rfl, ?_⟩
  rw [non_rep rx]
  exact po _ _ _ _ (by simpa using k) .refl ok (.bl _)
/-! a[i] -/
def kIx : KB := fun x y S R _ => match x, y with
  | .lst l, .int i => ∃ t, atI l i = some t ∧ R t S
  | .tup l, .int i => ∃ t, atI l i = some t ∧ R t S
  | .scr l, .int i => ∃ t, atI l i = some t ∧ R t S
  | .str z, .int i => z.length ≤ sizeLine ∧ ∃ c, atI z.cps.toList i = some c ∧ R (.str ⟨#[c]⟩) S
  | .cell a, .int i => ∃ l t, S a = some (.lst l) ∧ atI l i = some t ∧ R t S
  | _, _ => False
theorem Reps.at {K : PySem.W.Frag} {Z : Addr → Prop} {S : Store} {H : Hp} {vs : List V} {ts : List T} {i : Int} {t : T} (r : Reps K Z S H vs ts) (h : atI ts i = some t) : ∃ v, atI vs i = some v ∧ Rep K Z S H v t := by
  unfold atI at h ⊢
  rw [r.length]
  cases e : ixN ts.length i with
  | none => rw [e] at h; cases h
  | some j => rw [e] at h; exact r.get h
theorem cv_ix : Conv X.K E kIx (rIx X.K) := by
  intro Z x y S v u H R RE Q ok rx ry kk po xo
  unfold kIx at kk
  split at kk
  · obtain ⟨t, h, k⟩ := kk
    cases ry
    cases rx with
    | lst h1 r1 =>
      obtain ⟨w, hw, rw'⟩ := r1.at h
      exact .inl ⟨_, _, _, _, rfl, rfl, h1.sq, hw, po _ _ _ _ k .refl ok rw'⟩
  · obtain ⟨t, h, k⟩ := kk
    cases ry
    cases rx with
    | tup h1 r1 =>
      obtain ⟨w, hw, rw'⟩ := r1.at h
      exact .inr (.inl ⟨_, _, _, _, rfl, rfl, h1.sq, hw, po _ _ _ _ k .refl ok rw'⟩)
  · obtain ⟨t, h, k⟩ := kk
    cases ry
    cases rx with
    | scr h1 r1 =>
      obtain ⟨w, hw, rw'⟩ := r1.at h
      exact .inl ⟨_, _, _, _, rfl, rfl, h1.sq, hw, po _ _ _ _ k .refl ok rw'⟩
  · obtain ⟨z, c, h, k⟩ := kk
    cases ry; cases rx
    exact .inr (.inr ⟨_, _, _, rfl, rfl, z, h, po _ _ _ _ k .refl ok (.str _)⟩)
  · obtain ⟨l, t, hs, h, k⟩ := kk
    cases ry; cases rx
    rename_i a i
    have c := ok.cl a
    rw [hs] at c
    obtain ⟨vs, hv, r1⟩ := c
    obtain ⟨w, hw, rw'⟩ := r1.at h
    exact .inl ⟨_, _, _, _, rfl, rfl, .of hv, hw, po _ _ _ _ k .refl ok rw'⟩
  · exact kk.elim
/-! len, truth, built-ins -/
abbrev KA := List T → Store → (T → Store → Prop) → XT → Prop
def lenT : T → Store → Option Nat
  | .lst l, _ => some l.length
  | .tup l, _ => some l.length
  | .scr l, _ => some l.length
  | .str z, _ => if z.length ≤ sizeLine then some z.length else none
  | .cell a, S => match S a with
    | some (.lst l) => some l.length
    | _ => none
  | _, _ => none
def kLen : KA := fun xs S R _ => ∃ x n, xs = [x] ∧ lenT x S = some n ∧ R (.int (n : Nat)) S
theorem len_rep {K : PySem.W.Frag} {Z : Addr → Prop} {S : Store} {H : Hp} {v : V} {x : T} {n : Nat} (ok : Ok K Z S H) (rx : Rep K Z S H v x) (h : lenT x S = some n) : LenV K v H n := by
  cases rx with
  | str z =>
    simp only [lenT] at h
    split at h
    · cases h; exact ⟨by assumption, rfl⟩
    · cases h
  | tup h1 r1 => cases h; exact .inr ⟨_, h1.sq, r1.length.symm⟩
  | lst h1 r1 => cases h; exact .inl ⟨_, h1.sq, r1.length.symm⟩
  | scr h1 r1 => cases h; exact .inl ⟨_, h1.sq, r1.length.symm⟩
  | cell a =>
    simp only [lenT] at h
    have c := ok.cl a
    split at h
    · rename_i l e
      rw [e] at c
      obtain ⟨vs, hv, r⟩ := c
      cases h
      exact .inl ⟨_, .of hv, r.length.symm⟩
    · cases h
  | _ => cases h
theorem cv_len : ConvA X.K E kLen (fun xs H Q => ∃ x n, xs = [x] ∧ LenV X.K x H n ∧ Q (.int n) H) := by
  intro Z xs S vs H R RE Q ok rs ⟨x, n, e, h, k⟩ po xo
  subst e
  cases rs with
  | cons r rr =>
    cases rr
    exact ⟨_, n, rfl, len_rep ok r h, po _ _ _ _ k .refl ok (.int _)⟩
def kU (g : Int → T) : KA := fun xs S R _ => ∃ i, xs = [.int i] ∧ R (g i) S
theorem cv_U {g : Int → Int} : ConvA X.K E (kU fun i => .int (g i)) (fun xs H Q => ∃ i, xs = [.int i] ∧ Q (.int (g i)) H) := by
  intro Z xs S vs H R RE Q ok rs ⟨i, e, k⟩ po xo
  subst e
  cases rs with
  | cons r rr =>
    cases rr; cases r
    exact ⟨_, rfl, po _ _ _ _ k .refl ok (.int _)⟩
def kA2 (g : Int → Int → T) : KA := fun xs S R _ => ∃ i j, xs = [.int i, .int j] ∧ R (g i j) S
theorem cv_A2 {g : Int → Int → Int} : ConvA X.K E (kA2 fun i j => .int (g i j)) (fun xs H Q => ∃ i j, xs = [.int i, .int j] ∧ Q (.int (g i j)) H) := by
  intro Z xs S vs H R RE Q ok rs ⟨i, j, e, k⟩ po xo
  subst e
  cases rs with
  | cons r rr =>
    cases r
    cases rr with
    | cons r rr =>
      cases r; cases rr
      exact ⟨_, _, rfl, po _ _ _ _ k .refl ok (.int _)⟩
def kDm : KA := fun xs S R _ => ∃ i j, xs = [.int i, .int j] ∧ CDivP i j ∧ R (.tup [.int (i / j), .int (i % j)]) S
theorem cv_dm : ConvA X.K E kDm (fun xs H Q => ∃ i j, xs = [.int i, .int j] ∧ CDivP i j ∧ ∀ p, H p = none → Q (.ref p) (upd H p (.tup [.int (i / j), .int (i % j)]))) := by
  intro Z xs S vs H R RE Q ok rs ⟨i, j, e, c, k⟩ po xo
  subst e
  cases rs with
  | cons r rr =>
    cases r
    cases rr with
    | cons r rr =>
      cases r; cases rr
      exact ⟨_, _, rfl, c, fun p hp => po _ _ _ _ k (le_new hp) (ok.new hp) (.tupN ok hp (.cons (.int _) (.cons (.int _) .nil)))⟩
def kStrI : KA := fun xs S R _ => ∃ i, xs = [.int i] ∧ i.natAbs.log2 < 1920 ∧ R (.str (toString i)) S
theorem cv_strI : ConvA X.K E kStrI (fun xs H Q => ∃ i, xs = [.int i] ∧ i.natAbs.log2 < 1920 ∧ Q (.str (toString i)) H) := by
  intro Z xs S vs H R RE Q ok rs ⟨i, e, c, k⟩ po xo
  subst e
  cases rs with
  | cons r rr =>
    cases rr; cases r
    exact ⟨_, rfl, c, po _ _ _ _ k .refl ok (.str _)⟩
/-- all, any of a list of truths -/
def kAll (f : List Bool → Bool) : KA := fun xs S R _ => ∃ bs : List Bool, xs = [.lst (bs.map .bl)] ∧ R (.bl (f bs)) S
theorem reps_bl {K : PySem.W.Frag} {Z : Addr → Prop} {S : Store} {H : Hp} : ∀ {bs : List Bool} {vs : List V}, Reps K Z S H vs (bs.map .bl) → vs = bs.map .bl
  | [], _, .nil => rfl
  | b :: bs, _, .cons h r => by cases h; rw [reps_bl r]; rfl
theorem cv_all {f : List Bool → Bool} : ConvA X.K E (kAll f) (fun vs H Q => ∃ (a : Addr) (bs : List Bool), vs = [V.ref a] ∧ SqL X.K H a (bs.map V.bl) ∧ Q (.bl (f bs)) H) := by
  intro Z xs S vs H R RE Q ok rs ⟨bs, e, k⟩ po xo
  subst e
  cases rs with
  | cons r rr =>
    cases rr
    cases r with
    | lst h1 r1 =>
      rw [reps_bl r1] at h1
      exact ⟨_, bs, rfl, h1.sq, po _ _ _ _ k .refl ok (.bl _)⟩
end

/-! ### slices -/
abbrev TRO := Fm → Store → (Option Int → Store → Prop) → XT → Prop
structure UpO (K : PySem.W.Frag) (E : XK) (r : TRO) (sl : L2.St) (H : Hp) (Q : Option Int → Hp → Prop) : Prop where
  ex : ∃ Z σ S R RE, FrR K Z S H sl σ ∧ Ok K Z S H ∧ r σ S R RE ∧ (∀ o S' H', R o S' → Le S H S' H' → Ok K Z S' H' → Q o H') ∧ XOk K Z S H RE E
structure OT (X : Cx) (E : XK) (e : Option Expr) (r : TRO) : Prop where
  po : L2.PO X e (UpO X.K E r)
theorem po_weak {X : Cx} {e : Option Expr} {t t' : TO} (he : L2.PO X e t) (imp : ∀ sl H Q, t' sl H Q → t sl H Q) : L2.PO X e t' := ⟨fun pins s sl H Q inv h => he.run pins s sl H Q inv (imp sl H Q h)⟩
def oNone : TRO := fun _ S R _ => R none S
def oSome (ra : TR) : TRO := fun σ S R RE => ra σ S (fun x S1 => ∃ i, x = .int i ∧ R (some i) S1) RE
def cutT (l : List T) (lo hi : Option Int) : List T := (l.drop (HT.sIx l.length 0 lo)).take (HT.sIx l.length l.length hi - HT.sIx l.length 0 lo)
section
variable {X : Cx} {E : XK} {e a b c : Expr} {es : List Expr} {pos p2 : Pos} {ra rb rc : TR} {t : TRA} {lo hi : Option Expr} {rl rh : TRO}
theorem ot_none : OT X E none oNone := ⟨po_weak po_none fun sl H Q ⟨⟨Z, σ, S, R, RE, fr, ok, w, po, xo⟩⟩ => po none S H w .refl ok⟩
theorem ot_some (h : ET X E a ra) : OT X E (some a) (oSome ra) := ⟨po_weak (po_some h.pe) fun sl H Q ⟨⟨Z, σ, S, R, RE, fr, ok, w, po, xo⟩⟩ => ⟨Z, σ, S, _, RE, fr, ok, w, fun x S1 v H1 k le ok1 rep => by
  obtain ⟨i, rfl, k⟩ := k
  cases rep
  exact ⟨i, rfl, po _ S1 H1 k le ok1⟩, xo⟩⟩
def kSl : T → Option Int → Option Int → Store → (T → Store → Prop) → Prop := fun x lo hi S R => match x with
  | .lst l => R (.lst (cutT l lo hi)) S
  | .scr l => R (.lst (cutT l lo hi)) S
  | .tup l => ¬ (HT.sIx l.length 0 lo = 0 ∧ HT.sIx l.length l.length hi = l.length) ∧ R (.tup (cutT l lo hi)) S
  | .str z => z.length ≤ sizeLine ∧ R (.str (cutS z lo hi)) S
  | _ => False
def rSl (ra : TR) (rl rh : TRO) : TR := fun σ S R RE => ra σ S (fun x S1 => rl σ S1 (fun l S2 => rh σ S2 (fun h S3 => kSl x l h S3 R) RE) RE) RE
theorem Reps.cut {K : PySem.W.Frag} {Z : Addr → Prop} {S : Store} {H : Hp} {vs : List V} {ts : List T} {l h : Option Int} (r : Reps K Z S H vs ts) : Reps K Z S H (cutV vs l h) (cutT ts l h) := by
  unfold cutV cutT
  rw [r.length]
  exact (r.drop _).take _
theorem et_slice (ha : ET X E a ra) (hl : OT X E lo rl) (hh : OT X E hi rh) : ET X E (.Subscript a (.Slice lo hi none p2) pos) (rSl ra rl rh) :=
  ⟨pe_weak (pe_slice (SlR.or sl_list (SlR.or sl_tup sl_str)) ha.pe hl.po hh.po) fun sl H Q ⟨⟨Z, σ, S, R, RE, fr, ok, w, po, xo⟩⟩ => by
    refine ⟨Z, σ, S, _, RE, fr, ok, w, fun x S1 v H1 k1 le1 ok1 rep => ?_, xo⟩
    refine ⟨Z, σ, S1, _, RE, fr.le le1, ok1, k1, fun l S2 H2 k2 le2 ok2 => ?_, xo.le le1⟩
    refine ⟨Z, σ, S2, _, RE, (fr.le le1).le le2, ok2, k2, fun h S3 H3 k3 le3 ok3 => ?_, (xo.le le1).le le2⟩
    have po3 := ((po.le le1).le le2).le le3
    have rep3 := (rep.le le2).le le3
    unfold kSl at k3
    split at k3
    · cases rep3 with
      | lst h1 r1 => exact .inl ⟨_, _, rfl, h1.sq, fun p hp => po3 _ _ _ _ k3 (le_new hp) (ok3.new hp) (.lstN ok3 hp r1.cut)⟩
    · cases rep3 with
      | scr h1 r1 => exact .inl ⟨_, _, rfl, h1.sq, fun p hp => po3 _ _ _ _ k3 (le_new hp) (ok3.new hp) (.lstN ok3 hp r1.cut)⟩
    · cases rep3 with
      | tup h1 r1 => exact .inr (.inl ⟨_, _, rfl, h1.sq, by rw [r1.length]; exact k3.1, fun p hp => po3 _ _ _ _ k3.2 (le_new hp) (ok3.new hp) (.tupN ok3 hp r1.cut)⟩)
    · cases rep3
      exact .inr (.inr ⟨_, rfl, k3.1, po3 _ _ _ _ k3.2 .refl ok3 (.str _)⟩)
    · exact k3.elim⟩
/-! ### xs.append(e) and the like: methods of a list that changes -/
def rMut (k : Addr → List T → List T → Store → (T → Store → Prop) → Prop) (ra : TR) (t : TRA) : TR := fun σ S R RE => ra σ S (fun x S1 => ∃ a, x = .cell a ∧ (∃ l, S1 a = some (.lst l)) ∧ t σ S1 (fun xs S2 => ∃ l, S2 a = some (.lst l) ∧ k a l xs S2 R) RE) RE
theorem et_mut {name : Str} {id : String} {apos cpos : Pos} {o : Expr} {r : V → List V → Hp → VK → Prop} {k} (slot : Slot "list" name id) (hty : typeOf (.builtin id) = pure (.type "method_descriptor")) (hm : MtR X id r)
    (cv : ∀ Z a l xs S vs H R Q, Ok X.K Z S H → Reps X.K Z S H vs xs → S a = some (.lst l) → k a l xs S R → PO X.K Z S H R Q → r (.ref a) vs H Q) (ho : ET X E o ra) (ha : AT X E (e :: es) t)
    (hbase : attributeBase o name X.env (eval o X.env) = eval o X.env := by rfl)
    (hfew : ((backTo cpos (starEach (e :: es) X.env)).all (fun x => !x.1) && (backToKw cpos (keywordEach [] X.env)).all (fun x => x.1.isSome)
      && decide ((e :: es).length + ([] : List Keyword).length + (if ([] : List Keyword).isEmpty then 0 else 1) < 30)) = true := by rfl)
    (hline : (apos.endLine == cpos.line) = true := by rfl) (hs : starEach (e :: es) X.env = (false, eval e X.env) :: starEach es X.env := by rfl) (hplain : (backTo cpos (starEach es X.env)).any (·.1) = false := by rfl) :
    ET X E (.Call (.Attribute o name apos) (e :: es) [] cpos) (rMut k ra t) :=
  ⟨pe_weak (pe_bm PySem.F.plainAttrs_list slot hty hm ho.pe ha.pa hbase hfew hline hs hplain) fun sl H Q ⟨⟨Z, σ, S, R, RE, fr, ok, w, po, xo⟩⟩ => by
    refine ⟨Z, σ, S, _, RE, fr, ok, w, fun x S1 v H1 k1 le1 ok1 rep => ?_, xo⟩
    obtain ⟨a, rfl, ⟨l, hl⟩, k1⟩ := k1
    cases rep
    have c := ok1.cl a
    rw [hl] at c
    obtain ⟨vs, hv, _⟩ := c
    refine ⟨.inl ⟨rfl, _, SqL.of hv⟩, Z, σ, S1, _, RE, fr.le le1, ok1, k1, fun xs S2 ws H2 k2 le2 ok2 rs => ?_, xo.le le1⟩
    obtain ⟨l2, hl2, k2⟩ := k2
    exact cv Z a l2 xs S2 ws H2 R Q ok2 rs hl2 k2 ((po.le le1).le le2)⟩
def kAppend : Addr → List T → List T → Store → (T → Store → Prop) → Prop := fun a l xs S R => ∃ x, xs = [x] ∧ l.length < sizeLine ∧ R .non (S.put a (.lst (l ++ [x])))
theorem cv_append : ∀ Z a l xs S vs H R Q, Ok X.K Z S H → Reps X.K Z S H vs xs → S a = some (.lst l) → kAppend a l xs S R → PO X.K Z S H R Q → rAppend (.ref a) vs H Q := by
  intro Z a l xs S vs H R Q ok rs hs ⟨x, e, z, k⟩ po
  subst e
  cases rs with
  | @cons v _ _ _ r rr =>
    cases rr
    have c := ok.cl a
    rw [hs] at c
    obtain ⟨ws, hv, r1⟩ := c
    have l3 : Le S H (S.put a (.lst (l ++ [x]))) (upd H a (.lst (ws ++ [v]))) := le_setc hs
    exact ⟨a, ws, _, rfl, rfl, hv, by rw [r1.length]; exact z, po _ _ _ _ k l3 (ok.put l3 (ok.nzc hs) ⟨_, upd_same, (r1.append (.cons r .nil)).le l3⟩) .non⟩
def kExtend : Addr → List T → List T → Store → (T → Store → Prop) → Prop := fun a l xs S R => ∃ m, xs = [.lst m] ∧ l.length + m.length ≤ sizeLine ∧ R .non (S.put a (.lst (l ++ m)))
/-! ### repr of data -/
structure SmT (k n : Nat) (t : T) : Prop where
  ex : ∃ d, t.dat = some d ∧ d.showable = true ∧ d.hasDict = false ∧ d.depth ≤ k ∧ d.shown.length ≤ n
def shownT (t : T) : Str := match t.dat with
  | some d => d.shown
  | none => Str.empty
def isDispT : T → Bool
  | .lst _ => true
  | .tup _ => true
  | _ => false
def kRepr : KA := fun xs S R _ => ∃ x k n, xs = [x] ∧ isDispT x = true ∧ SmT k n x ∧ k ≤ 64 ∧ n ≤ 16777216 ∧ R (.str (shownT x)) S
/-! ### tuple(..), list(..) -/
def kTuple : KA := fun xs S R _ => ∃ x l, xs = [x] ∧ (x = .lst l ∨ x = .tup l) ∧ R (.tup l) S
theorem cv_tuple : ConvA X.K E kTuple (fun xs H Q => ∃ p ys, xs = [.ref p] ∧ ((SqL X.K H p ys ∧ ∀ l, H l = none → Q (.ref l) (upd H l (.tup ys))) ∨ (SqT X.K H p ys ∧ Q (.ref p) H))) := by
  intro Z xs S vs H R RE Q ok rs ⟨x, l, e, hx, k⟩ po xo
  subst e
  cases rs with
  | cons r rr =>
    cases rr
    rcases hx with rfl | rfl
    · cases r with
      | lst h1 r1 => exact ⟨_, _, rfl, .inl ⟨h1.sq, fun p hp => po _ _ _ _ k (le_new hp) (ok.new hp) (.tupN ok hp r1)⟩⟩
    · cases r with
      | tup h1 r1 => exact ⟨_, _, rfl, .inr ⟨h1.sq, po _ _ _ _ k .refl ok (.tup h1 r1)⟩⟩
def kList : KA := fun xs S R _ => ∃ x l, xs = [x] ∧ seqOf x = some l ∧ R (.lst l) S
end
/-! keywords -/
section
variable {X : Cx} {E : XK} {e : Expr} {ra : TR} {tk : TRA}
theorem kt_nil : KT X E [] aNil := ⟨⟨fun pos pins s sl H Q I h => pk_nil.run pos pins s sl H Q I (by
  obtain ⟨Z, σ, S, R, RE, fr, ok, w, po, xo⟩ := h.ex
  exact po [] S [] H w .refl ok .nil)⟩⟩
theorem kt_cons {nm : Option Str} {kpos : Pos} {kws : List Keyword} (ha : ET X E e ra) (hr : KT X E kws tk) : KT X E (⟨nm, e, kpos⟩ :: kws) (aCons ra tk) := ⟨⟨fun pos pins s sl H Q I h => (pk_cons ha.pe hr.pk).run pos pins s sl H Q I (by
  obtain ⟨Z, σ, S, R, RE, fr, ok, w, po, xo⟩ := h.ex
  refine ⟨Z, σ, S, _, RE, fr, ok, w, fun x S1 v H1 kk le ok1 rep => ?_, xo⟩
  exact ⟨Z, σ, S1, _, RE, fr.le le, ok1, kk, fun xs S2 vs H2 k2 le2 ok2 rs => po (x :: xs) S2 (v :: vs) H2 k2 (le.trans le2) ok2 (.cons (rep.le le2) rs), xo.le le⟩)⟩⟩
end
/-! ### isinstance -/
/-- what isinstance asks of a class of one's own -/
structure InsC (K : PySem.W.Frag) (C : Addr) : Prop where
  cl : Cls K C
  c1 : PySem.W.findIn K (.ref C) "__class__" = some (some (.builtin "object.__class__"))
  c2 : PySem.W.specialIn K (.builtin "object.__class__") "__get__" = some (some (.builtin "getset_descriptor.__get__"))
  c3 : PySem.W.takesIn K (.builtin "object.__class__") = some true
  c4 : PySem.W.mroIn K C (.type "object") = some true
/-- what isinstance asks of an error's class of one's own -/
structure ExcC (K : PySem.W.Frag) (C : Addr) : Prop where
  cl : (PySem.W.clsIn K C).isSome = true
  ga : PySem.W.findIn K (.ref C) "__getattribute__" = some (some (.builtin "BaseException.__getattribute__"))
  gg : PySem.W.findIn K (.ref C) "__getattr__" = some none
  exC : PySem.W.subIn K (.ref C) (.type "BaseException") = some true
  hd : PySem.W.hasDictIn K C = true
  c1 : PySem.W.findIn K (.ref C) "__class__" = some (some (.builtin "object.__class__"))
  c2 : PySem.W.specialIn K (.builtin "object.__class__") "__get__" = some (some (.builtin "getset_descriptor.__get__"))
  c3 : PySem.W.takesIn K (.builtin "object.__class__") = some true
  c4 : PySem.W.mroIn K C (.type "object") = some true
inductive TyT (K : PySem.W.Frag) (S : Store) : T → Value → Prop
  | non : TyT K S .non (.type "NoneType")
  | bl (x : Bool) : TyT K S (.bl x) (.type "bool")
  | int (i : Int) : TyT K S (.int i) (.type "int")
  | str (x : Str) : TyT K S (.str x) (.type "str")
  | lst (l : List T) : TyT K S (.lst l) (.type "list")
  | scr (l : List T) : TyT K S (.scr l) (.type "list")
  | tup (l : List T) : TyT K S (.tup l) (.type "tuple")
  | dct : TyT K S .dct (.type "dict")
  | cell {a : Addr} {l : List T} (h : S a = some (.lst l)) : TyT K S (.cell a) (.type "list")
  | ins {C : Addr} {gs : List (Str × T)} (h : InsC K C) : TyT K S (.ins C gs) (.ref C)
  | cins {a C : Addr} {gs : List (Str × T)} (h : InsC K C) (e : S a = some (.ins C gs)) : TyT K S (.cell a) (.ref C)
  | exc {C : Addr} {gs : List (Str × T)} (h : ExcC K C) : TyT K S (.exc C gs) (.ref C)
inductive ClT : T → Value → Prop
  | ty (n : String) : ClT (.ty n) (.type n)
  | st (a : Addr) : ClT (.st a) (.ref a)
section
variable {X : Cx} {E : XK}
theorem ty_repX {K : PySem.W.Frag} {Z : Addr → Prop} {S : Store} {H : Hp} {v : V} {x : T} {t : Value} (ok : Ok K Z S H) (rx : Rep K Z S H v x) (h : TyT K S x t) (hx : ∀ C gs, x ≠ .exc C gs) : TyX K H v t := by
  cases h with
  | exc h => exact absurd rfl (hx _ _)
  | non => cases rx; exact .base .non
  | bl b => cases rx; exact .base (.bl b)
  | int i => cases rx; exact .base (.int i)
  | str z => cases rx; exact .base (.str z)
  | dct => cases rx with | dct h n => exact .base (.dK h)
  | lst l => cases rx with | lst h r => exact .base (.lst h.1)
  | scr l =>
    cases rx with
    | scr h r =>
      rcases h with ⟨⟨o, h⟩, _⟩ | ⟨o, its, n, h, c, _⟩
      · exact .base (.frz h)
      · exact .kList h c
  | tup l =>
    cases rx with
    | tup h r =>
      rcases h with ⟨h | ⟨o, h⟩, _⟩ | ⟨o, its, n, h, c, _⟩
      · exact .base (.tup h)
      · exact .fTuple h
      · exact .kTuple h c
  | @cell a l h =>
    cases rx
    have c := ok.cl a
    rw [h] at c
    obtain ⟨vs, hv, _⟩ := c
    exact .base (.lst hv)
  | ins h => cases rx with | ins h2 n r => exact .base (.ins h2 h.cl h.c1 h.c2 h.c3 h.c4)
  | @cins a C gs h e =>
    cases rx
    have c := ok.cl a
    rw [e] at c
    obtain ⟨dx, fs, hv, _⟩ := c
    exact .base (.ins hv h.cl h.c1 h.c2 h.c3 h.c4)
/-- a type that is known: of what the layer knows, or of an error -/
def TyY (K : PySem.W.Frag) (H : Hp) (v : V) (t : Value) : Prop := TyX K H v t ∨ ∃ (p C dx : Addr) (fs : List (Str × V)), v = .ref p ∧ t = .ref C ∧ H p = some (.ext (ExcAt p C dx)) ∧ H dx = some (.xd fs) ∧ ExcC K C
theorem ty_rep {K : PySem.W.Frag} {Z : Addr → Prop} {S : Store} {H : Hp} {v : V} {x : T} {t : Value} (ok : Ok K Z S H) (rx : Rep K Z S H v x) (h : TyT K S x t) : TyY K H v t := by
  by_cases e : ∃ C gs, x = .exc C gs
  · obtain ⟨C, gs, rfl⟩ := e
    cases h with
    | exc h => cases rx with | exc h1 n hd nd r => exact .inr ⟨_, _, _, _, rfl, rfl, h1, hd, h⟩
  · exact .inl (ty_repX ok rx h fun C gs z => e ⟨C, gs, z⟩)
/-- an error as it stands: the object, its dict -/
theorem exc_inst {pins : List (Addr × Obj)} {σ : L2.St} {H : Hp} {s : Shared} {p C dx : Addr} {fs : List (Str × V)} (I : Inv X pins σ H s) (h : H p = some (.ext (ExcAt p C dx))) (hd : H dx = some (.xd fs)) :
    ∃ (oe od : Obj) (mA : Str → Option Value), PySem.W.InstAt s.heap p oe C (some od) ∧ s.heap.Ns1 dx mA ∧ (∀ f, RelO (fs.lookup f) (mA f)) ∧ (∀ y, PySem.W.lookIn y od = some (mA y)) := by
  obtain ⟨⟨oe, t1, e1, e2, e3, e4⟩, _⟩ := (show ObjOk X.prog X.w H s.heap p (.ext (ExcAt p C dx)) from I.hok p _ h)
  obtain ⟨mA, hns, hr⟩ := (show ObjOk X.prog X.w H s.heap dx (.xd fs) from I.hok dx _ hd)
  obtain ⟨od, ho, hl⟩ := lookIn_ns hns
  exact ⟨oe, od, mA, ⟨e1, e2, by unfold PySem.W.notCls; rw [e4], by rw [e3]; exact ho⟩, hns, hr, hl⟩
theorem kit_ofY {pins : List (Addr × Obj)} {σ : L2.St} {H : Hp} {s : Shared} {x : V} {u t : Value} (I : Inv X pins σ H s) (rx : RelV x u) (ty : TyY X.K H x t) : ∃ P : Heap → Prop, PySem.W.KitX X.K u t P ∧ P s.heap ∧ u ≠ .builtin "__main__.__loader__#opaque" := by
  rcases ty with ty | ⟨p, C, dx, fs, rfl, rfl, h, hd, c⟩
  · exact kit_of I rx ty
  · obtain rfl : u = Value.ref p := rx
    obtain ⟨oe, od, mA, J, _⟩ := exc_inst I h hd
    exact ⟨_, PySem.W.kitx_exc c.cl c.ga c.gg c.exC c.c1 c.c2 c.c3 c.c4, J, fun z => nomatch z⟩
def rIsiY (K : PySem.W.Frag) : List V → Hp → VK → Prop := fun xs H Q => ∃ (x c : V) (t u : Value) (b : Bool), xs = [x, c] ∧ ClsV c u ∧ TyY K H x t ∧ PySem.W.kitOne K t u = some b ∧ Q (.bl b) H
theorem call_isiY : CallR X (.builtin "isinstance") (rIsiY X.K) := by
  intro pins s σ H xs us Q I r h
  obtain ⟨x, c, t, u, b, rfl, k, ty, e, q⟩ := h
  obtain ⟨u1, u2, rfl, r1, r2⟩ := vals2 r
  have e2 := k.eq r2
  subst e2
  obtain ⟨P, Z, p, hx⟩ := kit_ofY I r1 ty
  exact PySem.W.kia_one Z I.kIn p e hx fun tk => ⟨.bl b, H, I.tok tk, rfl, q⟩
def kIsi (K : PySem.W.Frag) : KA := fun xs S R _ => ∃ x c t u b, xs = [x, c] ∧ ClT c u ∧ TyT K S x t ∧ PySem.W.kitOne K t u = some b ∧ R (.bl b) S
theorem cv_isi {K : PySem.W.Frag} : ConvA K E (kIsi K) (rIsiY K) := by
  intro Z xs S vs H R RE Q ok rs ⟨x, c, t, u, b, e, hc, ht, hk, k⟩ po xo
  subst e
  cases rs with
  | cons r rr =>
    cases rr with
    | cons r2 rr =>
      cases rr
      refine ⟨_, _, t, u, b, rfl, ?_, ty_rep ok r ht, hk, po _ _ _ _ k .refl ok (.bl b)⟩
      cases hc with
      | ty n => cases r2; exact .ty n
      | st a => cases r2; exact .own a
end

/-! an own error with one field, made and raised: the class's text, C(e) for L2N, raise C(e) -/
section
open PySem.W PySem.Calls PyProof.Rows PySem.HandSPX
def evArgs (p1 p2 : Pos) : Arguments := { posonlyargs := [], args := [{ arg := "self", annotation := none, pos := p1 }, { arg := "value", annotation := none, pos := p2 }], vararg := none, kwonlyargs := [], kw_defaults := [], kwarg := none, defaults := [] }
def evBody (q1 q2 q3 q4 : Pos) : List Stmt := [.Assign [.Attribute (.Name "self" q1) "value" q2] (.Name "value" q3) q4]
def evScope : Scope := { kind := .function, names := [(PySem.Str.ofString "self", .local), (PySem.Str.ofString "value", .local)], isGenerator := false, isCoroutine := false, more := [] }
/-- what the top says of the class at C and of its __init__ at fI -/
structure EvTxt (K : Frag) (C fI : Addr) (qi : Str) : Prop where
  cls : ∃ nm q N bs bm sn sub ab col dd k0 k1 k2 k3 k5, K.lookup C = some (excClassObj nm q C N bs bm true sn sub ab col dd k0 k1 k2 k3 k5 "ValueError.__new__") ∧ refsVE bm = true
  sa : findIn K (.ref C) "__setattr__" = some (some (.builtin "object.__setattr__"))
  ga : findIn K (.ref C) "__getattribute__" = some (some (.builtin "BaseException.__getattribute__"))
  gg : findIn K (.ref C) "__getattr__" = some none
  noN : findIn K (.ref C) "value" = some none
  iC : findIn K (.ref C) "__init__" = some (some (.ref fI))
  tC : typeIn K (.ref fI) = some (.type "function")
  kC : keepIn K (.ref C) = true
  exC : subIn K (.ref C) (.type "BaseException") = some true
  tyC : typeIn K (.ref C) = some (.type "type")
  hdC : hasDictIn K C = true
  fn : ∃ (oc : Value) (od : Option Addr) (doc pm : Value) (an : Option Addr) (cdv ct : Value) (osl : Array (Option Value)) (p1 p2 q1 q2 q3 q4 : Pos),
    K.lookup fI = some ⟨oc, od, .func (fnOf "__init__" qi (evArgs p1 p2) (evBody q1 q2 q3 q4) evScope .none .none doc pm an cdv ct), osl⟩ ∧ codeIn K cdv qi = true
theorem one_fits (u : Value) : [u].length ≤ sizeLine := by
  show 1 ≤ sizeLine
  rw [sizeLine_eq]
  decide
theorem ev_name {M : Model} {s0 : Shared} {nm : Str} {sc : Scope} {fr a : Addr} {cd : Value} {m : Str → Option Value} {y : Str} {ps : Pos} {u : Value} {Q : Value → Shared → Prop} {A : Around} {E : Value → Shared → Prop} (hns : s0.heap.Ns fr m) (hu : m y = some u) (fin : Q u s0)
    (isf : sc.kind = .function := by rfl) (isl : (envOfC nm sc fr a cd).kindOf y = some .local := by rfl) (dbg : (y == ("__debug__" : Str)) = false := by decide) :
    wpAny M A (eval (.Name y ps) (envOfC nm sc fr a cd)) Q E s0 := wpAny_Name (wpAny_loadName_local isf isl hns hu fin) dbg
/-- what __init__ leaves of the new error at x -/
structure EvEnd (h h' : Heap) (x C dx t1 : Addr) (u : Value) : Prop where
  keep : ∀ b o, b ≠ x → h.get? b = some o → h'.get? b = some o
  obj : h'.get? x = some { cls := .ref C, dict := some dx, data := .fields #[.ref t1, .none, .none, .none, .bool false, .none] }
  dbig : h.objs.size ≤ dx
  dne : dx ≠ x
  ns : h'.Ns1 dx (fun y => if y = "value" then some u else none)
structure EvMade (h h' : Heap) (e C d : Addr) (u : Value) : Prop where
  keep : ∀ b o, h.get? b = some o → h'.get? b = some o
  new : h.objs.size ≤ e
  obj : ∃ oe t1, h'.get? e = some oe ∧ oe.cls = .ref C ∧ oe.dict = some d ∧ oe.data = .fields #[.ref t1, .none, .none, .none, .bool false, .none]
  dbig : h.objs.size ≤ d
  dne : d ≠ e
  ns : h'.Ns1 d (fun y => if y = "value" then some u else none)
section
variable {prog : Program} {w : World} {A : Around} {E : Value → Shared → Prop} {R : Result → Shared → Prop} {s0 : Shared} {K : Frag} {C fI : Addr} {qi : Str}
theorem ev_init (Z : EvTxt K C fI qi) {x t0 : Addr} {u : Value} (inK : K.In s0.heap) (lim : s0.heap.NoLimit) (hx : s0.heap.get? x = some (excO C t0)) (room : A.depth < recursionLimit)
    (fin : ∀ h' tk dx, EvEnd s0.heap h' x C dx t0 u → R (.ok (.ret .none)) { s0 with heap := h', toks := tk }) :
    codeAny (model prog w) A (.call (.ref fI) ⟨[.ref x, u], []⟩) R s0 := by
  obtain ⟨oc, od, doc, pm, an, cdv, ct, osl, p1, p2, q1, q2, q3, q4, lk, code⟩ := Z.fn
  obtain ⟨cn, cq, cN, cb, cm, csn, csb, cab, ccol, cdd, j0, j1, j2, j3, j5, lkC, refs⟩ := Z.cls
  have cdat : clsIn K C = some { name := cn, bases := cb, mro := .ref C :: cm, ns := cN, qualname := cq, hasDict := true, slotNames := csn, subclasses := csb, abstract := cab, collection := ccol, hasDel := false } := by
    unfold clsIn
    rw [lkC] <;> rfl
  refine Att.call_fn (binds := [("self", .ref x), ("value", u)]) inK lim lk code room (BindsTo.of_eq (by first | rfl | with_unfolding_all rfl)) (by first | rfl | decide | with_unfolding_all rfl) (fun s1 inC => ?_) rfl rfl rfl
  obtain ⟨h1, tk1, rfl⟩ := inC.toInCall.same
  have kp : ∀ b o, s0.heap.get? b = some o → h1.get? b = some o := inC.toInCall.keep
  have hns := inC.toInCall.ns
  have inK1 : K.In h1 := inK.keeps kp
  have hx1 := kp _ _ hx
  show wpAny _ _ (execs _ _) _ _ _
  refine wpAny_execs_cons (plainObj_wpAny_Assign_Attribute ?_)
  refine ev_name (u := u) hns (by first | rfl | with_unfolding_all rfl | kernel_rfl) (ev_name (u := .ref x) hns (by first | rfl | with_unfolding_all rfl | kernel_rfl) ?_)
  refine set_plain inK1 (ox := excO C t0) (od := none) ⟨hx1, rfl, rfl, trivial⟩ Z.sa ?_
  refine exc_osa inK1 hx1 cdat (show refsVE (.ref C :: cm) = true from refs) rfl Z.noN (fun h3 tk3 dx kp3 dbig dne hx3 ns3 => ?_)
  show wpAny _ _ (execs _ _) _ _ _
  have lt : s0.heap.objs.size < h1.objs.size := hns.lt
  exact wpAny_execs_nil (fin h3 tk3 dx ⟨fun b o hb e => kp3 b o hb (kp b o e), hx3, Nat.le_of_lt (Nat.lt_of_lt_of_le lt dbig), dne, ns3⟩)
theorem ev_made (Z : EvTxt K C fI qi) {u : Value} (inK : K.In s0.heap) (lim : s0.heap.NoLimit) (room : A.depth + 1 < recursionLimit)
    (fin : ∀ h' tk e d, EvMade s0.heap h' e C d u → R (.ok (.ret (.ref e))) { s0 with heap := h', toks := tk }) :
    codeAny (model prog w) A (.call (.ref C) ⟨[u], []⟩) R s0 := by
  obtain ⟨cn, cq, cN, cb, cm, csn, csb, cab, ccol, cdd, j0, j1, j2, j3, j5, lkC, refs⟩ := Z.cls
  obtain ⟨hp, gn, dr, tk, os⟩ := s0
  have kp : ∀ b o, hp.get? b = some o → ((hp.push (kdv_tup [u])).push (excO C hp.objs.size)).get? b = some o := fun b o e => Heap.get?_push_of_some _ (Heap.get?_push_of_some _ e)
  have got : ((hp.push (kdv_tup [u])).push (excO C hp.objs.size)).get? (hp.objs.size + 1) = some (excO C hp.objs.size) := by heap_get
  refine call_own F.excBase_ValueError (fun Y => refsVE_contains Y cm refs) (inK _ _ lkC) (looks_findIn inK Z.iC) (fun self => bind_fn inK self Z.tC) (one_fits u) ?_
  refine ev_init (s0 := ⟨(hp.push (kdv_tup [u])).push (excO C hp.objs.size), gn, dr, tk, os⟩) Z (inK.keeps kp) (lim.keeps kp) got ?_ fun h' tk' dx made => ?_
  · show A.depth + 1 < recursionLimit
    exact room
  · have old : ∀ b o, hp.get? b = some o → h'.get? b = some o := fun b o e => made.keep b o (Nat.ne_of_lt (Nat.lt_succ_of_lt (Heap.lt_size e))) (kp b o e)
    have far : hp.objs.size + 1 + 1 ≤ dx := by
      have q := made.dbig
      first
        | exact q
        | (rw [Heap.size_push, Heap.size_push] at q; exact q)
        | simpa only [Heap.size_push] using q
    exact ⟨rfl, fin h' tk' (hp.objs.size + 1) dx ⟨old, Nat.le_succ _, ⟨_, _, made.obj, rfl, rfl, rfl⟩, Nat.le_trans (Nat.le_trans (Nat.le_succ _) (Nat.le_succ _)) far, made.dne, made.ns⟩⟩
end
end
theorem relO_ev {v : V} {u : Value} (r : RelV v u) (y : Str) : RelO (List.lookup y [(("value" : Str), v)]) (if y = "value" then some u else none) := by
  by_cases hy : y = "value"
  · subst hy
    rw [if_pos rfl, show List.lookup ("value" : Str) [(("value" : Str), v)] = some v by simp [List.lookup]]
    exact r
  · have ny : (y == ("value" : Str)) = false := by simpa using hy
    rw [if_neg hy, show List.lookup y [(("value" : Str), v)] = none by simp [List.lookup, ny]]
    trivial
section
variable {X : Cx} {C fI : Addr} {qi : Str}
/-- C(e): the error's own dict is new -/
def tEv (C : Addr) (ta : TA) : L2.St → Hp → XK → Prop := fun sl H Q => ta sl H fun vs H1 => ∃ v, vs = [v] ∧ ∀ d, H1 d = none → Q (.ref C) (some d) (upd H1 d (.xd [(("value" : Str), v)]))
theorem pmk_ev {nm : Str} {a : Expr} {ta : TA} {p pos : Pos} {k : Nat} (Z : EvTxt X.K C fI qi) (hm : X.mg nm = some (.ref C)) (room : Room k X.A) (ha : PA X [a] ta) (hg : Gl X nm) (dbg : (nm == ("__debug__" : Str)) = false := by decide)
    (hst : starEach (a :: []) X.env = (false, eval a X.env) :: starEach [] X.env := by rfl) (hpl : (backTo pos (starEach [] X.env)).any (·.1) = false := by rfl) :
    L2N.PMk X (.Call (.Name nm p) [a] [] pos) (tEv C ta) := by
  intro pins st sl H Q inv want
  refine wpAny_Call_Name_kw (ld_glob inv hg hm ?_ dbg)
  refine PySem.W.callWith_K (h₀ := X.base) inv.ok.mod.kin Z.kC (thn (ha.run pos pins st sl H _ inv want) fun us st1 got => ?_) hst hpl
  obtain ⟨vs, H1, inv1, rel, v, ev, q⟩ := got
  subst ev
  refine ⟨inv1.kIn, ?_⟩
  obtain ⟨u, rfl, rv⟩ := vals1 rel
  show wpAny _ _ (call (.ref C) [u]) _ _ _
  have lim := inv1.nolimit
  obtain ⟨hp, gn, dr, tk, os⟩ := st1
  refine wpAny_call (ev_made Z inv1.kIn lim (by have := room.dp; omega) fun h' tk' e d made => ?_)
  show L2N.MkP X pins sl Q (.ref e) ⟨h', gn, dr, tk', os⟩
  obtain ⟨oe, t1, hoe, ec, ed, edat⟩ := made.obj
  obtain ⟨G, g1, g2⟩ := restrict h' fun b => decide (b ≠ e)
  have same : ∀ b, b ≠ e → G.get? b = h'.get? b := fun b hb => g1 b (decide_eq_true hb)
  have gone : G.get? e = none := g2 e (by simp)
  have old : ∀ b o, hp.get? b = some o → G.get? b = some o := fun b o z => (same b (Nat.ne_of_lt (Nat.lt_of_lt_of_le (Heap.lt_size z) made.new))).trans (made.keep b o z)
  have ok : ObjOk X.prog X.w (upd H1 d (.xd [(("value" : Str), v)])) G d (.xd [(("value" : Str), v)]) := ⟨_, made.ns.at fun o z => (same d made.dne).trans z, fun y => relO_ev rv y⟩
  have inv2 : Inv X pins sl (upd H1 d (.xd [(("value" : Str), v)])) ⟨G, gn, dr, tk', os⟩ := inv1.laid (t' := tk') old made.dbig ok
  refine ⟨e, oe, _, ⟨G, gn, dr, tk', os⟩, _, .ref C, some d, rfl, inv2, fun b o z => ?_, gone, hoe, ⟨ec, ed, fun vs hv => ?_⟩, edat, rfl, ?_, rfl, inv1.bare, raises_own Z.exC Z.tyC, q d (inv1.hok.fresh made.dbig)⟩
  · by_cases hb : b = e
    · have z' : G.get? b = some o := z
      rw [hb, gone] at z'
      cases z'
    · exact (same b hb).symm.trans z
  · rw [edat] at hv
    cases hv
    rfl
  · rw [upd_ne (Ne.symm made.dne)]
    exact inv1.hok.fresh made.new
/-- raise C(e) -/
theorem ps_ev {nm : Str} {a : Expr} {ta : TA} {W : WX} {p pos pos2 : Pos} {k : Nat} (calm : X.calm = true) (Z : EvTxt X.K C fI qi) (hm : X.mg nm = some (.ref C)) (room : Room k X.A) (tk : L2N.Takes X W) (ha : PA X [a] ta) (hg : Gl X nm) (dbg : (nm == ("__debug__" : Str)) = false := by decide)
    (hst : starEach (a :: []) X.env = (false, eval a X.env) :: starEach [] X.env := by rfl) (hpl : (backTo pos (starEach [] X.env)).any (·.1) = false := by rfl) :
    PS X (.Raise (some (.Call (.Name nm p) [a] [] pos)) none pos2) (fun _ sl H => tEv C ta sl H fun cls d H' => W cls d sl H') := L2N.ps_raise calm tk (pmk_ev Z hm room ha hg dbg hst hpl)
end


/-! ### places of written sequences -/
section
variable {α : Type} {a0 a1 a2 a3 a4 a5 a6 a7 : α} {l : List α}
theorem at_0 : atI (a0 :: l) 0 = some a0 := by
  unfold atI ixN
  have h : (0 : Int) < (((a0 :: l).length : Nat) : Int) := by simp only [List.length_cons]; omega
  simp [h]
theorem atI_ofNat {xs : List α} {j : Nat} {v : α} (h : xs[j]? = some v) : atI xs (j : Int) = some v := by
  have hl : j < xs.length := (List.getElem?_eq_some_iff.mp h).1
  unfold atI ixN
  have h1 : ((j : Int) < ((xs.length : Nat) : Int)) := by omega
  simp [h1, h]
theorem at_1 : atI (a0 :: a1 :: l) 1 = some a1 := atI_ofNat (j := 1) rfl
theorem at_2 : atI (a0 :: a1 :: a2 :: l) 2 = some a2 := atI_ofNat (j := 2) rfl
theorem at_3 : atI (a0 :: a1 :: a2 :: a3 :: l) 3 = some a3 := atI_ofNat (j := 3) rfl
theorem at_4 : atI (a0 :: a1 :: a2 :: a3 :: a4 :: l) 4 = some a4 := atI_ofNat (j := 4) rfl
theorem at_5 : atI (a0 :: a1 :: a2 :: a3 :: a4 :: a5 :: l) 5 = some a5 := atI_ofNat (j := 5) rfl
theorem at_6 : atI (a0 :: a1 :: a2 :: a3 :: a4 :: a5 :: a6 :: l) 6 = some a6 := atI_ofNat (j := 6) rfl
theorem at_7 : atI (a0 :: a1 :: a2 :: a3 :: a4 :: a5 :: a6 :: a7 :: l) 7 = some a7 := atI_ofNat (j := 7) rfl
end
theorem ix_1_0 : ixN 1 0 = some 0 := by decide
theorem ix_2_0 : ixN 2 0 = some 0 := by decide
theorem ix_2_1 : ixN 2 1 = some 1 := by decide
theorem ix_3_0 : ixN 3 0 = some 0 := by decide
theorem ix_3_1 : ixN 3 1 = some 1 := by decide
theorem ix_3_2 : ixN 3 2 = some 2 := by decide
theorem ix_4_0 : ixN 4 0 = some 0 := by decide
theorem ix_4_1 : ixN 4 1 = some 1 := by decide
theorem ix_4_2 : ixN 4 2 = some 2 := by decide
theorem ix_4_3 : ixN 4 3 = some 3 := by decide
/-! ### the rest of the operators -/
section
variable {X : Cx} {E : XK} {e a b c : Expr} {es : List Expr} {pos : Pos} {ra rb rc : TR} {t : TRA}
theorem op_fdivP : OpR X (binaryOp .FloorDiv) (rI CDivP fun i j => .int (i / j)) := opI fun i j _ _ _ _ _ hc q => by
  have h1 : (0 : Int) < j := hc.1
  refine floordiv_int (by omega) ?_ (.inl hc.2)
  rw [Int.fdiv_eq_ediv_of_nonneg i (by omega)]
  exact q
def rNeg (ra : TR) : TR := fun σ S R RE => ra σ S (fun x S1 => ∃ i, x = .int i ∧ R (.int (-i)) S1) RE
theorem et_neg (ha : ET X E a ra) : ET X E (.UnaryOp .USub a pos) (rNeg ra) :=
  ⟨pe_weak (pe_un un_neg ha.pe) fun sl H Q h => UpE.one (k := fun σ x S1 R RE => ∃ i, x = .int i ∧ R (.int (-i)) S1) h fun Z σ x S1 v H1 R RE fr ok rx kk po xo => by
    obtain ⟨i, rfl, kk⟩ := kk
    cases rx
    exact ⟨i, rfl, po _ S1 _ H1 kk .refl ok (.int _)⟩⟩
/-! in, not in -/
def flatT : T → Bool
  | .non => true
  | .bl _ => true
  | .int _ => true
  | .str _ => true
  | _ => false
def eqT : T → T → Bool
  | .non, .non => true
  | .bl a, .bl b => a == b
  | .bl a, .int b => (if a then 1 else 0) == b
  | .int a, .bl b => a == (if b then 1 else 0)
  | .int a, .int b => a == b
  | .str a, .str b => a == b
  | _, _ => false
def inT (x : T) (l : List T) : Bool := l.any fun y => eqT y x
def kIn (ng : Bool) : KB := fun x y S R _ => ∃ l, seqOf y = some l ∧ flatT x = true ∧ l.all flatT = true ∧ R (.bl (ng ^^ inT x l)) S
/-! raise C(e) -/
def sRaise (C : Addr) (t : TRA) : TRS := fun D σ S => t σ S (fun xs S1 => ∃ x, xs = [x] ∧ D.ex C [("value", x)] S1) D.ex
theorem ss_raise {C fI : Addr} {qi nm : Str} {p pos2 : Pos} {k : Nat} (Zt : EvTxt X.K C fI qi) (calm : X.calm = true) (hm : X.mg nm = some (.ref C)) (room : Room k X.A) (tk : L2N.Takes X (fun cls d _ H => E cls d H)) (ha : AT X E [a] t) (hg : Gl X nm := by rfl) (dbg : (nm == ("__debug__" : Str)) = false := by decide)
    (hst : starEach (a :: []) X.env = (false, eval a X.env) :: starEach [] X.env := by rfl) (hpl : (backTo pos (starEach [] X.env)).any (·.1) = false := by rfl) : SS X E (.Raise (some (.Call (.Name nm p) [a] [] pos)) none pos2) (sRaise C t) :=
  ⟨ps_weak (ps_ev calm Zt hm room tk ha.pa hg dbg hst hpl) fun D sl H h => by
    obtain ⟨Z, σ, S, DT, fr, ok, w, eo, xo⟩ := h.ex
    refine ⟨Z, σ, S, _, DT.ex, fr, ok, w, fun xs S1 vs H1 k le ok1 rs => ?_, xo⟩
    obtain ⟨x, rfl, k⟩ := k
    cases rs with
    | cons r rr =>
      cases rr
      exact ⟨_, rfl, fun d hd => xo C _ S1 (some d) _ _ k (le.trans (le_new hd)) (ok1.new hd) upd_same (.cons (r.le (le_new hd)) .nil)⟩⟩
end
/-! ### how arguments come -/
structure CallD (K : PySem.W.Frag) (fd : FuncData) (ps : List Str) (dts : List T) : Prop where
  ex : ∃ (ds : List Value) (dvs : List V), Binds K fd ps ds ∧ Vals dvs ds ∧ DefT K dvs dts
theorem CallD.all {K : PySem.W.Frag} {fd : FuncData} {ps : List Str} (b : Binds K fd ps []) : CallD K fd ps [] := ⟨[], [], b, .nil, .nil⟩
/-- k keywords behind n values -/
structure CallB (K : PySem.W.Frag) (fd : FuncData) (ps : List Str) (n : Nat) (ks : List Str) (gT : List T → List T → List T) : Prop where
  ex : ∃ (g : List Value → List Value → List Value) (gV : List V → List V → List V), KBn K fd ps n ks g gV ∧ OrdT K gV gT
def selG {α : Type} (w : Nat) (us its ws : List α) : List α := match w with
  | 0 => us
  | 1 => its
  | _ => ws
def pickG {α : Type} : List (Nat × Nat) → List α → List α → List α → List α
  | [], _, _, _ => []
  | (w, i) :: pk, us, its, ws => match (selG w us its ws)[i]? with
    | some x => x :: pickG pk us its ws
    | none => pickG pk us its ws
theorem valsAt {vs : List V} {us : List Value} (r : Vals vs us) (i : Nat) : (vs[i]? = none ∧ us[i]? = none) ∨ ∃ v u, vs[i]? = some v ∧ us[i]? = some u ∧ RelV v u := by
  induction r generalizing i with
  | nil => exact .inl ⟨rfl, rfl⟩
  | cons a r ih =>
    cases i with
    | zero => exact .inr ⟨_, _, rfl, rfl, a⟩
    | succ i => exact ih i
theorem repsAt {K : PySem.W.Frag} {Z : Addr → Prop} {S : Store} {H : Hp} {vs : List V} {us : List T} (r : Reps K Z S H vs us) (i : Nat) : (vs[i]? = none ∧ us[i]? = none) ∨ ∃ v u, vs[i]? = some v ∧ us[i]? = some u ∧ Rep K Z S H v u := by
  induction us generalizing vs i with
  | nil => cases r; exact .inl ⟨rfl, rfl⟩
  | cons u us ih =>
    cases r with
    | cons a r =>
      cases i with
      | zero => exact .inr ⟨_, _, rfl, rfl, a⟩
      | succ i => exact ih r i
theorem pick_vals {vs ds zs : List V} {us its ws : List Value} (r1 : Vals vs us) (r2 : Vals ds its) (r3 : Vals zs ws) : ∀ pk, Vals (pickG pk vs ds zs) (pickG pk us its ws)
  | [] => .nil
  | (w, i) :: pk => by
    have ih := pick_vals r1 r2 r3 pk
    have r : Vals (selG w vs ds zs) (selG w us its ws) := by
      match w with
      | 0 => exact r1
      | 1 => exact r2
      | _ + 2 => exact r3
    unfold pickG
    rcases valsAt r i with ⟨h1, h2⟩ | ⟨v, u, h1, h2, rv⟩
    · rw [h1, h2]; exact ih
    · rw [h1, h2]; exact .cons rv ih
theorem pick_reps {K : PySem.W.Frag} {Z : Addr → Prop} {S : Store} {H : Hp} {vs ds zs : List V} {us its ws : List T} (r1 : Reps K Z S H vs us) (r2 : Reps K Z S H ds its) (r3 : Reps K Z S H zs ws) : ∀ pk, Reps K Z S H (pickG pk vs ds zs) (pickG pk us its ws)
  | [] => .nil
  | (w, i) :: pk => by
    have ih := pick_reps r1 r2 r3 pk
    have r : Reps K Z S H (selG w vs ds zs) (selG w us its ws) := by
      match w with
      | 0 => exact r1
      | 1 => exact r2
      | _ + 2 => exact r3
    unfold pickG
    rcases repsAt r i with ⟨h1, h2⟩ | ⟨v, u, h1, h2, rv⟩
    · rw [h1, h2]; exact ih
    · rw [h1, h2]; exact .cons rv ih
theorem pick_ord {K : PySem.W.Frag} {dvs : List V} {dts : List T} (d : DefT K dvs dts) (pk : List (Nat × Nat)) : OrdT K (fun vs zs => pickG pk vs dvs zs) (fun ts zs => pickG pk ts dts zs) :=
  fun Z S H _ _ _ _ r1 r3 => pick_reps r1 (d Z S H) r3 pk
section
variable {X : Cx} {E : XK} {k n : Nat} {f : Addr} {fd : FuncData} {ps ks : List Str} {sp : SpT} {dts : List T} {x : Str} {p pos : Pos} {e : Expr} {es : List Expr} {kws : List Keyword} {t tk : TRA} {gT : List T → List T → List T}
theorem et_callD (F : FnT X.prog X.w X.K X.mg X.base k f fd ps sp) (gds : X.A.guards = some []) (hr : Room k X.A) (hg : Gl X x) (hm : X.mg x = some (.ref f)) (hk : PySem.W.keepIn X.K (.ref f) = true) (cd : CallD X.K fd ps dts) (hx : Passes (L2N.CX X.prog X.w) X E)
    (ha : AT X E (e :: es) t) (hdb : (x == ("__debug__" : Str)) = false := by decide) (he : starEach (e :: es) X.env = (false, eval e X.env) :: starEach es X.env := by rfl) (hpl : (backTo pos (starEach es X.env)).any (·.1) = false := by rfl) :
    ET X E (.Call (.Name x p) (e :: es) [] pos) (rCall sp dts t) := by
  obtain ⟨ds, dvs, hb, hd, hdt⟩ := cd.ex
  exact et_call F gds hr hg hm hk hb hd hdt hx ha hdb he hpl
theorem et_call0D (F : FnT X.prog X.w X.K X.mg X.base k f fd ps sp) (gds : X.A.guards = some []) (hr : Room k X.A) (hg : Gl X x) (hm : X.mg x = some (.ref f)) (hk : PySem.W.keepIn X.K (.ref f) = true) (cd : CallD X.K fd ps dts) (hx : Passes (L2N.CX X.prog X.w) X E)
    (hdb : (x == ("__debug__" : Str)) = false := by decide) : ET X E (.Call (.Name x p) [] [] pos) (rCall sp dts aNil) := by
  obtain ⟨ds, dvs, hb, hd, hdt⟩ := cd.ex
  exact et_call0 F gds hr hg hm hk hb hd hdt hx hdb
end

/-! ### instances -/
def insOf : T → Store → Option (Addr × List (Str × T))
  | .ins C gs, _ => some (C, gs)
  | .cell a, S => match S a with
    | some (.ins C gs) => some (C, gs)
    | _ => none
  | _, _ => none
def putT (f : Str) (t : T) : List (Str × T) → List (Str × T)
  | [] => [(f, t)]
  | (g, x) :: r => if g = f then (g, t) :: r else (g, x) :: putT f t r
section
variable {K : PySem.W.Frag} {Z : Addr → Prop} {S S1 : Store} {H H1 : Hp}
theorem ins_rep {v : V} {x : T} {C : Addr} {gs : List (Str × T)} (ok : Ok K Z S H) (r : Rep K Z S H v x) (h : insOf x S = some (C, gs)) : ∃ a dx fs, v = .ref a ∧ H a = some (.ins C dx fs) ∧ RepF K Z S H fs gs := by
  cases r <;> try (cases h; done)
  · rename_i a
    have c := ok.cl a
    simp only [insOf] at h
    split at h
    · rename_i C' gs' e
      cases h
      rw [e] at c
      obtain ⟨dx, fs, q, rf⟩ := c
      exact ⟨a, dx, fs, rfl, q, rf⟩
    · cases h
  · rename_i p C' dx fs gs' h1 n rf
    cases h
    exact ⟨p, dx, fs, rfl, h1, rf⟩
theorem RepF.put {fs : List (Str × V)} {gs : List (Str × T)} {f : Str} {v : V} {t : T} (r : RepF K Z S H fs gs) (h : Rep K Z S H v t) : RepF K Z S H (putF f v fs) (putT f t gs) := by
  induction gs generalizing fs with
  | nil => cases r; exact .cons h .nil
  | cons g gs ih =>
    cases r with
    | @cons n w u vs ts q r =>
      unfold putF putT
      by_cases e : n = f
      · rw [if_pos e, if_pos e]; exact .cons h r
      · rw [if_neg e, if_neg e]; exact .cons q (ih r)
end
/-- what the class at C says of an attribute of its instances -/
structure InF (K : PySem.W.Frag) (C : Addr) (f : Str) : Prop where
  cl : Cls K C
  na : NoAttr K C f
/-- .. of a constant of its own -/
structure InC (K : PySem.W.Frag) (C : Addr) (f : Str) (t : T) : Prop where
  cl : Cls K C
  ex : ∃ v u, Con K C f v u ∧ ∀ Z S H, Rep K Z S H v t
section
variable {X : Cx} {E : XK} {a e o : Expr} {es : List Expr} {pos apos cpos : Pos} {ra rb : TR} {t tk : TRA} {f m : Str} {C : Addr}
def rFld (K : PySem.W.Frag) (f : Str) (ra : TR) : TR := fun σ S R RE => ra σ S (fun x S1 => ∃ C gs t, insOf x S1 = some (C, gs) ∧ InF K C f ∧ gs.lookup f = some t ∧ R t S1) RE
theorem et_fld (ha : ET X E a ra) (hb : attributeBase a f X.env (eval a X.env) = eval a X.env := by rfl) : ET X E (.Attribute a f pos) (rFld X.K f ra) :=
  ⟨pe_weak (pe_fld ha.pe hb) fun sl H Q h => UpE.one (k := fun σ x S1 R RE => ∃ C gs t, insOf x S1 = some (C, gs) ∧ InF X.K C f ∧ gs.lookup f = some t ∧ R t S1) h fun Z σ x S1 v H1 R RE fr ok rx kk po xo => by
    obtain ⟨C, gs, t, hi, nf, hl, k⟩ := kk
    obtain ⟨b, dx, fs, rfl, hH, rf⟩ := ins_rep ok rx hi
    obtain ⟨u, hu, ru⟩ := rf.look hl
    exact ⟨b, C, dx, fs, u, rfl, hH, nf.cl, nf.na, hu, po _ _ _ _ k .refl ok ru⟩⟩
def rCon (K : PySem.W.Frag) (f : Str) (ra : TR) : TR := fun σ S R RE => ra σ S (fun x S1 => ∃ C gs t, insOf x S1 = some (C, gs) ∧ InC K C f t ∧ gs.lookup f = none ∧ R t S1) RE
/-- o.f = e -/
def sFldT (K : PySem.W.Frag) (f : Str) (rv ra : TR) : TRS := fun D σ S => rv σ S (fun y S1 => ra σ S1 (fun x S2 => ∃ a C gs, x = .cell a ∧ S2 a = some (.ins C gs) ∧ InF K C f ∧ gs.length < 1000 ∧ D.nx σ (S2.put a (.ins C (putT f y gs)))) D.ex) D.ex
theorem ss_fld (ha : ET X E o ra) (hv : ET X E e rb) (hs : swapsWith e (some (.Attribute o f apos)) pos.line X.env = pure false := by rfl) : SS X E (.Assign [.Attribute o f apos] e pos) (sFldT X.K f rb ra) :=
  ⟨ps_weak (ps_fld ha.pe hv.pe hs) fun D sl H h => by
    obtain ⟨Z, σ, S, DT, fr, ok, w, eo, xo⟩ := h.ex
    refine ⟨Z, σ, S, _, DT.ex, fr, ok, w, fun y S1 v H1 k1 le1 ok1 ry => ?_, xo⟩
    refine ⟨Z, σ, S1, _, DT.ex, fr.le le1, ok1, k1, fun x S2 u H2 k2 le2 ok2 rx => ?_, xo.le le1⟩
    obtain ⟨b, C, gs, rfl, hs, nf, hl, k⟩ := k2
    cases rx
    have c := ok2.cl b
    rw [hs] at c
    obtain ⟨dx, fs, hH, rf⟩ := c
    have l3 : Le S2 H2 (S2.put b (.ins C (putT f y gs))) (upd H2 b (.ins C dx (putF f v fs))) := le_setc hs
    exact ⟨b, C, dx, fs, rfl, hH, nf.cl, nf.na, by rw [rf.length]; exact hl, eo.nx _ _ _ _ k ((le1.trans le2).trans l3) (ok2.put l3 (ok2.nzc hs) ⟨dx, _, upd_same, (rf.put (ry.le le2)).le l3⟩) (((fr.le le1).le le2).le l3)⟩⟩
end
/-! ### calls -/
section
variable {X : Cx} {E : XK} {k n : Nat} {f C : Addr} {fd : FuncData} {ps ks : List Str} {sp : SpT} {dts : List T} {x m : Str} {p pos apos : Pos} {e o : Expr} {es : List Expr} {kws : List Keyword} {t tk : TRA} {ra : TR} {gT : List T → List T → List T}
/-- what a new instance is made by: its __init__ -/
theorem make_t {pins : List (Addr × Obj)} {sl : L2.St} {H : Hp} {s : Shared} {Q : VK} {us : List Value} {kw : List (Str × Value)} {all : Addr → List Value} {vsA : Addr → List V} {G : Addr → List T} {Z : Addr → Prop} {S : Store} {R : T → Store → Prop} {RE : XT}
    (M : Mk X.K C f) (F : FnT X.prog X.w X.K X.mg X.base k f fd ps sp) (gds : X.A.guards = some []) (hr : Room (k + 1) X.A) (hx : Passes (L2N.CX X.prog X.w) X E) (inv : Inv X pins sl H s)
    (b : ∀ (s' : Shared) (u : Addr), X.K.In s'.heap → (all u).length = ps.length → BindsTo s' fd ⟨.ref u :: us, kw⟩ (ps.zip (all u))) (r : ∀ u, Vals (vsA u) (all u)) (ok : Ok X.K Z S H)
    (rp : ∀ u S' H', Le S H S' H' → Reps X.K Z S' H' (vsA u) (G u))
    (want : ∀ u, S u = none → sp (G u) (S.put u (.ins C [])) (fun z S2 => z = .non ∧ ∃ gs, S2 u = some (.ins C gs) ∧ R (.ins C gs) (S2.drop u)) RE) (po : PO X.K Z S H R Q) (xo : XOk X.K Z S H RE E) :
    wpAny (model X.prog X.w) X.A (call (.ref C) us kw) (EP X pins sl Q) X.xe s := by
  have nx : H (s.heap.objs.size + 1) = none := inv.hok.fresh (Nat.le_succ _)
  have nd : H s.heap.objs.size = none := inv.hok.fresh (Nat.le_refl _)
  have ne : s.heap.objs.size + 1 ≠ s.heap.objs.size := Nat.succ_ne_self _
  have I2 := Inv.made (C := C) inv
  have ok1 : Ok X.K Z S (upd H s.heap.objs.size (.own (s.heap.objs.size + 1))) := ok.new nd
  have nx1 : upd H s.heap.objs.size (.own (s.heap.objs.size + 1)) (s.heap.objs.size + 1) = none := by rw [upd_ne ne]; exact nx
  have l2 : Le S (upd H s.heap.objs.size (.own (s.heap.objs.size + 1))) (S.put (s.heap.objs.size + 1) (.ins C [])) (upd (upd H s.heap.objs.size (.own (s.heap.objs.size + 1))) (s.heap.objs.size + 1) (.ins C s.heap.objs.size [])) := le_newc nx1
  have ok2 : Ok X.K Z (S.put (s.heap.objs.size + 1) (.ins C [])) (upd (upd H s.heap.objs.size (.own (s.heap.objs.size + 1))) (s.heap.objs.size + 1) (.ins C s.heap.objs.size [])) := ok1.put l2 (ok1.nz nx1) ⟨_, [], upd_same, .nil⟩
  have le : Le S H (S.put (s.heap.objs.size + 1) (.ins C [])) (upd (upd H s.heap.objs.size (.own (s.heap.objs.size + 1))) (s.heap.objs.size + 1) (.ins C s.heap.objs.size [])) := (le_new nd).trans l2
  have up : UpF X.K sp (vsA (s.heap.objs.size + 1)) (upd (upd H s.heap.objs.size (.own (s.heap.objs.size + 1))) (s.heap.objs.size + 1) (.ins C s.heap.objs.size [])) (fun v H2 => v = .non ∧ Q (.ref (s.heap.objs.size + 1)) H2) E := by
    refine ⟨Z, G _, _, _, RE, rp _ _ _ le, ok2, want _ (ok.free nx), fun z S3 v H3 w l3 ok3 rep => ?_, xo.le le⟩
    obtain ⟨rfl, gs, hs, w⟩ := w
    cases rep
    exact ⟨rfl, po _ _ _ _ w ((le.trans l3).trans le_drop) ok3.drop (.frzI ok3 hs)⟩
  refine wpAny_call (make_map (f := f) inv.kIn M.makes M.init (beq_iff_eq.mp M.fn) (codeAny_mono (F.fn.go _ X.stack _ _ ⟨Value.ref (s.heap.objs.size + 1) :: us, kw⟩ _ _ _ E (by first | exact gds | simpa [Around.under] using gds) (hr.make C us kw) (I2.env0.make C us kw) (b _ _ I2.kIn ((r _).length.symm.trans (F.fn.len _ _ _ _ up))) (r _) up) fun q s' hq => ?_))
  cases q with
  | error er => exact hx pins sl _ _ er s' I2 hq
  | ok fl =>
    cases fl with
    | ret u =>
      obtain ⟨v, H', I3, rv, rfl, q3⟩ := I2.after hq
      exact ⟨rv, V.ref (s.heap.objs.size + 1), H', I3, rfl, q3⟩
    | next => exact hq.elim
    | brk => exact hq.elim
    | cont => exact hq.elim
def rMake (C : Addr) (sp : SpT) (dts : List T) (t : TRA) : TR := fun σ S R RE => t σ S (fun xs S1 => ∀ u, S1 u = none → sp (.cell u :: (xs ++ dts)) (S1.put u (.ins C [])) (fun z S2 => z = .non ∧ ∃ gs, S2 u = some (.ins C gs) ∧ R (.ins C gs) (S2.drop u)) RE) RE
theorem cell_reps {K : PySem.W.Frag} {Z : Addr → Prop} {S : Store} {H : Hp} {u : Addr} {vs : List V} {ts : List T} (r : Reps K Z S H vs ts) : Reps K Z S H (.ref u :: vs) (.cell u :: ts) := .cons (.cell u) r
theorem et_make (M : Mk X.K C f) (F : FnT X.prog X.w X.K X.mg X.base k f fd ps sp) (gds : X.A.guards = some []) (hr : Room (k + 1) X.A) (hg : Gl X x) (hm : X.mg x = some (.ref C)) (cd : CallD X.K fd ps dts) (hx : Passes (L2N.CX X.prog X.w) X E)
    (ha : AT X E (e :: es) t) (hdb : (x == ("__debug__" : Str)) = false := by decide) (he : starEach (e :: es) X.env = (false, eval e X.env) :: starEach es X.env := by rfl) (hpl : (backTo pos (starEach es X.env)).any (·.1) = false := by rfl) :
    ET X E (.Call (.Name x p) (e :: es) [] pos) (rMake C sp dts t) := by
  refine ⟨⟨fun pins s sl H Q I h => ?_⟩⟩
  obtain ⟨Z, σ, S, R, RE, fr, ok, w, po, xo⟩ := h.ex
  obtain ⟨ds, dvs, hb, hd, hdt⟩ := cd.ex
  refine wpAny_Call_Name_kw (ld_glob I hg hm ?_ hdb)
  refine PySem.W.callWith_K (h₀ := X.base) I.ok.mod.kin M.kp (thn (ha.pa.run pos pins s sl H (fun vs H1 => ∃ xs S1, (∀ u, S1 u = none → sp (.cell u :: (xs ++ dts)) (S1.put u (.ins C [])) (fun z S2 => z = .non ∧ ∃ gs, S2 u = some (.ins C gs) ∧ R (.ins C gs) (S2.drop u)) RE) ∧ Le S H S1 H1 ∧ Ok X.K Z S1 H1 ∧ Reps X.K Z S1 H1 vs xs) I
    ⟨Z, σ, S, _, RE, fr, ok, w, fun xs S1 vs H1 k1 l1 o1 r1 => ⟨xs, S1, k1, l1, o1, r1⟩, xo⟩) fun us s1 hu => ?_) he hpl
  obtain ⟨vs, H1, I1, rv, xs, S1, k1, l1, o1, r1⟩ := hu
  refine ⟨I1.kIn, ?_⟩
  exact make_t (us := us) (kw := []) (all := fun u => (Value.ref u :: us) ++ ds) (vsA := fun u => .ref u :: (vs ++ dvs)) (G := fun u => .cell u :: (xs ++ dts)) M F gds hr hx I1 (fun s' u hK hl => hb s' (.ref u :: us) hK hl) (fun u => .cons rfl (rv.append hd)) o1
    (fun u S' H' l => cell_reps ((r1.le l).append (hdt _ _ _))) k1 (po.le l1) (xo.le l1)
/-- with keywords; gT puts the new one and the values in order -/
def rMakeN (C : Addr) (n m : Nat) (sp : SpT) (gT : List T → List T → List T) (t tk : TRA) : TR := fun σ S R RE => t σ S (fun xs S1 => tk σ S1 (fun zs S2 => xs.length = n ∧ zs.length = m ∧
  ∀ u, S2 u = none → sp (gT (.cell u :: xs) zs) (S2.put u (.ins C [])) (fun z S3 => z = .non ∧ ∃ gs, S3 u = some (.ins C gs) ∧ R (.ins C gs) (S3.drop u)) RE) RE) RE
theorem et_makeK0 (M : Mk X.K C f) (F : FnT X.prog X.w X.K X.mg X.base k f fd ps sp) (gds : X.A.guards = some []) (hr : Room (k + 1) X.A) (hg : Gl X x) (hm : X.mg x = some (.ref C)) (cb : CallB X.K fd ps 1 ks gT) (hx : Passes (L2N.CX X.prog X.w) X E)
    (hkw : KT X E kws tk) (hall : (backToKw pos (keywordEach kws X.env)).all (·.1.isSome) = true := by rfl) (hks : (backToKw pos (keywordEach kws X.env)).filterMap (·.1) = ks := by rfl)
    (hdb : (x == ("__debug__" : Str)) = false := by decide)
    (hpl : ((backTo pos (starEach [] X.env)).any (·.1) || (backToKw pos (keywordEach kws X.env)).any (·.1.isNone)) = false := by rfl) :
    ET X E (.Call (.Name x p) [] kws pos) (rMakeN C 0 ks.length sp gT aNil tk) := by
  refine ⟨⟨fun pins s sl H Q I h => ?_⟩⟩
  obtain ⟨Z, σ, S, R, RE, fr, ok, w, po, xo⟩ := h.ex
  obtain ⟨g, gV, hb, ho⟩ := cb.ex
  refine wpAny_Call_Name_kw (ld_glob I hg hm ?_ hdb)
  refine PySem.W.callWith_KW0 (h₀ := X.base) I.ok.mod.kin M.kp hall ?_ hpl
  refine thn (hkw.pk.run pos pins s sl H (fun zvs H2 => ∃ zs S2, (([] : List T).length = 0 ∧ zs.length = ks.length ∧
    ∀ u, S2 u = none → sp (gT [.cell u] zs) (S2.put u (.ins C [])) (fun z S3 => z = .non ∧ ∃ gs, S3 u = some (.ins C gs) ∧ R (.ins C gs) (S3.drop u)) RE) ∧ Le S H S2 H2 ∧ Ok X.K Z S2 H2 ∧ Reps X.K Z S2 H2 zvs zs) I
    ⟨Z, σ, S, _, RE, fr, ok, w, fun zs S2 zvs H2 k2 l2 o2 r2 => ⟨zs, S2, k2, l2, o2, r2⟩, xo⟩) fun ws s2 hu => ?_
  obtain ⟨zvs, H2, I2, rz, zs, S2, ⟨e1, e2, k2⟩, l2, o2, r2⟩ := hu
  refine ⟨I2.kIn, ?_⟩
  rw [hks]
  have lw : ws.length = ks.length := (rz.length.symm.trans r2.length).trans e2
  exact make_t (us := []) (kw := ks.zip ws) (all := fun u => g [Value.ref u] ws) (vsA := fun u => gV [.ref u] zvs) (G := fun u => gT [.cell u] zs) M F gds hr hx I2 (fun s' u hK hl => hb.to s' [.ref u] ws hK rfl lw) (fun u => hb.rel (.cons rfl .nil) rz) o2
    (fun u S' H' l => ho _ _ _ _ _ _ _ (cell_reps .nil) (r2.le l)) k2 (po.le l2) (xo.le l2)
/-! methods; D tells which promise the method has at which class -/
structure MetD (X : Cx) (m : Str) (dts : List T) (D : Addr → SpT → Prop) : Prop where
  at_ : ∀ C sp, D C sp → ∃ k f fd ps, Cls X.K C ∧ Meth X.K C m f ∧ FnT X.prog X.w X.K X.mg X.base k f fd ps sp ∧ Room k X.A ∧ CallD X.K fd ps dts
/-- just one class -/
def one (C : Addr) (sp : SpT) : Addr → SpT → Prop := fun C' sp' => C' = C ∧ sp' = sp
theorem MetD.one (c : Cls X.K C) (hm : Meth X.K C m f) (F : FnT X.prog X.w X.K X.mg X.base k f fd ps sp) (hr : Room k X.A) (cd : CallD X.K fd ps dts) : MetD X m dts (one C sp) := ⟨fun C' sp' ⟨e1, e2⟩ => by
  subst e1 e2
  exact ⟨k, f, fd, ps, c, hm, F, hr, cd⟩⟩
def rMeth (D : Addr → SpT → Prop) (m : Str) (dts : List T) (ra : TR) (t : TRA) : TR := fun σ S R RE => ra σ S (fun x S1 => ∃ C gs sp, insOf x S1 = some (C, gs) ∧ D C sp ∧ gs.lookup m = none ∧ t σ S1 (fun xs S2 => sp (x :: (xs ++ dts)) S2 R RE) RE) RE
variable {D : Addr → SpT → Prop}
/-- .. with keywords alone -/
structure MetB (X : Cx) (m : Str) (ks : List Str) (gT : List T → List T → List T) (D : Addr → SpT → Prop) : Prop where
  at_ : ∀ C sp, D C sp → ∃ k f fd ps, Cls X.K C ∧ Meth X.K C m f ∧ FnT X.prog X.w X.K X.mg X.base k f fd ps sp ∧ Room k X.A ∧ CallB X.K fd ps 1 ks gT
def rMethK (D : Addr → SpT → Prop) (m : Str) (n : Nat) (gT : List T → List T → List T) (ra : TR) (tk : TRA) : TR := fun σ S R RE => ra σ S (fun x S1 => ∃ C gs sp, insOf x S1 = some (C, gs) ∧ D C sp ∧ gs.lookup m = none ∧ tk σ S1 (fun zs S2 => zs.length = n ∧ sp (gT [x] zs) S2 R RE) RE) RE
end

section
variable {X : Cx} {E : XK} {k n : Nat} {f g C q : Addr} {fd : FuncData} {ps ks : List Str} {sp : SpT} {dts : List T} {x m : Str} {p pos apos : Pos} {e o a b : Expr} {es : List Expr} {kws : List Keyword} {t tk : TRA} {ra rb : TR}
/-! ### properties -/
structure PrpD (X : Cx) (m : Str) (D : Addr → SpT → Prop) : Prop where
  at_ : ∀ C sp, D C sp → ∃ k p g fd ps, Cls X.K C ∧ PropOf X.K C m p g ∧ FnT X.prog X.w X.K X.mg X.base k g fd ps sp ∧ Room (k + 1) X.A ∧ Binds X.K fd ps []
theorem PrpD.one (c : Cls X.K C) (hp : PropOf X.K C m q g) (F : FnT X.prog X.w X.K X.mg X.base k g fd ps sp) (hr : Room (k + 1) X.A) (hb : Binds X.K fd ps []) : PrpD X m (one C sp) := ⟨fun C' sp' ⟨e1, e2⟩ => by
  subst e1 e2
  exact ⟨k, q, g, fd, ps, c, hp, F, hr, hb⟩⟩
def rProp (D : Addr → SpT → Prop) (ra : TR) : TR := fun σ S R RE => ra σ S (fun x S1 => ∃ C gs sp, insOf x S1 = some (C, gs) ∧ D C sp ∧ sp [x] S1 R XF) RE
variable {D : Addr → SpT → Prop}
/-! ### C.f(..), f a plain def of the class; C.m(..), m a classmethod -/
def rClsFn (sp : SpT) (dts : List T) (t : TRA) : TR := fun σ S R RE => t σ S (fun xs S1 => sp (xs ++ dts) S1 R RE) RE
end

/-! ### defs with *args alone -/
structure FnS (P : Program) (w : World) (K : PySem.W.Frag) (mg : Str → Option Value) (base : Heap) (k : Nat) (f : Addr) (sp : SpT) : Prop where
  go : ∀ (A : Around) (out : List Env) (s : Shared) (H : Hp) (us : List Value) (vs : List V) (Q : VK) (E : XK), A.guards = some [] → Room k A → Env0 P w K mg base A out s H → Vals vs us → UpF K sp vs H Q E →
    codeAny (model P w) A (.call (.ref f) ⟨us, []⟩) (CR (L2N.CX P w) out P w H s Q E) s
section
variable {P : Program} {w : World} {K : PySem.W.Frag} {mg : Str → Option Value} {base : Heap} {k : Nat} {f : Addr} {fd : FuncData} {sp : SpT}
end
section
variable {X : Cx} {E : XK} {k : Nat} {f : Addr} {sp : SpT} {x : Str} {p pos : Pos} {e : Expr} {es : List Expr} {t : TRA}
def rCallS (sp : SpT) (t : TRA) : TR := fun σ S R RE => t σ S (fun xs S1 => sp xs S1 R RE) RE
end
/-! x * y where x's class has the def and y is of a built-in type, or of that class too -/
section
open PySem.W PySem.Calls PyProof.Rows
variable {prog : Program} {w : World} {A : Around} {E : Value → Shared → Prop} {s : Shared} {K : Frag} {x C L f : Addr} {h₀ : Heap} {m : Str → Option Value} {ox : Obj} {od : Option Obj} {T : String}
end
/-- what the class at C says of its operator -/
structure BinOwn (K : PySem.W.Frag) (C f : Addr) (op : Operator) : Prop where
  first_ : PySem.W.selfFirst K C = true
  at_ : PySem.W.findIn K (.ref C) (PySem.dunder op.info.2) = some (some (.ref f))
  fn : PySem.W.isFn K (.ref f) = true
  right_ : ∃ rc, PySem.W.findIn K (.ref C) (PySem.dunderR op.info.2) = some rc ∧ (rc = none ∨ ∃ g : Addr, rc = some (.ref g))
/-- what a built-in type says of it -/
structure BinTy (K : PySem.W.Frag) (C : Addr) (op : Operator) (T : String) : Prop where
  l : ∃ fo, PySem.W.findIn K (.type T) (PySem.dunder op.info.2) = some fo
  r : ∃ ro, PySem.W.findIn K (.type T) (PySem.dunderR op.info.2) = some ro
  no : PySem.W.subIn K (.type T) (.ref C) = some false
/-- what may stand right of it -/
def BinArg (K : PySem.W.Frag) (C : Addr) (op : Operator) (H : Hp) (y : V) : Prop := (∃ T, TyX K H y (.type T) ∧ BinTy K C op T) ∨ ∃ b dx fs, y = .ref b ∧ H b = some (.ins C dx fs)

/-! ### x * y by the class's own def -/
structure BinT (K : PySem.W.Frag) (C : Addr) (op : Operator) (y : T) (S : Store) : Prop where
  ok : (∃ ty, TyT K S y (.type ty) ∧ BinTy K C op ty) ∨ ∃ gs, insOf y S = some (C, gs)
def rOpOwn (K : PySem.W.Frag) (C : Addr) (op : Operator) (sp : SpT) : KB := fun x y S R RE => (∃ gs, insOf x S = some (C, gs)) ∧ BinT K C op y S ∧ sp [x, y] S (fun z S' => (∃ C' gs', z = .ins C' gs') ∧ R z S') RE
section
variable {X : Cx} {E : XK} {k : Nat} {f C : Addr} {fd : FuncData} {ps ks : List Str} {sp : SpT} {dts : List T} {m : Str} {p pos : Pos} {e a b c : Expr} {gT : List T → List T → List T} {D1 D2 : Addr → SpT → Prop} {ra : TR}
/-! what is never reached -/
def rNo : TR := fun _ _ _ _ => False
def sNo : TRS := fun _ _ _ => False
theorem ss_never {st : Stmt} : SS X E st sNo := ⟨⟨fun _ _ _ _ _ _ h => by
  obtain ⟨_, _, _, _, _, _, w, _, _⟩ := h.ex
  exact w.elim⟩⟩
theorem MetD.or (h1 : MetD X m dts D1) (h2 : MetD X m dts D2) : MetD X m dts (fun C sp => D1 C sp ∨ D2 C sp) := ⟨fun C sp d => d.elim (h1.at_ C sp) (h2.at_ C sp)⟩
theorem MetB.one (c : Cls X.K C) (hm : Meth X.K C m f) (F : FnT X.prog X.w X.K X.mg X.base k f fd ps sp) (hr : Room k X.A) (cb : CallB X.K fd ps 1 ks gT) : MetB X m ks gT (one C sp) := ⟨fun C' sp' ⟨e1, e2⟩ => by
  subst e1 e2
  exact ⟨k, f, fd, ps, c, hm, F, hr, cb⟩⟩
theorem MetB.or (h1 : MetB X m ks gT D1) (h2 : MetB X m ks gT D2) : MetB X m ks gT (fun C sp => D1 C sp ∨ D2 C sp) := ⟨fun C sp d => d.elim (h1.at_ C sp) (h2.at_ C sp)⟩
/-- C.f is the constant t -/
structure CValT (K : PySem.W.Frag) (C : Addr) (f : Str) (t : T) : Prop where
  ex : ∃ v u, ClX.CVal K C (.type "type") f v u ∧ ∀ Z S H, Rep K Z S H v t
/-! the same, the written part named -/
theorem et_fldK (K : PySem.W.Frag) (hK : X.K = K) (ha : ET X E a ra) (hb : attributeBase a m X.env (eval a X.env) = eval a X.env := by rfl) : ET X E (.Attribute a m pos) (rFld K m ra) := by
  subst hK
  exact et_fld ha hb
theorem ss_fldK (K : PySem.W.Frag) (hK : X.K = K) {rb : TR} {apos : Pos} (ha : ET X E a ra) (hv : ET X E e rb) (hs : swapsWith e (some (.Attribute a m apos)) pos.line X.env = pure false := by rfl) : SS X E (.Assign [.Attribute a m apos] e pos) (sFldT K m rb ra) := by
  subst hK
  exact ss_fld ha hv hs
/-! a test that is a conditional expression -/
def bIf (tc ta tb : TRB) : TRB := fun σ S R RE => tc σ S (fun c S1 => if c = true then ta σ S1 R RE else tb σ S1 R RE) RE
end
/-! ### the end -/
section
variable {P : Program} {w : World} {K : PySem.W.Frag} {mg : Str → Option Value} {base : Heap} {k : Nat} {f : Addr} {fd : FuncData} {ps : List Str} {sp : SpT}
/-- a def that lets nothing out, as the end wants it -/
theorem FnT.cx0 (F : FnT P w K mg base k f fd ps sp) : FnG P w K mg base CX0 k f fd ps (fun vs H Q _ => UpF K sp vs H Q EF) := by
  refine ⟨fun vs H Q E h => F.fn.len _ _ _ _ h, fun A out st H as us vs Q E gds hr e0 b r h => ?_⟩
  refine codeAny_mono (F.fn.go A out st H as us vs Q EF gds hr e0 b r h) fun z s' got => ?_
  cases z with
  | error er =>
    obtain ⟨_, _, _, _, _, _, _, _, _, _, _, _, q⟩ := got
    exact q.elim
  | ok fl =>
    cases fl with
    | ret u => exact got
    | next => exact got
    | brk => exact got
    | cont => exact got
end
/-- what a law promises -/
def sp_law : SpT := fun ts S R _ => match ts with
  | [.scr l] => (∃ ns : List Int, l = ns.map T.int ∧ ns.length ≤ 63) ∧ ∀ S', R (.bl true) S'
  | _ => False
theorem reps_ints {K : PySem.W.Frag} {Z : Addr → Prop} {S : Store} {H : Hp} : ∀ ns : List Int, Reps K Z S H (ns.map V.int) (ns.map T.int)
  | [] => .nil
  | n :: ns => .cons (.int n) (reps_ints ns)
theorem roomR {k : Nat} {A : Around} (r : Room k A) : A.units + 70 < cLine := by have := r.un; omega
section
variable {P : Program} {w : World} {K : PySem.W.Frag} {mg : Str → Option Value} {base : Heap} {k : Nat} {f : Addr} {fd : FuncData} {ps : List Str} {sp : SpT}
end
section
variable {K : PySem.W.Frag} {x qual : Str} {st : Stmt} {f : Addr} {fd : FuncData} {ps : List Str} {dvs : List V} {dts : List T} {kws : List (Str × V)}
theorem Fun.cb (F : Fun K x qual st f fd) (n : Nat) (ks : List Str) (pk : List (Nat × Nat))
    (h : ∀ (kV doc pm : Value) (an : Option Addr) (cdv ct : Value) (us ws : List Value), us.length = n → ws.length = ks.length → bindArgs (PySem.W.fnOf x qual (defArgs st) (defBody st) (defScope st) .none kV doc pm an cdv ct) ⟨us, ks.zip ws⟩ = pure (ps.zip (pickG pk us [] ws))) :
    CallB K fd ps n ks (fun ts zs => pickG pk ts [] zs) := by
  obtain ⟨oc, od, kV, doc, pm, an, cdv, ct, osl, e, lk, hcd⟩ := F.ex
  subst e
  exact ⟨fun us ws => pickG pk us [] ws, fun vs zs => pickG pk vs [] zs, ⟨fun s us ws _ l1 l2 => .of_eq (h kV doc pm an cdv ct us ws l1 l2), fun r1 r2 => pick_vals r1 .nil r2 pk⟩, pick_ord DefT.nil pk⟩
theorem FunK.cb (F : FunD K x qual (defArgs st) (defBody st) (defScope st) [] kws f fd) (n : Nat) (ks : List Str) (pk : List (Nat × Nat))
    (h : ∀ (kV doc pm : Value) (an : Option Addr) (cdv ct : Value) (us ws : List Value), us.length = n → ws.length = ks.length → bindArgs (PySem.W.fnOf x qual (defArgs st) (defBody st) (defScope st) .none kV doc pm an cdv ct) ⟨us, ks.zip ws⟩ = pure (ps.zip (pickG pk us [] ws))) :
    CallB K fd ps n ks (fun ts zs => pickG pk ts [] zs) := by
  obtain ⟨oc, od, dV, kV, doc, pm, an, cdv, ct, osl, e, lk, hcd, hD, hK⟩ := F.ex
  subst e
  rcases hD with ⟨_, e⟩ | ⟨e, _⟩
  · subst e
    exact ⟨fun us ws => pickG pk us [] ws, fun vs zs => pickG pk vs [] zs, ⟨fun s us ws _ l1 l2 => .of_eq (h kV doc pm an cdv ct us ws l1 l2), fun r1 r2 => pick_vals r1 .nil r2 pk⟩, pick_ord DefT.nil pk⟩
  · exact absurd rfl e
theorem FunK.cd (F : FunD K x qual (defArgs st) (defBody st) (defScope st) [] kws f fd) (n : Nat) (hk : kws ≠ []) (hn : n + kws.length = ps.length) (d : DefT K (kws.map (·.2)) dts)
    (h : ∀ (D : Addr) (doc pm : Value) (an : Option Addr) (cdv ct : Value) (us ks : List Value), us.length = n → ks.length = kws.length →
      KwChain D ((kws.map (·.1)).zip ks) (bindArgs (PySem.W.fnOf x qual (defArgs st) (defBody st) (defScope st) .none (.ref D) doc pm an cdv ct) ⟨us, []⟩) (ps.zip (us ++ ks))) : CallD K fd ps dts := by
  obtain ⟨ds, r, b⟩ := F.binds0 n hk hn h
  exact ⟨ds, _, b, r, d⟩
theorem FunP.cd (F : FunD K x qual (defArgs st) (defBody st) (defScope st) dvs [] f fd) (n j : Nat) (hd : dvs ≠ []) (hn : n + (dvs.length - j) = ps.length) (d : DefT K (dvs.drop j) dts)
    (h : ∀ (T : Addr) (kV doc pm : Value) (an : Option Addr) (cdv ct : Value) (us its : List Value), us.length = n → its.length = dvs.length →
      ∃ k, bindArgs (PySem.W.fnOf x qual (defArgs st) (defBody st) (defScope st) (.ref T) kV doc pm an cdv ct) ⟨us, []⟩ = seqItems? (.ref T) >>= k ∧ k (some its.toArray) = pure (ps.zip (us ++ its.drop j))) : CallD K fd ps dts := by
  obtain ⟨ds, r, b⟩ := F.binds1 n j hd hn h
  exact ⟨ds, _, b, r, d⟩
theorem FunP.cb (F : FunD K x qual (defArgs st) (defBody st) (defScope st) dvs [] f fd) (n : Nat) (ks : List Str) (pk : List (Nat × Nat)) (hd : dvs ≠ []) (d : DefT K dvs dts)
    (h : ∀ (T : Addr) (kV doc pm : Value) (an : Option Addr) (cdv ct : Value) (us its ws : List Value), us.length = n → its.length = dvs.length → ws.length = ks.length →
      ∃ k, bindArgs (PySem.W.fnOf x qual (defArgs st) (defBody st) (defScope st) (.ref T) kV doc pm an cdv ct) ⟨us, ks.zip ws⟩ = seqItems? (.ref T) >>= k ∧ k (some its.toArray) = pure (ps.zip (pickG pk us its ws))) :
    CallB K fd ps n ks (fun ts zs => pickG pk ts dts zs) := by
  obtain ⟨oc, od, dV, kV, doc, pm, an, cdv, ct, osl, e, lk, hcd, hD, hK⟩ := F.ex
  subst e
  rcases hD with ⟨e, _⟩ | ⟨_, A, o, its, m, e, lT, oT, rT⟩
  · exact absurd e hd
  · subst e
    refine ⟨fun us ws => pickG pk us its ws, fun vs zs => pickG pk vs dvs zs, ⟨fun s us ws inK l1 l2 => ?_, fun r1 r2 => pick_vals r1 rT r2 pk⟩, pick_ord d pk⟩
    obtain ⟨k, e1, e2⟩ := h A kV doc pm an cdv ct us its ws l1 rT.length.symm l2
    refine BindsTo.of_looks fun M => ?_
    rw [e1]
    exact looks_items inK lT oT (.of_pure e2)
end

/-! a != b where the class has an own __eq__ and no own __ne__ -/
namespace NeOwn
open PySem PySem.Calls PyProof.Rows
section
variable {prog : Program} {w : World} {A : Around} {E : Value → Shared → Prop} {s : Shared} {K : PySem.W.Frag} {x C f : Addr} {ox : Obj} {od : Option Obj} {b tb : Value}
/-- the answer of __eq__, turned about -/
def Neg (Q : Value → Shared → Prop) (r : Value) (s' : Shared) : Prop := ∃ c, r = .bool c ∧ Q (.bool (!c)) s'
theorem body {Q : Fin → Shared → Prop} (inK : K.In s.heap) (I : PySem.W.InstAt s.heap x ox C od) (hu : A.units < cLine) (he : PySem.W.findIn K (.ref C) "__eq__" = some (some (.ref f))) (hf : PySem.W.isFn K (.ref f) = true)
    (hc : wpAny (model prog w) A (call (.ref f) [.ref x, b]) (Neg fun r s' => Q (.done (.ret r)) s') E s) : wpAny (model prog w) A (Builtin.«object.__ne__» ⟨[.ref x, b], []⟩) Q E s := by
  unfold Builtin.«object.__ne__»
  repeat (first
    | with_reducible refine wpAny_cRoomFor hu ?_
    | (refine wpAny_bind (m := callSpecialIfBound? (.ref x) (Str.ofString "__eq__") [b]) (PySem.W.ifBound_K inK I he hf (wpAny_mono hc (fun r s' got => by
          obtain ⟨c, rfl, hq⟩ := got
          repeat (first | exact hq | exact wpAny_pure hq | exact wpAny_truthy_bool hq | (refine wpAny_bind (m := truthy (.bool _)) (wpAny_truthy_bool ?_)) | wp_step)) fun _ _ z => z)))
    | wp_step)
theorem slot {args : List Value} {Q : Option Value → Shared → Prop} (inK : K.In s.heap) (I : PySem.W.InstAt s.heap x ox C od) (hs : PySem.W.findIn K (.ref C) "__ne__" = some (some (.builtin "object.__ne__")))
    (hc : wpAny (model prog w) A (call (.builtin "object.__ne__") (.ref x :: args)) (fun r => Q (some r)) E s) : wpAny (model prog w) A (callSpecialIfBound? (.ref x) "__ne__" args) Q E s := by
  simp only [callSpecialIfBound?, bindSpecialIfBound?]
  have last : wpAny (model prog w) A (call (.builtin "object.__ne__") ([.ref x] ++ args) >>= fun r => pure (some r)) Q E s := wpAny_bind (wpAny_mono hc (fun r s' z => wpAny_pure z) fun _ _ z => z)
  have bd := PySem.F.cmp_object.ne.bind (Value.ref x)
  refine wpAny_holding (wpAny_bind (wpAny_bind (wpAny_bind (I.type.here ((PySem.W.looks_findIn inK hs).here (wpAny_bind (wpAny_askSetting (wpAny_ite ?_))))))))
  split
  · exact wpAny_bind (wpAny_of_eq bd (wpAny_pure (by exact last)))
  · exact wpAny_tryCatch (wpAny_bind (wpAny_of_eq bd (wpAny_pure (by exact last))))
end
end NeOwn
/-- an operator's rule told of trees -/
def RK (K : PySem.W.Frag) (E : XK) (k : KB) : R2 := fun v u H Q => ∃ Z x y S R RE, Ok K Z S H ∧ Rep K Z S H v x ∧ Rep K Z S H u y ∧ k x y S R RE ∧ PO K Z S H R Q ∧ XOk K Z S H RE E
/-- what the class at C says of == and != -/
structure EqO (K : PySem.W.Frag) (C f : Addr) : Prop where
  eq : PySem.W.findIn K (.ref C) "__eq__" = some (some (.ref f))
  fn : PySem.W.isFn K (.ref f) = true
  ne : PySem.W.findIn K (.ref C) "__ne__" = some (some (.builtin "object.__ne__"))
  mro : PySem.W.mroIn K C (.type "object") = some true
def kEqOwn (C : Addr) (sp : SpT) (ng : Bool) : KB := fun x y S R RE => (∃ gs, insOf x S = some (C, gs)) ∧ (∃ gs, insOf y S = some (C, gs)) ∧ sp [x, y] S (fun z S' => ∃ c, z = .bl c ∧ R (.bl (ng ^^ c)) S') RE
section
variable {X : Cx} {E : XK} {C f : Addr} {fd : FuncData} {k : Nat} {ps : List Str} {sp : SpT}
end
section
variable {X : Cx} {E : XK} {C : Addr} {x : Str} {p pos : Pos}
/-- a class that is made without an __init__ -/
structure MkP (K : PySem.W.Frag) (D : Addr) : Prop where
  mks : PySem.W.makesIn K D = true
  kp : PySem.W.keepIn K (.ref D) = true
  hi : PySem.W.findIn K (.ref D) "__init__" = some (some (.builtin "object.__init__"))
  mr : PySem.W.mroIn K D (.type "object") = some true
def rMakeP (C : Addr) : TR := fun _ S R _ => R (.ins C []) S
set_option maxHeartbeats 1000000 in
end
section
variable {K : PySem.W.Frag} {x qual : Str} {st : Stmt} {f : Addr} {fd : FuncData} {ps : List Str} {dvs : List V}
/-- a def with defaults, every parameter written -/
theorem FunP.b (F : FunD K x qual (defArgs st) (defBody st) (defScope st) dvs [] f fd) (hd : dvs ≠ [])
    (h : ∀ (T : Addr) (kV doc pm : Value) (an : Option Addr) (cdv ct : Value) (us its : List Value), us.length = ps.length → its.length = dvs.length →
      ∃ k, bindArgs (PySem.W.fnOf x qual (defArgs st) (defBody st) (defScope st) (.ref T) kV doc pm an cdv ct) ⟨us, []⟩ = seqItems? (.ref T) >>= k ∧ k (some its.toArray) = pure (ps.zip us)) : Binds K fd ps [] := by
  obtain ⟨ds, r, b⟩ := F.binds1 (ps := ps) ps.length dvs.length hd (by omega) fun T kV doc pm an cdv ct us its l1 l2 => by
    obtain ⟨k, e1, e2⟩ := h T kV doc pm an cdv ct us its l1 l2
    exact ⟨k, e1, by rw [e2, ← l2, List.drop_length, List.append_nil]⟩
  rw [List.drop_length] at r
  cases r
  exact b
end

/-! a in (b, c), by the class's own __eq__ -/
namespace InOwn
open PySem PySem.Calls PyProof.Rows
section
variable {prog : Program} {w : World} {A : Around} {E : Value → Shared → Prop} {s : Shared} {l x : Addr} {items : Array Value}
theorem body {Q : Fin → Shared → Prop} (hl : IsTup s.heap l items) (I : List Value → Shared → Prop)
    (turn : ∀ y rest s, I (y :: rest) s → wpAny (model prog w) A (eqBool y (.ref x)) (fun r s' => if r = true then Q (.done (.ret (.bool true))) s' else I rest s') E s)
    (fin : ∀ s, I [] s → Q (.done (.ret (.bool false))) s) (h : I items.toList s) : wpAny (model prog w) A (Builtin.«tuple.__contains__» ⟨[.ref l, .ref x], []⟩) Q E s := by
  show wpAny _ _ (Builtin.Tuple.tupleItemsOf (.ref l) >>= _) _ _ s
  refine wpAny_bind (tupleItemsOf_ hl ?_)
  refine wpAny_bind (forIn_array_ _ (fun rest b s' => b.1 = none ∧ I rest s') _ ?_ ?_ items _ ⟨rfl, h⟩)
  · rintro y rest b s' ⟨hb, hI⟩
    refine wpAny_bind (wpAny_mono (turn y rest s' hI) (fun r s2 got => ?_) fun _ _ z => z)
    cases r with
    | true => exact wpAny_bind (wpAny_pure (wpAny_pure (wpAny_pure (by simpa using got))))
    | false => exact wpAny_pure ⟨rfl, by simpa using got⟩
  · rintro ⟨b1, b2⟩ s' ⟨hb, hI⟩
    simp only at hb
    subst hb
    exact wpAny_pure (fin s' hI)
theorem has {Q : Bool → Shared → Prop} (hl : IsTup s.heap l items) (I : List Value → Shared → Prop)
    (turn : ∀ y rest s, I (y :: rest) s → wpAny (model prog w) A.in1 (eqBool y (.ref x)) (fun r s' => if r = true then Q true s' else I rest s') E s)
    (fin : ∀ s, I [] s → Q false s) (h : I items.toList s) : wpAny (model prog w) A (contains (.ref l) (.ref x)) Q E s := by
  unfold contains
  refine wpAny_holding ?_
  refine wpAny_bind (wpAny_specialOf hl.typeIs slot_tuple_contains.lookup ?_)
  rw [if_neg (by decide)]
  exact wpAny_bind (wpAny_callSpecialUnlessNone?_slot (name := Str.ofString "__contains__") hl.typeIs slot_tuple_contains
    (wpAny_call_entry slot_tuple_contains hl.typeIs entry_tuple_contains (body hl I (fun y rest s' z => wpAny_mono (turn y rest s' z) (fun r s2 q => by
      cases r with
      | true => exact ⟨_, rfl, wpAny_truthy_bool (by simpa using q)⟩
      | false => simpa using q) fun _ _ z => z) (fun s' z => ⟨_, rfl, wpAny_truthy_bool (fin s' z)⟩) h) (args_tuple_contains _ _)))
end
end InOwn
/-! x in o by the class's own __contains__ -/
structure InO (K : PySem.W.Frag) (C f : Addr) : Prop where
  at_ : PySem.W.findIn K (.ref C) "__contains__" = some (some (.ref f))
  fn : PySem.W.isFn K (.ref f) = true
def kInOwn (C : Addr) (sp : SpT) (ng : Bool) : KB := fun x y S R RE => (∃ gs, insOf y S = some (C, gs)) ∧ sp [y, x] S (fun z S' => ∃ c, z = .bl c ∧ R (.bl (ng ^^ c)) S') RE
section
variable {X : Cx} {E : XK} {C f : Addr} {fd : FuncData} {k : Nat} {ps : List Str} {sp : SpT}
end
/-! x in (a, b, ..) by the elements' own __eq__; one thing is itself, whatever __eq__ says -/
def inOwnL (C : Addr) (sp : SpT) (x : T) (R : Bool → Store → Prop) (RE : XT) : List T → Store → Prop
  | [], S => R false S
  | y :: ys, S => R true S ∧ (∃ gs, insOf y S = some (C, gs)) ∧ sp [y, x] S (fun z S' => ∃ c, z = .bl c ∧ if c = true then R true S' else inOwnL C sp x R RE ys S') RE
def kInTup (C : Addr) (sp : SpT) : KB := fun x y S R RE => ∃ l, y = .tup l ∧ (∃ gs, x = .ins C gs) ∧ inOwnL C sp x (fun b S' => R (.bl b) S') RE l S
section
variable {X : Cx} {E : XK} {C f : Addr} {fd : FuncData} {k : Nat} {ps : List Str} {sp : SpT}
end

section
variable {X : Cx} {E : XK} {a b c : Expr} {pos : Pos} {t : TRA}
/-! a, b, c = .. -/
def sPar3 (i j l : Nat) (t : TRA) : TRS := fun D σ S => t σ S (fun ts S1 => ∃ x y z, ts = [x, y, z] ∧ D.nx (((σ.set i (some x)).set j (some y)).set l (some z)) S1) D.ex
end

/-! ### f-strings of texts and ints -/
def kFmt : T → Store → (T → Store → Prop) → Prop := fun x S R => match x with
  | .str y => y.length ≤ sizeLine ∧ R (.str y) S
  | .int i => i.natAbs.log2 < 1920 ∧ R (.str (toString i)) S
  | _ => False
def rFmt (ra : TR) : TR := fun σ S R RE => ra σ S (fun x S1 => kFmt x S1 R) RE
section
variable {X : Cx} {E : XK} {e v1 v2 : Expr} {rest : List Expr} {pos : Pos} {ra : TR}
theorem et_fmt (ha : ET X E e ra) : ET X E (.FormattedValue e (-1) none pos) (rFmt ra) :=
  ⟨pe_weak (pe_fmt ha.pe) fun sl H Q ⟨⟨Z, σ, S, R, RE, fr, ok, w, po, xo⟩⟩ => ⟨Z, σ, S, _, RE, fr, ok, w, fun x S1 v H1 k le ok1 rep => by
    replace k : kFmt x S1 R := k
    unfold kFmt at k
    split at k
    · cases rep
      exact .inl ⟨_, rfl, k.1, po _ _ _ _ k.2 le ok1 (.str _)⟩
    · cases rep
      exact .inr ⟨_, rfl, k.1, po _ _ _ _ k.2 le ok1 (.str _)⟩
    · exact k.elim, xo⟩⟩
inductive EJ (X : Cx) (E : XK) : List Expr → List TR → Prop where
  | nil : EJ X E [] []
  | cons {e : Expr} {t : TR} {es : List Expr} {ts : List TR} (h : ET X E e t) (r : EJ X E es ts) : EJ X E (e :: es) (t :: ts)
def rJs : List TR → Str → TR
  | [], acc => fun _ S R _ => R (.str acc) S
  | r :: rs, acc => fun σ S R RE => r σ S (fun x S1 => ∃ y : Str, x = .str y ∧ (acc ++ y).length ≤ sizeLine ∧ rJs rs (acc ++ y) σ S1 R RE) RE
theorem EJ.pj {es : List Expr} {ts : List TR} (h : EJ X E es ts) : PJ X es (ts.map fun r => UpE X.K E r) := by
  induction h with
  | nil => exact .nil
  | cons h _ ih => exact .cons h.pe ih
theorem js_up {K : PySem.W.Frag} : ∀ {ts : List TR} {acc : Str} {Z : Addr → Prop} {σ : Fm} {S : Store} {R : T → Store → Prop} {RE : XT} {sl : L2.St} {H : Hp} {Q : VK}, FrR K Z S H sl σ → Ok K Z S H → rJs ts acc σ S R RE → PO K Z S H R Q → XOk K Z S H RE E →
    tJs (ts.map fun r => UpE K E r) acc sl H (fun out H1 => Q (.str out) H1)
  | [], acc, Z, σ, S, R, RE, sl, H, Q, fr, ok, w, po, xo => po _ _ _ _ w .refl ok (.str _)
  | r :: rs, acc, Z, σ, S, R, RE, sl, H, Q, fr, ok, w, po, xo => ⟨Z, σ, S, _, RE, fr, ok, w, fun x S1 v H1 k le ok1 rep => by
    obtain ⟨y, rfl, hy, k⟩ := k
    cases rep
    exact ⟨y, rfl, hy, js_up (fr.le le) ok1 k (po.le le) (xo.le le)⟩, xo⟩
theorem et_joined {ts : List TR} (h : EJ X E (v1 :: v2 :: rest) ts) : ET X E (.JoinedStr (v1 :: v2 :: rest) pos) (rJs ts Str.empty) :=
  ⟨pe_weak (pe_joined h.pj) fun sl H Q ⟨⟨Z, σ, S, R, RE, fr, ok, w, po, xo⟩⟩ => js_up fr ok w po xo⟩
theorem et_joined1 (ha : ET X E e ra) : ET X E (.JoinedStr [e] pos) ra := ⟨pe_joined1 ha.pe⟩
end
/-! ### str(x), repr(x) of an instance whose class has the def -/
structure OwnDef (K : PySem.W.Frag) (C : Addr) (m : Str) (f : Addr) : Prop where
  at_ : PySem.W.findIn K (.ref C) m = some (some (.ref f))
  fn : PySem.W.isFn K (.ref f) = true
structure StrD (X : Cx) (m : Str) (D : Addr → SpT → Prop) : Prop where
  at_ : ∀ C sp, D C sp → ∃ k f fd ps, OwnDef X.K C m f ∧ FnT X.prog X.w X.K X.mg X.base k f fd ps sp ∧ Room (k + 2) X.A ∧ Binds X.K fd ps []
theorem StrD.one {X : Cx} {m : Str} {C f : Addr} {k : Nat} {fd : FuncData} {ps : List Str} {sp : SpT} (o : OwnDef X.K C m f) (F : FnT X.prog X.w X.K X.mg X.base k f fd ps sp) (hr : Room (k + 2) X.A) (hb : Binds X.K fd ps []) : StrD X m (one C sp) := ⟨fun C' sp' ⟨e1, e2⟩ => by
  subst e1 e2
  exact ⟨k, f, fd, ps, o, F, hr, hb⟩⟩
theorem StrD.or {X : Cx} {m : Str} {D1 D2 : Addr → SpT → Prop} (h1 : StrD X m D1) (h2 : StrD X m D2) : StrD X m (fun C sp => D1 C sp ∨ D2 C sp) := ⟨fun C sp d => d.elim (h1.at_ C sp) (h2.at_ C sp)⟩
def RStrD (K : PySem.W.Frag) (D : Addr → SpT → Prop) : List V → Hp → VK → Prop := fun vs H Q => ∃ C sp a dx fs, vs = [.ref a] ∧ H a = some (.ins C dx fs) ∧ D C sp ∧ UpF K sp [.ref a] H (fun v H' => (∃ y, v = .str y) ∧ Q v H') EF
def kStrOwn (D : Addr → SpT → Prop) : KA := fun xs S R _ => ∃ x C gs sp, xs = [x] ∧ insOf x S = some (C, gs) ∧ D C sp ∧ sp [x] S (fun z S' => (∃ y, z = .str y) ∧ R z S') XF
theorem cv_strOwn {K : PySem.W.Frag} {E : XK} {D : Addr → SpT → Prop} : ConvA K E (kStrOwn D) (RStrD K D) := by
  intro Z xs S vs H R RE Q ok rs ⟨x, C, gs, sp, e, hi, d, k⟩ po xo
  subst e
  cases rs with
  | cons r rr =>
    cases rr
    obtain ⟨a, dx, fs, rfl, hH, _⟩ := ins_rep ok r hi
    refine ⟨C, sp, a, dx, fs, rfl, hH, d, Z, [x], S, _, XF, .cons r .nil, ok, k, fun z S' v H' kz le ok' rep => ?_, .f⟩
    obtain ⟨⟨y, rfl⟩, kz⟩ := kz
    cases rep
    exact ⟨⟨y, rfl⟩, po _ _ _ _ kz le ok' (.str _)⟩
section
variable {X : Cx} {D : Addr → SpT → Prop}
theorem runOwnT {pins : List (Addr × Obj)} {sl : L2.St} {H : Hp} {s : Shared} {A : Around} {Q : VK} {R : Value → Shared → Prop} {x f : Addr} {k : Nat} {fd : FuncData} {ps : List Str} {sp : SpT} (F : FnT X.prog X.w X.K X.mg X.base k f fd ps sp) (hb : Binds X.K fd ps []) (inv : Inv X pins sl H s) (gds : A.guards = some []) (hr : Room k A) (env : Env0 X.prog X.w X.K X.mg X.base A X.stack s H)
    (h : UpF X.K sp [.ref x] H (fun v H' => (∃ y, v = .str y) ∧ Q v H') EF) (fin : ∀ y t s' , EP X pins sl Q (.str y t) s' → R (.str y t) s') {E : Value → Shared → Prop} : wpAny (model X.prog X.w) A (call (.ref f) [.ref x]) R E s := by
  have hl : ([Value.ref x] ++ []).length = ps.length := by
    rw [← F.fn.len _ _ _ _ h]
    rfl
  refine wpAny_call (codeAny_mono (F.fn.go A X.stack s H ⟨[.ref x], []⟩ ([Value.ref x] ++ []) [.ref x] _ _ gds hr env (hb s [.ref x] inv.kIn hl) (.cons rfl .nil) h) fun r s' hq => ?_)
  cases r with
  | error e => exact (passN (X := X.nox) pins sl H s e s' (inv.wish _) hq).elim
  | ok fl =>
    cases fl with
    | ret u =>
      obtain ⟨v, H', I3, rv, ⟨y, ey⟩, q3⟩ := inv.after hq
      subst ey
      obtain ⟨t, rfl⟩ := (show ∃ t, u = Value.str y t from rv)
      exact fin y t s' ⟨.str y, H', I3, ⟨t, rfl⟩, q3⟩
    | next => exact False.elim hq
    | brk => exact False.elim hq
    | cont => exact False.elim hq
theorem strOwnT (S : StrD X "__str__" D) (gds : X.A.guards = some []) : CallR X (.type "str") (RStrD X.K D) := by
  intro pins s sl H xs us Q inv vals want
  obtain ⟨C, sp, x, dx, fs, rfl, hx, d, h⟩ := want
  obtain ⟨k, f, fd, ps, O, F, hr, hb⟩ := S.at_ C sp d
  obtain ⟨u, rfl, ru⟩ := vals1 vals
  obtain rfl : u = Value.ref x := ru
  obtain ⟨mA, OA, _⟩ := ins_get inv.hok hx
  obtain ⟨od, J, _⟩ := OA.look
  exact PySem.W.kso_call hr.in1.in1.units0 inv.kIn J O.at_ O.fn (runOwnT (R := PySem.W.StrBack (EP X pins sl Q)) F hb inv (by first | exact gds | simpa [Around.in1] using gds) hr.in1.in1 inv.env0.in1.in1 h fun y t s' q => q)
theorem reprOwnT (S : StrD X "__repr__" D) (gds : X.A.guards = some []) : CallR X (.builtin "repr") (RStrD X.K D) := by
  intro pins s sl H xs us Q inv vals want
  obtain ⟨C, sp, x, dx, fs, rfl, hx, d, h⟩ := want
  obtain ⟨k, f, fd, ps, O, F, hr, hb⟩ := S.at_ C sp d
  obtain ⟨u, rfl, ru⟩ := vals1 vals
  obtain rfl : u = Value.ref x := ru
  obtain ⟨mA, OA, _⟩ := ins_get inv.hok hx
  obtain ⟨od, J, _⟩ := OA.look
  obtain ⟨m, fr⟩ := inv.fr
  have hr1 : Room (k + 1) X.A := hr.mono (by omega)
  exact PySem.W.repr_K hr1.in1.units0 fr inv.ok.mod.kin J O.at_ O.fn (runOwnT (R := PySem.W.StrBack (EP X pins sl Q)) F hb inv (by first | exact gds | simpa [Around.in1] using gds) hr1.in1 inv.env0.in1 h fun y t s' q => q)
end
/-! ### [..].index(x), flat things -/
def idxT (y : T) : List T → Option Nat
  | [] => none
  | z :: l => if eqT z y = true then some 0 else (idxT y l).map (· + 1)
def rLidx (ra : TR) (t : TRA) : TR := fun σ S R RE => ra σ S (fun x S1 => ∃ l, x = .lst l ∧ t σ S1 (fun xs S2 => ∃ y j, xs = [y] ∧ flatT y = true ∧ l.all flatT = true ∧ idxT y l = some j ∧ R (.int (j : Nat)) S2) RE) RE
section
variable {X : Cx} {E : XK}
end
/-! a + b, a new list that is to change -/
def kAddC : KB := fun x y S R _ => match x, y with
  | .lst a, .lst b => a.length + b.length ≤ sizeLine ∧ ∀ p, S p = none → R (.cell p) (S.put p (.lst (a ++ b)))
  | _, _ => False
theorem cv_addC {X : Cx} {E : XK} : Conv X.K E kAddC rCat := by
  intro Z x y S v u H R RE Q ok rx ry kk po xo
  unfold kAddC at kk
  split at kk
  · cases rx with
    | lst h1 r1 =>
      cases ry with
      | lst h2 r2 =>
        refine ⟨_, _, _, _, rfl, rfl, h1.1, h2.1, by rw [r1.length, r2.length]; exact kk.1, fun p hp => ?_⟩
        have l3 : ∀ (o : HO) (c : Cell), Le S H (S.put p c) (upd H p o) := fun o c => le_newc hp
        exact po _ _ _ _ (kk.2 p (ok.free hp)) (l3 _ _) (ok.put (l3 _ _) (ok.nz hp) ⟨_, upd_same, (r1.append r2).le (l3 _ _)⟩) (.cell p)
  · exact kk.elim

/-! ### texts: methods, int(text) -/
def rStr0 (g : Str → T) (ra : TR) : TR := fun σ S R RE => ra σ S (fun x S1 => ∃ a, x = .str a ∧ R (g a) S1) RE
def rPart (ra rb : TR) : TR := fun σ S R RE => ra σ S (fun x S1 => ∃ a, x = .str a ∧ rb σ S1 (fun y S2 => ∃ b, y = .str b ∧ (b.length == 0) = false ∧ a.length ≤ sizeLine ∧ R (.tup [.str (Txt.partition a b).1, .str (Txt.partition a b).2.1, .str (Txt.partition a b).2.2]) S2) RE) RE
def rSplit (ra rb : TR) : TR := fun σ S R RE => ra σ S (fun x S1 => ∃ a, x = .str a ∧ rb σ S1 (fun y S2 => ∃ b, y = .str b ∧ (b.length == 0) = false ∧ a.length + 2 ≤ sizeLine ∧ R (.lst ((Txt.split a b).map .str)) S2) RE) RE
def kIntS : KA := fun xs S R _ => ∃ a n, xs = [.str a] ∧ PySem.intText? a = some n ∧ a.length ≤ 640 ∧ R (.int n) S
theorem reps_str {K : PySem.W.Frag} {Z : Addr → Prop} {S : Store} {H : Hp} : ∀ ys : List Str, Reps K Z S H (ys.map V.str) (ys.map T.str)
  | [] => .nil
  | y :: ys => .cons (.str y) (reps_str ys)
section
variable {X : Cx} {E : XK} {o e : Expr} {apos pos : Pos} {ra rb : TR}
theorem et_str0 {id : String} {name : Str} {g : Str → V} {g' : Str → T} (slot : Slot "str" name id) (ty : typeOf (.builtin id) = pure (.type "method_descriptor")) (rule : MtR X id (fun x xs H Q => ∃ a, x = .str a ∧ xs = [] ∧ True ∧ Q (g a) H))
    (hg : ∀ {Z S H} a, Rep X.K Z S H (g a) (g' a)) (ho : ET X E o ra)
    (hbase : attributeBase o name X.env (eval o X.env) = eval o X.env := by rfl) (hline : (apos.endLine == pos.line) = true := by rfl) : ET X E (.Call (.Attribute o name apos) [] [] pos) (rStr0 g' ra) :=
  ⟨pe_weak (pe_m0 slot ty rule ho.pe hbase hline) fun sl H Q ⟨⟨Z, σ, S, R, RE, fr, ok, w, po, xo⟩⟩ => by
    refine ⟨Z, σ, S, _, RE, fr, ok, w, fun x S1 v H1 k le ok1 rep => ?_, xo⟩
    obtain ⟨a, rfl, k⟩ := k
    cases rep
    exact ⟨⟨_, rfl⟩, _, rfl, rfl, trivial, po _ _ _ _ k le ok1 (hg _)⟩⟩
theorem et_isascii (ho : ET X E o ra) (hbase : attributeBase o "isascii" X.env (eval o X.env) = eval o X.env := by rfl) (hline : (apos.endLine == pos.line) = true := by rfl) :
    ET X E (.Call (.Attribute o "isascii" apos) [] [] pos) (rStr0 (fun a => .bl (Txt.isascii a)) ra) := et_str0 (g := fun a => .bl (Txt.isascii a)) PySem.F.slot_str_isascii PySem.F.type_str_isascii mt_isascii (fun _ => .bl _) ho hbase hline
theorem et_isdigit (ho : ET X E o ra) (hbase : attributeBase o "isdigit" X.env (eval o X.env) = eval o X.env := by rfl) (hline : (apos.endLine == pos.line) = true := by rfl) :
    ET X E (.Call (.Attribute o "isdigit" apos) [] [] pos) (rStr0 (fun a => .bl (Txt.isdigit a)) ra) := et_str0 (g := fun a => .bl (Txt.isdigit a)) PySem.F.slot_str_isdigit PySem.F.type_str_isdigit mt_isdigit (fun _ => .bl _) ho hbase hline
theorem et_partition (ho : ET X E o ra) (he : ET X E e rb) (hs : starEach [e] X.env = [(false, eval e X.env)] := by rfl) (hbase : attributeBase o "partition" X.env (eval o X.env) = eval o X.env := by rfl) (hline : (apos.endLine == pos.line) = true := by rfl) :
    ET X E (.Call (.Attribute o "partition" apos) [e] [] pos) (rPart ra rb) :=
  ⟨pe_weak (pe_partition ho.pe he.pe hs hbase hline) fun sl H Q ⟨⟨Z, σ, S, R, RE, fr, ok, w, po, xo⟩⟩ => by
    refine ⟨Z, σ, S, _, RE, fr, ok, w, fun x S1 v H1 k le ok1 rep => ?_, xo⟩
    obtain ⟨a, rfl, k⟩ := k
    cases rep
    refine ⟨⟨_, rfl⟩, Z, σ, S1, _, RE, fr.le le, ok1, k, fun y S2 u H2 k2 le2 ok2 rep2 => ?_, xo.le le⟩
    obtain ⟨b, rfl, hb, hz, k2⟩ := k2
    cases rep2
    refine ⟨_, _, rfl, rfl, hb, hz, fun p hp => ?_⟩
    exact (po.le le).le le2 _ _ _ _ k2 (le_new hp) (ok2.new hp) (.tupN ok2 hp (.cons (.str _) (.cons (.str _) (.cons (.str _) .nil))))⟩
theorem et_split (ho : ET X E o ra) (he : ET X E e rb) (hs : starEach [e] X.env = [(false, eval e X.env)] := by rfl) (hbase : attributeBase o "split" X.env (eval o X.env) = eval o X.env := by rfl) (hline : (apos.endLine == pos.line) = true := by rfl) :
    ET X E (.Call (.Attribute o "split" apos) [e] [] pos) (rSplit ra rb) :=
  ⟨pe_weak (pe_split ho.pe he.pe hs hbase hline) fun sl H Q ⟨⟨Z, σ, S, R, RE, fr, ok, w, po, xo⟩⟩ => by
    refine ⟨Z, σ, S, _, RE, fr, ok, w, fun x S1 v H1 k le ok1 rep => ?_, xo⟩
    obtain ⟨a, rfl, k⟩ := k
    cases rep
    refine ⟨⟨_, rfl⟩, Z, σ, S1, _, RE, fr.le le, ok1, k, fun y S2 u H2 k2 le2 ok2 rep2 => ?_, xo.le le⟩
    obtain ⟨b, rfl, hb, hz, k2⟩ := k2
    cases rep2
    refine ⟨_, _, rfl, rfl, hb, hz, fun p hp => ?_⟩
    exact (po.le le).le le2 _ _ _ _ k2 (le_new hp) (ok2.new hp) (.lstN ok2 hp (reps_str _))⟩
end
/-! ### x, *xs = a list -/
namespace StarU
open PySem PySem.Spec PySem.Calls PyProof.Rows PySem.W
end StarU
def gStarV (K : PySem.W.Frag) (t : TGs) : TG := fun v σ H Q => ∃ a x xs, v = .ref a ∧ SqL K H a (x :: xs) ∧ xs.length < 16384 ∧ ∀ D, H D = none → t [x, .ref D] σ (upd H D (.lst xs)) Q
section
variable {X : Cx} {E : XK} {pos p1 p2 p3 : Pos} {x y : Str}
def gStarT (gs : TRGs) : TRG := fun t σ S R RE => ∃ a l, t = .lst (a :: l) ∧ l.length < 16384 ∧ gs [a, .lst l] σ S R RE
end
/-! ### a op b op c; the truth of a list -/
section
variable {X : Cx} {E : XK} {a b c : Expr} {pos : Pos} {ra rb rc : TR}
def rChain (k1 k2 : KB) (ra rb rc : TR) : TR := fun σ S R RE => ra σ S (fun x S1 => rb σ S1 (fun y S2 => k1 x y S2 (fun z S3 => ∃ d, z = .bl d ∧ (if d = true then rc σ S3 (fun w S4 => k2 y w S4 R RE) RE else R (.bl false) S3)) RE) RE) RE
def truT : T → Option Bool
  | .bl b => some b
  | .lst l => some (!l.isEmpty)
  | .tup l => some (!l.isEmpty)
  | .non => some false
  | _ => none
def rTru (ra : TR) : TRB := fun σ S R RE => ra σ S (fun x S1 => ∃ d, truT x = some d ∧ R d S1) RE
end

/-! a != b, any type on the right that is no subclass of the left's -/
namespace NeOwn
open PySem PySem.Calls PyProof.Rows
section
variable {prog : Program} {w : World} {A : Around} {E : Value → Shared → Prop} {s : Shared} {K : PySem.W.Frag} {x C f : Addr} {ox : Obj} {od : Option Obj} {b tb : Value}
end
end NeOwn
/-! ### a == b where both sides' classes are of one family, each with an own __eq__ -/
def nfAll (K : PySem.W.Frag) (l : List Addr) : Bool := l.all fun a => l.all fun b => PySem.W.notFirst K a (.ref b)
theorem nfAll.at_ {K : PySem.W.Frag} {l : List Addr} (h : nfAll K l = true) {a b : Addr} (ha : a ∈ l) (hb : b ∈ l) : PySem.W.notFirst K a (.ref b) = true :=
  List.all_eq_true.mp (List.all_eq_true.mp h a ha) b hb
structure EqD (X : Cx) (D : Addr → SpT → Prop) : Prop where
  at_ : ∀ C sp, D C sp → ∃ k f fd ps, EqO X.K C f ∧ FnT X.prog X.w X.K X.mg X.base k f fd ps sp ∧ Room (k + 1) X.A ∧ Binds X.K fd ps []
theorem EqD.one {X : Cx} {C f : Addr} {k : Nat} {fd : FuncData} {ps : List Str} {sp : SpT} (o : EqO X.K C f) (F : FnT X.prog X.w X.K X.mg X.base k f fd ps sp) (hr : Room (k + 1) X.A) (hb : Binds X.K fd ps []) : EqD X (one C sp) := ⟨fun C' sp' ⟨e1, e2⟩ => by
  subst e1 e2
  exact ⟨k, f, fd, ps, o, F, hr, hb⟩⟩
theorem EqD.or {X : Cx} {D1 D2 : Addr → SpT → Prop} (h1 : EqD X D1) (h2 : EqD X D2) : EqD X (fun C sp => D1 C sp ∨ D2 C sp) := ⟨fun C sp d => d.elim (h1.at_ C sp) (h2.at_ C sp)⟩
def kEqOwnD (K : PySem.W.Frag) (D : Addr → SpT → Prop) (l : List Addr) : KB := fun x y S R RE => ∃ C gs sp C' gs', insOf x S = some (C, gs) ∧ insOf y S = some (C', gs') ∧ D C sp ∧ C ∈ l ∧ C' ∈ l ∧ sp [x, y] S (fun z S' => ∃ c, z = .bl c ∧ R (.bl c) S') RE
section
variable {X : Cx} {E : XK} {D : Addr → SpT → Prop} {l : List Addr}
def kNeOwnD (K : PySem.W.Frag) (D : Addr → SpT → Prop) (l : List Addr) : KB := fun x y S R RE => ∃ C gs sp C' gs', insOf x S = some (C, gs) ∧ insOf y S = some (C', gs') ∧ D C sp ∧ C ∈ l ∧ C' ∈ l ∧ sp [x, y] S (fun z S' => ∃ c, z = .bl c ∧ R (.bl (!c)) S') RE
end

/-! for i, x in enumerate(tuple) -/
namespace EnT
open PySem
section
variable {prog : Program} {w : World} {A : Around} {E : Value → Shared → Prop} {s : Shared}
end
end EnT
/-- the tuple at a, each item in a new pair -/
def IteT (K : PySem.W.Frag) (a : Addr) : It :=
  ⟨fun i H => ∃ (xs : List V) (x : V), SqT K H a xs ∧ xs[i]? = some x, fun i H v H' => ∃ T x, v = .ref T ∧ H T = none ∧ H' = upd H T (.tup [.int (i : Nat), x]) ∧ ∀ xs, SqT K H a xs → xs[i]? = some x, fun i H => ∃ xs : List V, SqT K H a xs ∧ xs.length ≤ i⟩
def iEnumV (K : PySem.W.Frag) (ta : TA) : TI := fun σ H R => ta σ H fun vs H1 => ∃ a xs, vs = [.ref a] ∧ SqT K H1 a xs ∧ R (IteT K a) H1
def enumT (ts : List T) : List T := ts.zipIdx.map fun p => T.tup [.int (p.2 : Nat), p.1]
def iEnumT (t : TRA) : TRI := fun σ S R RE => t σ S (fun xs S1 => ∃ ts, xs = [.tup ts] ∧ R (enumT ts) S1) RE
/-! a == b, a != b where the left side's type is built in and declines, and the right side's class has an own __eq__ -/
namespace Refl
open PySem PySem.Calls PyProof.Rows PySem.SeqAt
section
variable {prog : Program} {w : World} {A : Around} {E : Value → Shared → Prop} {s : Shared} {l x : Addr}
end

section
variable {prog : Program} {w : World} {A : Around} {E : Value → Shared → Prop} {s : Shared} {K : PySem.W.Frag} {x C f dx : Addr} {ox : Obj} {od : Option Obj} {v : Value} {T : String}
end
/-! who declines -/
section
variable {prog : Program} {w : World} {A : Around} {E : Value → Shared → Prop} {s : Shared} {x C dx l : Addr} {Q : Option Value → Shared → Prop}
end
end Refl

/-! ### a == b, a != b where one of the two is of a family of classes with own __eq__, the other of the family or of a built-in type -/
def tysR : List String := ["NoneType", "bool", "int", "str", "list", "tuple", "dict"]
def nfF (K : PySem.W.Frag) (l : List Addr) : Bool := (l.all fun a => l.all fun b => PySem.W.notFirst K a (.ref b)) && l.all fun a => tysR.all fun T => PySem.W.notFirst K a (.type T) && (PySem.W.subIn K (.ref a) (.type T) == some false) && (PySem.W.mroIn K a (.type T) == some false)
def InFam (l : List Addr) (tb : Value) : Prop := (∃ C, tb = .ref C ∧ C ∈ l) ∨ ∃ T, tb = .type T ∧ T ∈ tysR
theorem nfF.first {K : PySem.W.Frag} {l : List Addr} {a : Addr} {tb : Value} (h : nfF K l = true) (ha : a ∈ l) (hb : InFam l tb) : PySem.W.notFirst K a tb = true := by
  obtain ⟨h1, h2⟩ := Bool.and_eq_true_iff.mp h
  rcases hb with ⟨b, rfl, hb⟩ | ⟨T, rfl, hT⟩
  · exact List.all_eq_true.mp (List.all_eq_true.mp h1 a ha) b hb
  · exact (Bool.and_eq_true_iff.mp (Bool.and_eq_true_iff.mp (List.all_eq_true.mp (List.all_eq_true.mp h2 a ha) T hT)).1).1
theorem nfF.ty {K : PySem.W.Frag} {l : List Addr} {a : Addr} {T : String} (h : nfF K l = true) (ha : a ∈ l) (hT : T ∈ tysR) : PySem.W.subIn K (.ref a) (.type T) = some false ∧ PySem.W.mroIn K a (.type T) = some false := by
  obtain ⟨h1, h2⟩ := Bool.and_eq_true_iff.mp h
  have q := Bool.and_eq_true_iff.mp (List.all_eq_true.mp (List.all_eq_true.mp h2 a ha) T hT)
  exact ⟨beq_iff_eq.mp (Bool.and_eq_true_iff.mp q.1).2, beq_iff_eq.mp q.2⟩
def kEqFam (K : PySem.W.Frag) (D : Addr → SpT → Prop) (l : List Addr) (ng : Bool) : KB := fun x y S R RE =>
  (∃ C gs sp tb, insOf x S = some (C, gs) ∧ D C sp ∧ C ∈ l ∧ TyT K S y tb ∧ InFam l tb ∧ sp [x, y] S (fun z S' => ∃ c, z = .bl c ∧ R (.bl (ng ^^ c)) S') RE) ∨
  (∃ C gs sp T, insOf y S = some (C, gs) ∧ D C sp ∧ C ∈ l ∧ TyT K S x (.type T) ∧ T ∈ tysR ∧ sp [y, x] S (fun z S' => ∃ c, z = .bl c ∧ R (.bl (ng ^^ c)) S') RE)
section
variable {X : Cx} {E : XK} {D : Addr → SpT → Prop} {l : List Addr}
/-! ### an empty dict -/
def rDct : TR := fun _ S R _ => R .dct S
theorem et_dct {pos : Pos} : ET X E (.Dict [] [] pos) rDct := ⟨pe_weak pe_dnewK fun sl H Q h => by
  obtain ⟨Z, σ, S, R, RE, fr, ok, w, po, xo⟩ := h.ex
  exact fun p hp => po _ S _ _ w (le_new hp) (ok.new hp) (.dct upd_same ⟨ok.free hp, ok.nz hp⟩)⟩
end
/-! ### defs with self and *args -/
section
variable {P : Program} {w : World} {K : PySem.W.Frag} {mg : Str → Option Value} {base : Heap} {k : Nat} {f : Addr} {fd : FuncData} {sp : SpT}
end
section
variable {X : Cx} {E : XK} {k : Nat} {f C : Addr} {sp : SpT} {x : Str} {p pos : Pos} {e : Expr} {es : List Expr} {t : TRA}
end
/-! ### int(bool), int(int) -/
def kInt1 : KA := fun xs S R _ => match xs with
  | [.int i] => R (.int i) S
  | [.bl b] => R (.int (if b then 1 else 0)) S
  | _ => False
/-! ### C(*xs) -/
section
variable {X : Cx} {E : XK} {k : Nat} {f C : Addr} {sp : SpT} {x : Str} {p p2 pos : Pos} {e a b : Expr} {ra rb : TR}
def rMakeStar (C : Addr) (sp : SpT) (ra : TR) : TR := fun σ S R RE => ra σ S (fun y S1 => ∃ ts, seqOf y = some ts ∧ ∀ u, S1 u = none → sp (.cell u :: ts) (S1.put u (.ins C [])) (fun z S2 => z = .non ∧ ∃ gs, S2 u = some (.ins C gs) ∧ R (.ins C gs) (S2.drop u)) RE) RE
/-! ### t + u, empty ones too -/
def kAddT : KB := fun x y S R _ => ∃ a b, x = .tup a ∧ y = .tup b ∧ a.length + b.length ≤ sizeLine ∧ R (.tup (a ++ b)) S
/-! ### data in a list of data -/
def kInD (ng : Bool) : KB := fun x y S R _ => ∃ d ds, x.dat = some d ∧ y.dat = some (.list ds) ∧ SeqAt.shaped d = true ∧ SeqAt.shaped (.list ds) = true ∧ R (.bl (ng ^^ ds.any fun z => PyData.eqv z d)) S
end
/-! ### x in (a, b, ..), all of a family of classes with own __eq__, whose fields are flat -/
def flatF (gs : List (Str × T)) : Bool := gs.all fun p => flatT p.2
section
variable {K : PySem.W.Frag} {Z : Addr → Prop} {S : Store} {H : Hp}
end
def inFamL (D : Addr → SpT → Prop) (l : List Addr) (x : T) (R : Bool → Store → Prop) (RE : XT) : List T → Store → Prop
  | [], S => R false S
  | y :: ys, S => ∃ C gs sp, y = .ins C gs ∧ flatF gs = true ∧ (y = x → R true S) ∧ D C sp ∧ C ∈ l ∧ sp [y, x] S (fun z S' => ∃ c, z = .bl c ∧ if c = true then R true S' else inFamL D l x R RE ys S') RE
def kInFam (D : Addr → SpT → Prop) (l : List Addr) : KB := fun x y S R RE => ∃ ls C' gx, y = .tup ls ∧ x = .ins C' gx ∧ flatF gx = true ∧ C' ∈ l ∧ inFamL D l x (fun b S' => R (.bl b) S') RE ls S
section
variable {X : Cx} {E : XK} {D : Addr → SpT → Prop} {l : List Addr}
end
/-! ### o[i] by the class's own __getitem__ -/
structure GetO (K : PySem.W.Frag) (C f : Addr) : Prop where
  at_ : PySem.W.findIn K (.ref C) "__getitem__" = some (some (.ref f))
  fn : PySem.W.isFn K (.ref f) = true
  fi : PySem.W.fnIn K f = true
def kIxOwn (C : Addr) (sp : SpT) : KB := fun x y S R RE => (∃ gs, insOf x S = some (C, gs)) ∧ sp [x, y] S R RE
section
variable {X : Cx} {E : XK} {C f : Addr} {fd : FuncData} {k : Nat} {ps : List Str} {sp : SpT} {a b : Expr} {pos : Pos} {ra rb : TR}
end
/-! ### C.f(..), f a static def of the class -/
structure StF (K : PySem.W.Frag) (C f : Addr) (m : Str) : Prop where
  ex : ∃ q rest, PySem.W.findCls K (.ref C) (.type "type") m = some (.get (.builtin "staticmethod.__get__") (.ref q) .none (.ref C)) ∧ PySem.W.recIn K q "staticmethod" = some (.ref f :: rest)
section
variable {X : Cx} {E : XK} {k : Nat} {f C : Addr} {fd : FuncData} {ps : List Str} {sp : SpT} {dts : List T} {x m : Str} {p pos apos : Pos} {e : Expr} {es : List Expr} {t : TRA}
end

/-! t * 1 -/
namespace Mul1
open PySem PySem.Spec PyProof.Rows
set_option maxHeartbeats 4000000 in
def rRep1 (K : PySem.W.Frag) : L2.R2 := fun x y H Q => ∃ l xs, x = .ref l ∧ y = .int 1 ∧ L2.SqT K H l xs ∧ Q (.ref l) H
end Mul1
/-! ### len(o) by the class's own __len__ -/
def RLenOwn (K : PySem.W.Frag) (C : Addr) (sp : SpT) : List V → Hp → VK → Prop := fun vs H Q => ∃ a dx fs, vs = [.ref a] ∧ H a = some (.ins C dx fs) ∧ UpF K sp [.ref a] H (fun v H' => ∃ i, v = .int i ∧ 0 ≤ i ∧ i < 2 ^ 63 ∧ Q (.int i) H') EF
def kLenOwn (C : Addr) (sp : SpT) : KA := fun xs S R _ => ∃ x gs, xs = [x] ∧ insOf x S = some (C, gs) ∧ sp [x] S (fun z S' => ∃ i, z = .int i ∧ 0 ≤ i ∧ i < 2 ^ 63 ∧ R z S') XF
section
variable {X : Cx} {E : XK} {C f : Addr} {fd : FuncData} {k : Nat} {ps : List Str} {sp : SpT}
/-! ### sep.join(texts) -/
def rJoin (ra rb : TR) : TR := fun σ S R RE => ra σ S (fun x S1 => ∃ a, x = .str a ∧ rb σ S1 (fun y S2 => ∃ ys : List Str, seqOf y = some (ys.map T.str) ∧ (ys.map (·.length)).sum + ys.length * a.length ≤ 16777216 ∧ R (.str (Txt.join a ys)) S2) RE) RE
/-! ### t * k, t not empty, k > 0 -/
def kMulT : KB := fun x y S R _ => ∃ a k, x = .tup a ∧ y = .int k ∧ a ≠ [] ∧ 1 ≤ k ∧ k ≤ 1000 ∧ a.length ≤ 1000 ∧ R (.tup (List.replicate k.toNat a).flatten) S
end
/-! ### [.. for a, b in ..] -/
def prF (σ : Fm) (i j : Nat) : T → Fm
  | .tup [a, b] => (σ.set i (some a)).set j (some b)
  | _ => σ
def rLcP (ri : TRI) (i j : Nat) (tt : TRB) (re : TR) : TR := fun σ S R RE => ri σ S (fun ts S1 => (∀ t ∈ ts, ∃ a b, t = .tup [a, b]) ∧ rComp (prF σ i j) tt re ts [] S1 (fun ys S2 => R (.lst ys) S2)) RE
def gPair (K : PySem.W.Frag) (i j : Nat) : TG := gTup K 2 (gCons (gName i) (gCons (gName j) gNil))
/-! zip(tuple, list) -/
namespace ZipM
open PySem
section
variable {prog : Program} {w : World} {A : Around} {E : Value → Shared → Prop} {s : Shared}
end
abbrev mH1 (h : Heap) (l1 : Addr) : Heap := h.push { cls := .type "tuple_iterator", data := .fields #[.ref l1, .int 0 0] }
abbrev mH2 (h : Heap) (l1 l2 : Addr) : Heap := (mH1 h l1).push { cls := .type "list_iterator", data := .fields #[.ref l2, .int 0 0] }
abbrev mH3 (h : Heap) (l1 l2 : Addr) : Heap := (mH2 h l1 l2).push { cls := .type "tuple", data := .seq #[.ref h.objs.size, .ref (mH1 h l1).objs.size] }
abbrev mH4 (h : Heap) (l1 l2 : Addr) : Heap := (mH3 h l1 l2).push { cls := .type "tuple", data := .seq #[.none, .none] }
abbrev mH5 (h : Heap) (l1 l2 : Addr) : Heap := (mH4 h l1 l2).push { cls := .type "zip", data := .fields #[.none, .bool false, .bool false, .ref (mH2 h l1 l2).objs.size, .ref (mH3 h l1 l2).objs.size] }
section
variable {prog : Program} {w : World} {A : Around} {E : Value → Shared → Prop} {s : Shared}
end
end ZipM
/-- the tuple at a and the list at b as they stand at each turn, the items in new pairs -/
def ItzM (K : PySem.W.Frag) (a b : Addr) : It :=
  ⟨fun i H => ∃ (xs ys : List V) (x y : V), SqT K H a xs ∧ SqL K H b ys ∧ xs[i]? = some x ∧ ys[i]? = some y,
    fun i H v H' => ∃ T x y, v = .ref T ∧ H T = none ∧ H' = upd H T (.tup [x, y]) ∧ (∀ xs, SqT K H a xs → xs[i]? = some x) ∧ ∀ ys, SqL K H b ys → ys[i]? = some y,
    fun i H => ∃ xs ys : List V, SqT K H a xs ∧ SqL K H b ys ∧ (xs.length ≤ i ∨ ys.length ≤ i)⟩
def iZipV (K : PySem.W.Frag) (ta : TA) : TI := fun σ H R => ta σ H fun vs H1 => ∃ a b xs ys, vs = [.ref a, .ref b] ∧ SqT K H1 a xs ∧ SqL K H1 b ys ∧ R (ItzM K a b) H1
def zipT : List T → List T → List T
  | a :: as, b :: bs => .tup [a, b] :: zipT as bs
  | _, _ => []
def iZipM (t : TRA) : TRI := fun σ S R RE => t σ S (fun xs S1 => ∃ ts us y, xs = [.tup ts, y] ∧ ((y = .lst us) ∨ y = .scr us) ∧ R (zipT ts us) S1) RE
/-! ### C.m(..), m a classmethod; cls(..), cls a local that holds the class -/
section
variable {X : Cx} {E : XK} {k i : Nat} {f C g p0 : Addr} {fd : FuncData} {ps : List Str} {sp : SpT} {dts : List T} {x m : Str} {p p2 pos apos : Pos} {e o : Expr} {es : List Expr} {t : TRA} {ra : TR}
def rCMeth (C : Addr) (sp : SpT) (t : TRA) : TR := fun σ S R RE => t σ S (fun xs S1 => sp (.st C :: xs) S1 R RE) RE
theorem et_cmeth {pl : Sem Bool} (r : ClX.CRead X.K C (.type "type")) (c : ClX.CMet X.K C (.type "type") m p0 g) (F : FnT X.prog X.w X.K X.mg X.base k g fd ps sp) (hb : Binds X.K fd ps []) (hr : Room k X.A) (gds : X.A.guards = some []) (hx : Passes (L2N.CX X.prog X.w) X E)
    (hg : Gl X x) (hm : X.mg x = some (.ref C)) (ha : AT X E (e :: es) t) (hd : (x == ("__debug__" : Str)) = false := by decide)
    (hst : starEach (e :: es) X.env = (false, eval e X.env) :: starEach es X.env := by rfl) (hpl : (backTo pos (starEach es X.env)).any (·.1) = false := by rfl)
    (ht : eval (.Call (.Attribute (.Name x p) m apos) (e :: es) [] pos) X.env = (do
      let ov ← eval (.Name x p) X.env
      standAt apos.atName
      let (f, first) ← holding [ov] (getMethod ov m pl)
      callWith pos f first (backTo pos (starEach (e :: es) X.env)) (backToKw pos (keywordEach [] X.env))) := by rfl) :
    ET X E (.Call (.Attribute (.Name x p) m apos) (e :: es) [] pos) (rCMeth C sp t) := by
  refine ⟨⟨fun pins s sl H Q I h => ?_⟩⟩
  obtain ⟨Z, σ, S, R, RE, fr, ok, w, po, xo⟩ := h.ex
  refine PySem.W.methodCall_KW (pl := pl) (thn ((pe_glob (pos := p) (v := .ref C) hg hm rfl hd).run pins s sl H (fun v H1 => v = .ref C ∧ H1 = H) I ⟨rfl, rfl⟩) fun u s1 hu => ?_) ht
  obtain ⟨v, H1, I1, rv, rfl, rfl⟩ := hu
  obtain rfl : u = Value.ref C := rv
  refine ClX.getmethcm_ok I1 r c fun s2 I2 => ?_
  refine ClX.callwith_cm I2 (ClX.base_none I1 (Nat.le_refl _)) c.fi (thn (ha.pa.run pos _ s2 sl H1 (fun vs H2 => ∃ xs S2, _ ∧ Le S H1 S2 H2 ∧ Ok X.K Z S2 H2 ∧ Reps X.K Z S2 H2 vs xs) I2 ⟨Z, σ, S, _, RE, fr, ok, w, fun xs S2 vs H2 k2 l2 o2 r2 => ⟨xs, S2, k2, l2, o2, r2⟩, xo⟩) fun us s3 hu => ?_) hst hpl
  obtain ⟨vs, H2, I3, rv, xs, S2, k2, l2, o2, r2⟩ := hu
  refine ⟨⟨ClX.pin_at I3, I3.kIn⟩, ?_⟩
  have up : UpF X.K sp (.ref C :: vs) H2 Q E := ⟨Z, _, S2, R, RE, .cons (.st C) r2, o2, k2, po.le l2, xo.le l2⟩
  have vv : Vals (V.ref C :: vs) ((Value.ref C :: us) ++ []) := by rw [List.append_nil]; exact .cons rfl rv
  have z : wpAny (model X.prog X.w) X.A (call (.ref s1.heap.objs.size) us) (EP X ((s1.heap.objs.size, PySem.W.methodObj (.ref g) (.ref C)) :: pins) sl Q) X.xe s3 := by
    refine wpAny_call (PySem.W.method_call (ClX.pin_at I3) ?_)
    refine codeAny_mono (F.fn.go X.A X.stack s3 H2 ⟨Value.ref C :: us, []⟩ ((Value.ref C :: us) ++ []) (V.ref C :: vs) Q E gds hr I3.env0 (hb s3 (.ref C :: us) I3.kIn (vv.length.symm.trans (F.fn.len _ _ _ _ up))) vv up) fun r s' got => ?_
    cases r with
    | error er => exact hx _ sl H2 s3 er s' I3 got
    | ok fl =>
      cases fl with
      | ret u => exact I3.after got
      | next => exact got.elim
      | brk => exact got.elim
      | cont => exact got.elim
  exact thn z fun _ _ y => ClX.unpinE y
/-- cls(*xs) -/
def rClsStar (i : Nat) (C : Addr) (sp : SpT) (ra : TR) : TR := fun σ S R RE => σ[i]? = some (some (.st C)) ∧ rMakeStar C sp ra σ S R RE
end

/-! x in a list, element by element; at each turn the list is read anew -/
namespace InLst
open PySem PySem.SeqAt MeetsSeq MeetsSeq2 MeetsSeq3 SeqRoads2 PyProof.Rows
section
variable {prog : Program} {w : World} {A : Around} {R : Result → Shared → Prop}
def Turns (prog : Program) (w : World) (A : Around) (R : Result → Shared → Prop) (l : Addr) (x : Value) (N : Nat) (I : Nat → Shared → Prop) : Prop :=
  ∀ i s, I i s → ∃ (items : Array Value) (n : Nat), s.heap.get? l = some { cls := .type "list", data := .seq items n } ∧ items.size = N ∧
    ∀ h : i < items.size, wpAny (model prog w) A.in1 (eqBool items[i] x) (fun r s' => if r = true then R (.ok (.ret (.bool true))) s' else I (i + 1) s') (fun e s' => R (.error e) s') s
theorem loop (l : Addr) (x : Value) (N : Nat) (I : Nat → Shared → Prop) (hl : Turns prog w A R l x N I) (fin : ∀ s, I N s → R (.ok (.ret (.bool false))) s) (k : Nat) :
    ∀ i : Nat, N - i = k → i ≤ N → ∀ s, I i s → wpAny (model prog w) A.in1 (Builtin.«list.__contains__.loop» ⟨[.ref l, x, rawInt i], []⟩) (GQ.FinOf prog w A R) (fun e s' => R (.error e) s') s := by
  induction k with
  | zero =>
    intro i hk hi s h
    obtain ⟨items, n, h1, hs, _⟩ := hl _ _ h
    have ei : i = N := by omega
    have hR : R (.ok (.ret (.bool false))) s := fin s (ei ▸ h)
    obtain ⟨hp, g, d, tk, os⟩ := s
    wp_walk using PySem.AutoSeq1.wpAny_loadPart' h1
    have hn : items[((i : Nat) : Int).toNat]? = none := by simp; omega
    rw [hn]
    wp_walk
    exact hR
  | succ k ih =>
    intro i hk hi s h
    obtain ⟨items, n, h1, hs, turn⟩ := hl _ _ h
    have hlt : i < items.size := by omega
    have ht := turn hlt
    obtain ⟨hp, g, d, tk, os⟩ := s
    wp_walk using PySem.AutoSeq1.wpAny_loadPart' h1
    have hn : items[((i : Nat) : Int).toNat]? = some items[i] := by simp [hlt]
    rw [hn]
    refine wpAny_bind (wpAny_mono ht (fun r s2 h2 => ?_) fun _ _ q => q)
    cases r with
    | true =>
      rw [if_pos rfl] at h2
      obtain ⟨hp2, g2, d2, tk2, os2⟩ := s2
      wp_walk
      exact h2
    | false =>
      rw [if_neg Bool.false_ne_true] at h2
      have hrec := ih (i + 1) (by omega) (by omega) s2 h2
      have hc : ((i : Int) + 1) = ((i + 1 : Nat) : Int) := by omega
      obtain ⟨hp2, g2, d2, tk2, os2⟩ := s2
      wp_walk
      rw [hc]
      exact ⟨plainId_quiet plain_contains_loop _, codeAny_builtin entry_contains_loop (by
        rw [Around.under_plainId plain_contains_loop _]
        exact hrec)⟩
theorem body (l : Addr) (x : Value) (N : Nat) (I : Nat → Shared → Prop) (hl : Turns prog w A R l x N I) (fin : ∀ s, I N s → R (.ok (.ret (.bool false))) s) {s : Shared} (h : I 0 s) :
    wpAny (model prog w) A.in1 (Builtin.«list.__contains__» ⟨[.ref l, x], []⟩) (GQ.FinOf prog w A R) (fun e s' => R (.error e) s') s := by
  have hrec := loop (A := A) (R := R) l x N I hl fin _ 0 rfl (Nat.zero_le _) s h
  obtain ⟨hp, g, d, tk, os⟩ := s
  wp_walk
  exact ⟨plainId_quiet plain_contains_loop _, codeAny_builtin entry_contains_loop (by
    rw [Around.under_plainId plain_contains_loop _]
    exact hrec)⟩
end
section
variable {prog : Program} {w : World} {A : Around} {E : Value → Shared → Prop} {s : Shared} {l : Addr} {x : Value}
theorem has {N : Nat} {Q : Bool → Shared → Prop} (I : Nat → Shared → Prop) (hl : Turns prog w A (wants (fun r s' => ∃ b, r = .bool b ∧ Q b s') E) l x N I) (fin : ∀ s, I N s → Q false s) (h : I 0 s) : wpAny (model prog w) A (contains (.ref l) x) Q E s := by
  obtain ⟨items, n, h1, _, _⟩ := hl _ _ h
  have hT : s.TypeIs (.ref l) "list" := ⟨_, h1, rfl⟩
  unfold contains
  refine wpAny_holding ?_
  refine wpAny_bind (wpAny_specialOf hT slot_list_contains.lookup ?_)
  rw [if_neg (by decide)]
  refine wpAny_bind (wpAny_callSpecialUnlessNone?_slot (name := Str.ofString "__contains__") hT slot_list_contains ?_)
  refine wpAny_mono (GQ.call_here (Q := fun r s' => ∃ b, r = .bool b ∧ Q b s') slot_list_contains hT entry_list_contains (args_list_contains _ _) ?_) (fun r s' ⟨b, e, q⟩ => ?_) fun _ _ q => q
  · exact body (R := wants (fun r s' => ∃ b, r = .bool b ∧ Q b s') E) l x N I hl (fun s q => ⟨false, rfl, fin s q⟩) h
  · subst e
    exact wpAny_truthy_bool q
end
end InLst
/-! ### None in a list of instances of a family with own __eq__ -/
def nonL (D : Addr → SpT → Prop) (l : List Addr) (R : Bool → Store → Prop) (RE : XT) : List T → Store → Prop
  | [], S => R false S
  | y :: ys, S => ∃ C gs sp, y = .ins C gs ∧ D C sp ∧ C ∈ l ∧ sp [y, .non] S (fun z S' => ∃ c, z = .bl c ∧ if c = true then R true S' else nonL D l R RE ys S') RE
def kNonIn (D : Addr → SpT → Prop) (l : List Addr) : KB := fun x y S R RE => ∃ ls, x = .non ∧ y = .lst ls ∧ nonL D l (fun b S' => R (.bl b) S') RE ls S
section
variable {X : Cx} {E : XK} {D : Addr → SpT → Prop} {l : List Addr}
end

section
variable {X : Cx} {E : XK} {k i : Nat} {f C : Addr} {fd : FuncData} {ps : List Str} {sp : SpT} {dts : List T} {x : Str} {p pos : Pos} {e : Expr} {es : List Expr} {t : TRA}
/-- cls(a, ..) -/
def rClsMake (i : Nat) (C : Addr) (sp : SpT) (dts : List T) (t : TRA) : TR := fun σ S R RE => σ[i]? = some (some (.st C)) ∧ rMake C sp dts t σ S R RE
theorem et_clsMake (M : Mk X.K C f) (F : FnT X.prog X.w X.K X.mg X.base k f fd ps sp) (gds : X.A.guards = some []) (hr : Room (k + 1) X.A) (hN : X.N[i]? = some x) (hv : Vis X.env.scope x) (cd : CallD X.K fd ps dts) (hx : Passes (L2N.CX X.prog X.w) X E)
    (ha : AT X E (e :: es) t) (hdb : (x == ("__debug__" : Str)) = false := by decide) (hcd : (x == ("__classdict__" : Str)) = false := by decide) (he : starEach (e :: es) X.env = (false, eval e X.env) :: starEach es X.env := by rfl) (hpl : (backTo pos (starEach es X.env)).any (·.1) = false := by rfl) :
    ET X E (.Call (.Name x p) (e :: es) [] pos) (rClsMake i C sp dts t) := by
  refine ⟨⟨fun pins s sl H Q I h => ?_⟩⟩
  obtain ⟨Z, σ, S, R, RE, fr, ok, ⟨hi, w⟩, po, xo⟩ := h.ex
  obtain ⟨ds, dvs, hb, hd, hdt⟩ := cd.ex
  obtain ⟨v0, hv0, rep0⟩ : ∃ v, sl[i]? = some (some v) ∧ Rep X.K Z S H v (.st C) := fr.get hi
  cases rep0
  refine wpAny_Call_Name_kw (thn ((pe_var (pos := p) hN hv hdb hcd).run pins s sl H (fun v H1 => v = .ref C ∧ H1 = H) I ⟨.ref C, hv0, rfl, rfl⟩) fun u s0 ⟨v, H0, I0, r0, q0⟩ => ?_)
  obtain ⟨rfl, rfl⟩ := q0
  cases r0
  refine PySem.W.callWith_K (h₀ := X.base) I.ok.mod.kin M.kp (thn (ha.pa.run pos pins s0 sl H0 (fun vs H1 => ∃ xs S1, (∀ u, S1 u = none → sp (.cell u :: (xs ++ dts)) (S1.put u (.ins C [])) (fun z S2 => z = .non ∧ ∃ gs, S2 u = some (.ins C gs) ∧ R (.ins C gs) (S2.drop u)) RE) ∧ Le S H0 S1 H1 ∧ Ok X.K Z S1 H1 ∧ Reps X.K Z S1 H1 vs xs) I0
    ⟨Z, σ, S, _, RE, fr, ok, w, fun xs S1 vs H1 k1 l1 o1 r1 => ⟨xs, S1, k1, l1, o1, r1⟩, xo⟩) fun us s1 hu => ?_) he hpl
  obtain ⟨vs, H1, I1, rv, xs, S1, k1, l1, o1, r1⟩ := hu
  refine ⟨I1.kIn, ?_⟩
  exact make_t (us := us) (kw := []) (all := fun u => (Value.ref u :: us) ++ ds) (vsA := fun u => .ref u :: (vs ++ dvs)) (G := fun u => .cell u :: (xs ++ dts)) M F gds hr hx I1 (fun s' u hK hl => hb s' (.ref u :: us) hK hl) (fun u => .cons rfl (rv.append hd)) o1
    (fun u S' H' l => cell_reps ((r1.le l).append (hdt _ _ _))) k1 (po.le l1) (xo.le l1)
end
set_option maxHeartbeats 2000000
/-! bool(o) where o's class has a __len__ and no __bool__ -/
namespace TruO
open PySem PySem.Calls PySem.Sem PyProof.Rows Builtin PySem.W
section
variable {prog : Program} {w : World} {A : Around} {E : Value → Shared → Prop} {s : Shared} {K : Frag} {x C L f : Addr} {h₀ : Heap} {m : Str → Option Value} {ox : Obj} {od : Option Obj}
end
end TruO
/-! ### bool(o) by the class's own __len__ -/
def RBoolOwn (K : PySem.W.Frag) (C : Addr) (sp : SpT) : List V → Hp → VK → Prop := fun vs H Q => ∃ a dx fs, vs = [.ref a] ∧ H a = some (.ins C dx fs) ∧ UpF K sp [.ref a] H (fun v H' => ∃ i, v = .int i ∧ 0 ≤ i ∧ i < 2 ^ 63 ∧ Q (.bl (i != 0)) H') EF
def kBoolOwn (C : Addr) (sp : SpT) : KA := fun xs S R _ => ∃ x gs, xs = [x] ∧ insOf x S = some (C, gs) ∧ sp [x] S (fun z S' => ∃ i, z = .int i ∧ 0 ≤ i ∧ i < 2 ^ 63 ∧ R (.bl (i != 0)) S') XF
section
variable {X : Cx} {E : XK} {C f : Addr} {fd : FuncData} {k : Nat} {ps : List Str} {sp : SpT}
end

/-! list(zip(tuple, list)) -/
namespace ZipL
open PySem PySem.Spec PyProof.Rows
section
variable {prog : Program} {w : World} {A : Around} {E : Value → Shared → Prop} {s : Shared}
end
/-- how the zip stands at turn i; S: the list that is filled -/
def Zst (z TI TO i1 i2 a b S : Addr) (i : Nat) (h : Heap) : Prop :=
  IsPair h TI (.ref i1) (.ref i2) ∧ h.IsTupleIter i1 a i ∧ h.IsListIter i2 b i ∧ (∃ o, h.get? TO = some o) ∧
    ((IsZip h z TI TO .none ∧ ∃ x y, IsPair h TO x y) ∨ ∃ T f oT, IsZipHeld h z TI TO T f ∧ h.get? T = some oT ∧ T ≠ z ∧ T ≠ i1 ∧ T ≠ i2 ∧ T ≠ S)
structure ZOff (z TI TO i1 i2 S : Addr) : Prop where
  z : S ≠ z
  TI : S ≠ TI
  TO : S ≠ TO
  i1 : S ≠ i1
  i2 : S ≠ i2
theorem Zst.keep {z TI TO i1 i2 a b S : Addr} {i : Nat} {h h' : Heap} (O : ZOff z TI TO i1 i2 S) (st : Zst z TI TO i1 i2 a b S i h) (k : ∀ c o, c ≠ S → h.get? c = some o → h'.get? c = some o) : Zst z TI TO i1 i2 a b S i h' := by
  obtain ⟨hTI, h1, h2, ⟨oo, ho⟩, hz⟩ := st
  refine ⟨k _ _ O.TI.symm hTI, h1.at fun o e => k _ o O.i1.symm e, h2.at fun o e => k _ o O.i2.symm e, ⟨oo, k _ _ O.TO.symm ho⟩, ?_⟩
  rcases hz with ⟨hz, x, y, hTO⟩ | ⟨T, f, oT, hz, hT, r1, r2, r3, r4⟩
  · exact .inl ⟨k _ _ O.z.symm hz, x, y, k _ _ O.TO.symm hTO⟩
  · exact .inr ⟨T, f, oT, k _ _ O.z.symm hz, k _ _ r4 hT, r1, r2, r3, r4⟩
end ZipL
open ZipL
section
variable {X : Cx} {pins : List (Addr × Obj)} {σ : L2.St} {z TI TO i1 i2 a b S : Addr} {res : Value} {W : Nat → Nat → Hp → Prop} {Q : V → Hp → Prop}
def WStep (K : PySem.W.Frag) (a b S : Addr) (W : Nat → Nat → Hp → Prop) (Q : V → Hp → Prop) : Prop :=
  ∀ i m H, W i m H → ((ItzM K a b).stop i H ∧ Q (.ref S) H) ∨ ((ItzM K a b).go i H ∧ ∃ Nx : Hp → Prop, (∀ H', Nx H' → ∃ m', m' < m ∧ W (i + 1) m' H') ∧
    ∀ x H', (ItzM K a b).yld i H x H' → ∃ acc, H' S = some (.lst acc) ∧ acc.length < sizeLine ∧ Nx (upd H' S (.lst (acc ++ [x]))))
end
def rLzV (K : PySem.W.Frag) (ta : TA) : TE := fun σ H Q => ta σ H fun vs H1 => ∃ a b, vs = [.ref a, .ref b] ∧ (∃ xs, SqT K H1 a xs) ∧ (∃ ys, SqL K H1 b ys) ∧ ∀ D, H1 D = none → ∃ W : Nat → Nat → Hp → Prop, (∃ m, W 0 m (upd H1 D (.lst []))) ∧ WStep K a b D W Q
def rLz (t : TRA) : TR := fun σ S R RE => t σ S (fun xs S1 => ∃ ts us y, xs = [.tup ts, y] ∧ ((y = .lst us) ∨ y = .scr us) ∧ (zipT ts us).length ≤ sizeLine ∧ R (.lst (zipT ts us)) S1) RE
/-! ### repr of None, a bool, an int, a text, or of data -/
inductive ShV : V → T → Str → Prop where
  | non : ShV .non .non "None"
  | bl (b : Bool) : ShV (.bl b) (.bl b) (if b = true then Str.ofString "True" else Str.ofString "False")
  | int {i : Int} (h : i.natAbs < 2 ^ 1900) : ShV (.int i) (.int i) (toString i : String)
  | str {x : Str} (h : (reprText x).length ≤ 16777216) : ShV (.str x) (.str x) (reprText x)
def RReprA (K : PySem.W.Frag) (xs : List V) (H : Hp) (Q : VK) : Prop := RRepr K xs H Q ∨ ∃ (v : V) (x : T) (t : Str), xs = [v] ∧ ShV v x t ∧ Q (.str t) H
def kReprA : KA := fun xs S R RE => kRepr xs S R RE ∨ ∃ (v : V) (x : T) (t : Str), xs = [x] ∧ ShV v x t ∧ R (.str t) S
/-! (a, ..) == (b, ..), the items instances of a family of classes with own __eq__ -/
namespace TupEq
open PySem PySem.SeqAt
open MeetsSeq MeetsSeq2 MeetsSeq3 SeqRoads2
section
variable {prog : Program} {w : World} {A : Around} {R : Result → Shared → Prop}
theorem body (l b : Addr) (items items2 : Array Value) (n n2 : Nat) (dd dd2 : Option Addr) (sl sl2 : Array (Option Value)) (I : List (Value × Value) → Shared → Prop)
    (turn : ∀ x y rest s, I ((x, y) :: rest) s → wpAny (model prog w) A.in1 (eqBool x y) (fun r s' => if r = true then I rest s' else R (.ok (.ret (.bool false))) s') (fun e s' => R (.error e) s') s)
    (fin : ∀ s, I [] s → R (.ok (.ret (.bool (items.size == items2.size)))) s) {s : Shared} (hl1 : s.heap.get? l = some { cls := .type "tuple", dict := dd, data := .seq items n, slots := sl }) (hb1 : s.heap.get? b = some { cls := .type "tuple", dict := dd2, data := .seq items2 n2, slots := sl2 })
    (h : I (items.toList.zip items2.toList) s) :
    wpAny (model prog w) A.in1 (Builtin.«tuple.__eq__» ⟨[.ref l, .ref b], []⟩) (GQ.FinOf prog w A R) (fun e s' => R (.error e) s') s := by
  have f2 := PySem.AutoSeq1.sub_tuple_tuple
  have h0 := h
  obtain ⟨hp, g, d, tk, os⟩ := s
  wp_walk using PySem.AutoSeq1.wpAny_loadPart' hl1, PySem.AutoSeq1.wpAny_loadPart' hb1, wpAny_forIn_list _ (fun rest b s' => b.1 = none ∧ I rest s') _
  case turn =>
    rintro ⟨y, x⟩ rest b s' ⟨hb', hI⟩
    refine wpAny_bind (wpAny_mono (turn y x rest s' hI) (fun r s2 q2 => ?_) fun _ _ x => x)
    cases r with
    | true =>
      rw [if_pos rfl] at q2
      wp_walk
      exact ⟨rfl, q2⟩
    | false =>
      rw [if_neg Bool.false_ne_true] at q2
      wp_walk
      exact q2
  case fin =>
    rintro ⟨b1, b2⟩ s' ⟨hb', hI⟩
    simp only at hb'
    subst hb'
    have hR : R (.ok (.ret (.bool (items.size == items2.size)))) s' := fin s' hI
    wp_walk
    simpa [Builtin.Tuple.tupleCompareSizes] using hR
  case h =>
    exact ⟨rfl, h0⟩
end
section
variable {prog : Program} {w : World} {A : Around} {E : Value → Shared → Prop} {s : Shared}
theorem rc {l b : Addr} {items items2 : Array Value} {Q : Value → Shared → Prop} (hu : A.units < cLine) (I : List (Value × Value) → Shared → Prop)
    (hl : s.heap.IsTuple l items) (hb : s.heap.IsTuple b items2)
    (turn : ∀ x y rest s, I ((x, y) :: rest) s → wpAny (model prog w) A.in1 (eqBool x y) (fun r s' => if r = true then I rest s' else Q (.bool false) s') E s)
    (fin : ∀ s, I [] s → Q (.bool (items.size == items2.size)) s) (h : I (items.toList.zip items2.toList) s) : wpAny (model prog w) A (richCompare .Eq (.ref l) (.ref b)) Q E s := by
  obtain ⟨⟨cls, dd, data, sl⟩, ho, hc, n, hd⟩ := id hl
  obtain ⟨⟨cls2, dd2, data2, sl2⟩, ho2, hc2, n2, hd2⟩ := id hb
  simp only at hc hd hc2 hd2
  subst hc hd hc2 hd2
  refine wpAny_richCompare_same_room (op := .Eq) ⟨_, ho, rfl⟩ ⟨_, ho2, rfl⟩ F.slot_tuple_eq (GQ.call_here F.slot_tuple_eq ⟨_, ho, rfl⟩ F.entry_tuple_eq (F.args_tuple_eq_2 _ _) ?_) hu
  exact body (R := wants (fun v s' => v ≠ .notImplemented ∧ Q v s') E) l b items items2 n n2 dd dd2 sl sl2 I (fun x y rest s z => wpAny_mono (turn x y rest s z) (fun r s' q => by
    cases r with
    | true => simpa using q
    | false => exact ⟨(fun x => nomatch x), by simpa using q⟩) fun _ _ z => z) (fun s' q => ⟨(fun x => nomatch x), fin s' q⟩) ho ho2 h
end
end TupEq
def eqTupL (D : Addr → SpT → Prop) (l : List Addr) (R : Bool → Store → Prop) (RE : XT) (len : Bool) : List T → List T → Store → Prop
  | x :: xs, y :: ys, S => ∃ C gs sp C' hs, x = .ins C gs ∧ y = .ins C' hs ∧ flatF gs = true ∧ flatF hs = true ∧ D C sp ∧ C ∈ l ∧ C' ∈ l ∧ (x = y → eqTupL D l R RE len xs ys S) ∧
      sp [x, y] S (fun z S' => ∃ c, z = .bl c ∧ if c = true then eqTupL D l R RE len xs ys S' else R false S') RE
  | _, _, S => R len S
def kEqTup (D : Addr → SpT → Prop) (l : List Addr) : KB := fun x y S R RE => ∃ xs ys, x = .tup xs ∧ y = .tup ys ∧ eqTupL D l (fun b S' => R (.bl b) S') RE (xs.length == ys.length) xs ys S
section
variable {X : Cx} {E : XK} {D : Addr → SpT → Prop} {l : List Addr}
end

/-! ### xs[::-1] of a list -/
def rRevL (ra : TR) : TR := fun σ S R RE => ra σ S (fun x S1 => ∃ l, (x = .lst l ∨ x = .scr l) ∧ R (.lst l.reverse) S1) RE
namespace KwM
open PySem PySem.Calls PyProof.Rows PySem.W
theorem callWith_KWM {K : Frag} {M : Model} {A : Around} {E : Value → Shared → Prop} {s : Shared} {env : Env} {pos : Pos} {q g : Addr} {self : Value} {Q : Value → Shared → Prop} {kws : List Keyword} (hf : fnIn K g = true) (hall : (backToKw pos (keywordEach kws env)).all (·.1.isSome) = true)
    (h : wpAny M A (evalAll ((backToKw pos (keywordEach kws env)).map (·.2))) (fun ks s₂ => MethP K q g self s₂.heap ∧ wpAny M A (call (.ref q) ([] ++ []) (((backToKw pos (keywordEach kws env)).filterMap (·.1)).zip ks)) Q E s₂) E s)
    (hplain : ((backTo pos (starEach [] env)).any (·.1) || (backToKw pos (keywordEach kws env)).any (·.1.isNone)) = false := by rfl) :
    wpAny M A (callWith pos (.ref q) [] (backTo pos (starEach [] env)) (backToKw pos (keywordEach kws env))) Q E s :=
  callWith_of hplain (keeps_M hf) (evalArgs_kw2_nil hall h)
end KwM
/-! ### C.m(k=..), m a classmethod -/
section
variable {X : Cx} {E : XK} {k : Nat} {C g p0 : Addr} {fd : FuncData} {ps : List Str} {sp : SpT} {ks : List Str} {gT : List T → List T → List T} {x m : Str} {p pos apos : Pos} {kws : List Keyword} {tk : TRA}
def rCMethK (C : Addr) (sp : SpT) (n : Nat) (gT : List T → List T → List T) (tk : TRA) : TR := fun σ S R RE => tk σ S (fun zs S1 => zs.length = n ∧ sp (gT [.st C] zs) S1 R RE) RE
theorem et_cmethK {pl : Sem Bool} (r : ClX.CRead X.K C (.type "type")) (c : ClX.CMet X.K C (.type "type") m p0 g) (F : FnT X.prog X.w X.K X.mg X.base k g fd ps sp) (cb : CallB X.K fd ps 1 ks gT) (hr : Room k X.A) (gds : X.A.guards = some []) (hx : Passes (L2N.CX X.prog X.w) X E)
    (hg : Gl X x) (hm : X.mg x = some (.ref C)) (hkw : KT X E kws tk) (hd : (x == ("__debug__" : Str)) = false := by decide)
    (hall : (backToKw pos (keywordEach kws X.env)).all (·.1.isSome) = true := by rfl) (hks : (backToKw pos (keywordEach kws X.env)).filterMap (·.1) = ks := by rfl)
    (hpl : ((backTo pos (starEach [] X.env)).any (·.1) || (backToKw pos (keywordEach kws X.env)).any (·.1.isNone)) = false := by rfl)
    (ht : eval (.Call (.Attribute (.Name x p) m apos) [] kws pos) X.env = (do
      let ov ← eval (.Name x p) X.env
      standAt apos.atName
      let (f, first) ← holding [ov] (getMethod ov m pl)
      callWith pos f first (backTo pos (starEach [] X.env)) (backToKw pos (keywordEach kws X.env))) := by rfl) :
    ET X E (.Call (.Attribute (.Name x p) m apos) [] kws pos) (rCMethK C sp ks.length gT tk) := by
  refine ⟨⟨fun pins s sl H Q I h => ?_⟩⟩
  obtain ⟨Z, σ, S, R, RE, fr, ok, w, po, xo⟩ := h.ex
  obtain ⟨g2, gV, hb, hor⟩ := cb.ex
  refine PySem.W.methodCall_KW (pl := pl) (thn ((pe_glob (pos := p) (v := .ref C) hg hm rfl hd).run pins s sl H (fun v H1 => v = .ref C ∧ H1 = H) I ⟨rfl, rfl⟩) fun u s1 hu => ?_) ht
  obtain ⟨v, H1, I1, rv, rfl, rfl⟩ := hu
  obtain rfl : u = Value.ref C := rv
  refine ClX.getmethcm_ok I1 r c fun s2 I2 => ?_
  refine KwM.callWith_KWM (K := X.K) (g := g) (self := .ref C) c.fi hall ?_ hpl
  refine thn (hkw.pk.run pos _ s2 sl H1 (fun zvs H2 => ∃ zs S2, (zs.length = ks.length ∧ sp (gT [.st C] zs) S2 R RE) ∧ Le S H1 S2 H2 ∧ Ok X.K Z S2 H2 ∧ Reps X.K Z S2 H2 zvs zs) I2 ⟨Z, σ, S, _, RE, fr, ok, w, fun zs S2 zvs H2 k2 l2 o2 r2 => ⟨zs, S2, k2, l2, o2, r2⟩, xo⟩) fun ws s3 hu => ?_
  obtain ⟨zvs, H2, I3, rz, zs, S2, ⟨e2, k2⟩, l2, o2, r2⟩ := hu
  refine ⟨⟨ClX.pin_at I3, I3.kIn⟩, ?_⟩
  rw [hks]
  have lw : ws.length = ks.length := (rz.length.symm.trans r2.length).trans e2
  have up : UpF X.K sp (gV [.ref C] zvs) H2 Q E := ⟨Z, _, S2, R, RE, hor _ _ _ _ _ _ _ (.cons (.st C) .nil) r2, o2, k2, po.le l2, xo.le l2⟩
  have z : wpAny (model X.prog X.w) X.A (call (.ref s1.heap.objs.size) [] (ks.zip ws)) (EP X ((s1.heap.objs.size, PySem.W.methodObj (.ref g) (.ref C)) :: pins) sl Q) X.xe s3 := by
    refine wpAny_call (PySem.W.method_call (ClX.pin_at I3) ?_)
    refine codeAny_mono (F.fn.go X.A X.stack s3 H2 ⟨[.ref C], ks.zip ws⟩ _ (gV [.ref C] zvs) Q E gds hr I3.env0 (hb.to s3 [.ref C] ws I3.kIn rfl lw) (hb.rel (vs := [V.ref C]) (.cons rfl .nil) rz) up) fun r s' got => ?_
    cases r with
    | error er => exact hx _ sl H2 s3 er s' I3 got
    | ok fl =>
      cases fl with
      | ret u => exact I3.after got
      | next => exact got.elim
      | brk => exact got.elim
      | cont => exact got.elim
  exact thn z fun _ _ y => ClX.unpinE y
end

/-! ### an error as a value: C(e) of an error's class -/
section
variable {P : Program} {w : World} {H : Hp} {h : Heap} {b : Addr} {u : HO}
end
section
variable {X : Cx} {pins : List (Addr × Obj)} {σ : L2.St} {H : Hp} {s : Shared}
end
section
variable {X : Cx} {E : XK} {C fI : Addr} {qi : Str}
def tExcV (C : Addr) (ta : TA) : TE := fun σ H Q => ta σ H fun vs H1 => ∃ v, vs = [v] ∧ ∀ p d, H1 p = none → H1 d = none → p ≠ d → Q (.ref p) (upd (upd H1 d (.xd [(("value" : Str), v)])) p (.ext (ExcAt p C d)))
def rExcV (C : Addr) (ra : TR) : TR := fun σ S R RE => ra σ S (fun x S1 => ∃ y, [x] = [y] ∧ R (.exc C [(("value" : Str), y)]) S1) RE
end

/-! e == o, e != o: e an error, which knows of no other; o an instance with its own __eq__ -/
namespace ExcEq
open PySem PySem.Calls PyProof.Rows
section
variable {prog : Program} {w : World} {A : Around} {E : Value → Shared → Prop} {s : Shared} {K : PySem.W.Frag} {x e C Ce f : Addr} {ox oe : Obj} {od ode : Option Obj}
end
end ExcEq
/-- what an error's class says of == and != -/
structure ExcQ (K : PySem.W.Frag) (C : Addr) : Prop where
  eq : PySem.W.findIn K (.ref C) "__eq__" = some (some (.builtin "object.__eq__"))
  ne : PySem.W.findIn K (.ref C) "__ne__" = some (some (.builtin "object.__ne__"))
  mro : PySem.W.mroIn K C (.type "object") = some true
def excL (K : PySem.W.Frag) (l : List Addr) (Ce : Addr) : Bool := l.all fun C => (Ce != C) && (PySem.W.subIn K (.ref C) (.ref Ce) == some false)
theorem excL.at_ {K : PySem.W.Frag} {l : List Addr} {Ce C : Addr} (h : excL K l Ce = true) (m : C ∈ l) : Ce ≠ C ∧ PySem.W.subIn K (.ref C) (.ref Ce) = some false := by
  obtain ⟨h1, h2⟩ := Bool.and_eq_true_iff.mp (List.all_eq_true.mp h C m)
  exact ⟨by simpa using h1, beq_iff_eq.mp h2⟩
/-- one of the two of the family; the other of it, of a built-in type, or an error of the class Ce -/
def kEqFamX (K : PySem.W.Frag) (D : Addr → SpT → Prop) (l : List Addr) (Ce : Addr) (ng : Bool) : KB := fun x y S R RE => kEqFam K D (l ++ [Ce]) ng x y S R RE ∨
  ∃ gx C gs sp, x = .exc Ce gx ∧ insOf y S = some (C, gs) ∧ D C sp ∧ C ∈ l ∧ sp [y, x] S (fun z S' => ∃ c, z = .bl c ∧ R (.bl (ng ^^ c)) S') RE
section
variable {X : Cx} {E : XK} {D : Addr → SpT → Prop} {l : List Addr} {Ce : Addr}
end

/-! ### what is known of error classes, asked as one bool each -/
section
variable {K : PySem.W.Frag}
def evB (K : PySem.W.Frag) (C fI : Addr) : Bool := decide (PySem.W.findIn K (.ref C) "__setattr__" = some (some (.builtin "object.__setattr__"))) && decide (PySem.W.findIn K (.ref C) "__getattribute__" = some (some (.builtin "BaseException.__getattribute__"))) && decide (PySem.W.findIn K (.ref C) "__getattr__" = some none) && decide (PySem.W.findIn K (.ref C) "value" = some none)
  && decide (PySem.W.findIn K (.ref C) "__init__" = some (some (.ref fI))) && decide (PySem.W.typeIn K (.ref fI) = some (.type "function")) && PySem.W.keepIn K (.ref C) && decide (PySem.W.subIn K (.ref C) (.type "BaseException") = some true) && decide (PySem.W.typeIn K (.ref C) = some (.type "type")) && PySem.W.hasDictIn K C
section
open PySem.W PySem.Calls PyProof.Rows PySem.HandSPX
/-- the class object of an error, whatever else it says -/
def ExcObj (K : Frag) (C : Addr) : Prop := ∃ nm q N bs bm sn sub ab col dd k0 k1 k2 k3 k5, K.lookup C = some (excClassObj nm q C N bs bm true sn sub ab col dd k0 k1 k2 k3 k5 "ValueError.__new__") ∧ refsVE bm = true
theorem excObj_of {C : Addr} {nm q : Str} {N : Addr} {bs bm : List Value} {sn : List Str} {sub : List Value} {ab : Bool} {col : Option Bool} {dd : Option Addr} {k0 k1 k2 k3 k5 : Option Value}
    (l : K.lookup C = some (excClassObj nm q C N bs bm true sn sub ab col dd k0 k1 k2 k3 k5 "ValueError.__new__")) (v : refsVE bm = true) : ExcObj K C := ⟨_, _, _, _, _, _, _, _, _, _, _, _, _, _, _, l, v⟩
theorem evTxt_of {C fI : Addr} {qi : Str} {oc doc pm cdv ct : Value} {od an : Option Addr} {osl : Array (Option Value)} {p1 p2 q1 q2 q3 q4 : Pos}
    (l : ExcObj K C) (h : evB K C fI = true)
    (lf : K.lookup fI = some ⟨oc, od, .func (PySem.W.fnOf "__init__" qi (evArgs p1 p2) (evBody q1 q2 q3 q4) evScope .none .none doc pm an cdv ct), osl⟩) (cf : PySem.W.codeIn K cdv qi = true) : EvTxt K C fI qi := by
  unfold evB at h
  simp only [Bool.and_eq_true, decide_eq_true_eq] at h
  obtain ⟨⟨⟨⟨⟨⟨⟨⟨⟨h1, h2⟩, h3⟩, h4⟩, h5⟩, h6⟩, h7⟩, h8⟩, h9⟩, h10⟩ := h
  exact { cls := l, sa := h1, ga := h2, gg := h3, noN := h4, iC := h5, tC := h6, kC := h7, exC := h8, tyC := h9, hdC := h10, fn := ⟨_, _, _, _, _, _, _, _, _, _, _, _, _, _, lf, cf⟩ }
end
def excB (K : PySem.W.Frag) (D : Addr) : Bool := (PySem.W.clsIn K D).isSome && decide (PySem.W.findIn K (.ref D) "__getattribute__" = some (some (.builtin "BaseException.__getattribute__"))) && decide (PySem.W.findIn K (.ref D) "__getattr__" = some none) && decide (PySem.W.subIn K (.ref D) (.type "BaseException") = some true) && PySem.W.hasDictIn K D
  && decide (PySem.W.findIn K (.ref D) "__class__" = some (some (.builtin "object.__class__"))) && decide (PySem.W.specialIn K (.builtin "object.__class__") "__get__" = some (some (.builtin "getset_descriptor.__get__"))) && decide (PySem.W.takesIn K (.builtin "object.__class__") = some true) && decide (PySem.W.mroIn K D (.type "object") = some true)
def excQB (K : PySem.W.Frag) (C : Addr) : Bool := decide (PySem.W.findIn K (.ref C) "__eq__" = some (some (.builtin "object.__eq__"))) && decide (PySem.W.findIn K (.ref C) "__ne__" = some (some (.builtin "object.__ne__"))) && decide (PySem.W.mroIn K C (.type "object") = some true)
end

/-! ### t[::-1] of a pair -/

section
variable {prog : Program} {w : World} {A : Around} {E : Value → Shared → Prop} {s : Shared}
end
structure RRev2 (K : PySem.W.Frag) (x : V) (H : Hp) (Q : VK) : Prop where
  ex : ∃ a v w, x = .ref a ∧ SqT K H a [v, w] ∧ ∀ p, H p = none → Q (.ref p) (upd H p (.tup [w, v]))
def tRev2 (K : PySem.W.Frag) (te : TE) : TE := fun σ H Q => te σ H fun x H1 => RRev2 K x H1 Q
/-- t[::-1] of a pair -/
def rRev2 (ra : TR) : TR := fun σ S R RE => ra σ S (fun x S1 => ∃ a b, x = .tup [a, b] ∧ R (.tup [b, a]) S1) RE
/-! data with empty dicts in it: what repr shows of it -/
mutual
inductive Dq (K : PySem.W.Frag) (H : Hp) : V → PyData → Prop where
  | non : Dq K H .non .none
  | bl (b : Bool) : Dq K H (.bl b) (.bool b)
  | int (i : Int) : Dq K H (.int i) (.int i)
  | str (x : Str) : Dq K H (.str x) (.str x)
  | dic {a : Addr} (h : H a = some (.dK [])) : Dq K H (.ref a) (.dict [])
  | lst {a : Addr} {xs : List V} {ds : List PyData} (h : H a = some (.lst xs)) (t : DqAll K H xs ds) : Dq K H (.ref a) (.list ds)
  | tup {a : Addr} {xs : List V} {ds : List PyData} (h : SqT K H a xs) (t : DqAll K H xs ds) : Dq K H (.ref a) (.tuple ds)
inductive DqAll (K : PySem.W.Frag) (H : Hp) : List V → List PyData → Prop where
  | nil : DqAll K H [] []
  | cons {v : V} {vs : List V} {d : PyData} {ds : List PyData} (h : Dq K H v d) (t : DqAll K H vs ds) : DqAll K H (v :: vs) (d :: ds)
end
section
variable {X : Cx} {pins : List (Addr × Obj)} {sl : L2.St} {H : Hp} {s : Shared}
theorem reads_dic (inv : Inv X pins sl H s) {a : Addr} (h : H a = some (.dK [])) : Reads s.heap (.ref a) (.dict []) [a] := by
  obtain ⟨_, ns, vs, kv, o, es, ep, h1, h2, h3, h4, h5, h6⟩ := (show ObjOk X.prog X.w H s.heap a (.dK []) from inv.hok a _ h)
  cases kv
  have e0 : es.toList = [] := by
    generalize es.toList = l at h5
    cases h5
    rfl
  have := Reads.dict (h := s.heap) (kvs := []) h1 h2.1 h3 (by rw [e0]; exact .nil) (by rw [e0]; exact .nil)
  simpa using this
mutual
theorem Dq.reads (inv : Inv X pins sl H s) (free : H sysModules = none) : ∀ (d : PyData) (v : V) (u : Value), Dq X.K H v d → RelV v u → ∃ as, Reads s.heap u d as ∧ sysModules ∉ as
  | .none, _, _, h, r => by
    cases h
    cases r
    exact ⟨[], .none, List.not_mem_nil⟩
  | .bool b, _, _, h, r => by
    cases h
    cases r
    exact ⟨[], .bool b, List.not_mem_nil⟩
  | .int i, _, _, h, r => by
    cases h
    obtain ⟨t, rfl⟩ := r
    exact ⟨[], .int i t, List.not_mem_nil⟩
  | .str x, _, _, h, r => by
    cases h
    obtain ⟨t, rfl⟩ := r
    exact ⟨[], .str x t, List.not_mem_nil⟩
  | .list ds, _, _, h, r => by
    cases h with
    | lst a b =>
      cases r
      obtain ⟨its, rv, ⟨o, n, ho, hc, _, hd⟩, _⟩ := inv.list (show SqL X.K H _ _ from SqL.of a)
      obtain ⟨as, rd, no⟩ := DqAll.reads inv free ds _ its b rv
      refine ⟨_, .list ho hc hd rd, fun m => ?_⟩
      rcases List.mem_cons.mp m with e | m
      · rw [← e, free] at a
        cases a
      · exact no m
  | .tuple ds, _, _, h, r => by
    cases h with
    | tup a b =>
      cases r
      obtain ⟨its, rv, ⟨o, ho, hc, n, hd⟩, _⟩ := inv.tuple (show SqT X.K H _ _ from a)
      obtain ⟨as, rd, no⟩ := DqAll.reads inv free ds _ its b rv
      exact ⟨_, .tuple ho hc hd rd, no⟩
  | .dict kvs, _, _, h, r => by
    cases h with
    | dic a =>
      cases r
      refine ⟨_, reads_dic inv a, fun m => ?_⟩
      rw [← List.mem_singleton.mp m, free] at a
      cases a
theorem DqAll.reads (inv : Inv X pins sl H s) (free : H sysModules = none) : ∀ (ds : List PyData) (vs : List V) (us : List Value), DqAll X.K H vs ds → Vals vs us → ∃ as, ReadsAll s.heap us ds as ∧ sysModules ∉ as
  | [], _, _, h, r => by
    cases h
    cases r
    exact ⟨[], .nil, List.not_mem_nil⟩
  | d :: ds, _, _, h, r => by
    cases h with
    | cons a b =>
      cases r with
      | cons r1 r2 =>
        obtain ⟨as, rd, no⟩ := Dq.reads inv free d _ _ a r1
        obtain ⟨bs, rds, nos⟩ := DqAll.reads inv free ds _ _ b r2
        exact ⟨_, .cons rd rds, fun m => (List.mem_append.mp m).elim no nos⟩
end
end
/-- short enough -/
structure Sq (k n : Nat) (d : PyData) : Prop where
  sh : d.showable = true
  dp : d.depth ≤ k
  ln : d.shown.length ≤ n
structure SqA (k n : Nat) (ds : List PyData) : Prop where
  sh : PyData.showableAll ds = true
  dp : PyData.depthAll ds ≤ k
  ln : ((PyData.shownAll ds).map (·.length)).sum + 2 * ds.length ≤ n
theorem Sq.up {j k n m : Nat} {d : PyData} (h : Sq j n d) (le2 : j ≤ k) (le : n ≤ m) : Sq k m d := ⟨h.sh, Nat.le_trans h.dp le2, Nat.le_trans h.ln le⟩
theorem SqA.nil {k : Nat} : SqA k 0 [] := ⟨by simp only [PyData.showableAll], by simp only [PyData.depthAll]; omega, by rw [PyData.shownAll_nil]; exact Nat.le_refl _⟩
theorem SqA.cons {k n m : Nat} {d : PyData} {ds : List PyData} (h : Sq k n d) (t : SqA k m ds) : SqA k (n + m + 2) (d :: ds) := by
  refine ⟨by simp only [PyData.showableAll, h.sh, t.sh, Bool.and_self], ?_, ?_⟩
  · have h1 := h.dp
    have h2 := t.dp
    simp only [PyData.depthAll]
    omega
  · have h1 := h.ln
    have h2 := t.ln
    rw [PyData.shownAll_cons]
    simp only [List.map_cons, List.sum_cons, List.length_cons]
    omega
theorem Sq.lst {k n : Nat} {ds : List PyData} (h : SqA k n ds) : Sq (k + 1) (n + 3) (.list ds) := by
  refine ⟨by simp only [PyData.showable, h.sh], ?_, ?_⟩
  · have := h.dp
    simp only [PyData.depth]
    omega
  · have h1 := h.ln
    have h2 := listText_len_le (PyData.shownAll ds)
    rw [PyData.shownAll_length] at h2
    simp only [PyData.shown]
    omega
theorem Sq.tup {k n : Nat} {ds : List PyData} (h : SqA k n ds) : Sq (k + 1) (n + 3) (.tuple ds) := by
  refine ⟨by simp only [PyData.showable, h.sh], ?_, ?_⟩
  · have := h.dp
    simp only [PyData.depth]
    omega
  · have h1 := h.ln
    have h2 := tupleText_len_le (PyData.shownAll ds)
    rw [PyData.shownAll_length] at h2
    simp only [PyData.shown]
    omega
theorem Sq.dic : Sq 1 2 (.dict []) := ⟨by simp only [PyData.showable, PyData.showableKv], by simp only [PyData.depth, PyData.depthKv]; omega, by decide +kernel⟩
theorem Sq.non : Sq 1 10 .none := ⟨by simp only [PyData.showable], by simp only [PyData.depth]; omega, by decide +kernel⟩
theorem Sq.str {x : Str} {n : Nat} (h : (reprText x).length ≤ n) : Sq 1 n (.str x) := ⟨by simp only [PyData.showable], by simp only [PyData.depth]; omega, by rw [PyData.shown_str]; exact h⟩
/-- what repr shows of such data -/
structure RD (K : PySem.W.Frag) (xs : List V) (H : Hp) (Q : VK) : Prop where
  ex : ∃ (v : V) (d : PyData), xs = [v] ∧ Dq K H v d ∧ Sq 64 16777216 d ∧ Q (.str d.shown) H
theorem RD.mono {K : PySem.W.Frag} (xs : List V) (H : Hp) (Q Q' : VK) (imp : ∀ v H', Q v H' → Q' v H') (h : RD K xs H Q) : RD K xs H Q' := by
  obtain ⟨v, d, e, dq, sq, q⟩ := h.ex
  exact ⟨v, d, e, dq, sq, imp _ _ q⟩
theorem reprD {X : Cx} (sys : ∃ o, X.base.get? sysModules = some o) (gds : X.A.guards = some []) (room : X.A.units + 70 < cLine) : CallR X (.builtin "repr") (RD X.K) := by
  intro pins st sl H xs us Q inv vals want
  obtain ⟨v, d, e, dq, sq, q⟩ := want.ex
  subst e
  obtain ⟨u, eu, rel⟩ := vals1 vals
  subst eu
  obtain ⟨ob, hb⟩ := sys
  have free := (inv.bs _ _ hb).2
  have len : d.shown.length ≤ sizeLine := by rw [sizeLine_eq]; exact sq.ln
  have deep : X.A.units + (d.depth + 1) < cLine := by have := sq.dp; omega
  obtain ⟨as, rd, no⟩ := Dq.reads inv free d v u dq rel
  cases dq with
  | non =>
    cases rel
    exact PySem.P.repr_of_none ⟨.str _, H, inv.tok _, ⟨_, rfl⟩, q⟩
  | bl b =>
    cases rel
    exact PySem.P.repr_of_bool ⟨.str _, H, inv.tok _, ⟨_, rfl⟩, by rw [PyData.shown_bool] at q; exact q⟩
  | int i =>
    obtain ⟨tk, rfl⟩ := rel
    have small : i.natAbs.log2 < 1920 := by
      have := sq.sh
      simpa only [PyData.showable, decide_eq_true_eq] using this
    exact PySem.P.repr_of_int small ⟨.str _, H, inv.tok _, ⟨_, rfl⟩, by rw [PyData.shown_int] at q; exact q⟩
  | str x =>
    obtain ⟨tk, rfl⟩ := rel
    rw [PyData.shown_str] at q len
    exact PySem.P.repr_of_str ⟨.str _, H, inv.tok _, ⟨_, rfl⟩, q⟩ len
  | dic h =>
    cases rel
    exact repr_of_reads' rd sq.sh (fun _ => no) gds deep (fun _ _ z => z) (fun h' u' tk kp => ⟨.str _, H, inv.kept kp, ⟨_, rfl⟩, q⟩) len
  | lst h t =>
    cases rel
    exact repr_of_reads' rd sq.sh (fun _ => no) gds deep (fun _ _ z => z) (fun h' u' tk kp => ⟨.str _, H, inv.kept kp, ⟨_, rfl⟩, q⟩) len
  | tup h t =>
    cases rel
    exact repr_of_reads' rd sq.sh (fun _ => no) gds deep (fun _ _ z => z) (fun h' u' tk kp => ⟨.str _, H, inv.kept kp, ⟨_, rfl⟩, q⟩) len
/-! over trees -/
mutual
def T.datD : T → Option PyData
  | .non => some .none
  | .bl b => some (.bool b)
  | .int i => some (.int i)
  | .str z => some (.str z)
  | .dct => some (.dict [])
  | .lst l => (T.datDL l).map .list
  | .tup l => (T.datDL l).map .tuple
  | _ => none
def T.datDL : List T → Option (List PyData)
  | [] => some []
  | t :: ts => match t.datD, T.datDL ts with
    | some d, some ds => some (d :: ds)
    | _, _ => none
end
section
variable {K : PySem.W.Frag} {Z : Addr → Prop} {S : Store} {H : Hp}
mutual
theorem rep_dq : ∀ {v : V} {t : T} {d : PyData}, Rep K Z S H v t → t.datD = some d → Dq K H v d
  | _, _, _, .non, e => by rw [T.datD] at e; cases e; exact .non
  | _, _, _, .bl b, e => by rw [T.datD] at e; cases e; exact .bl b
  | _, _, _, .int i, e => by rw [T.datD] at e; cases e; exact .int i
  | _, _, _, .str z, e => by rw [T.datD] at e; cases e; exact .str z
  | _, _, _, .ty n, e => by simp [T.datD] at e
  | _, _, _, .st a, e => by simp [T.datD] at e
  | _, _, _, .cell a, e => by simp [T.datD] at e
  | _, _, _, .tup h r, e => by
    rw [T.datD] at e
    obtain ⟨ds, e1, rfl⟩ := Option.map_eq_some_iff.mp e
    exact .tup h.sq (reps_dq r e1)
  | _, _, _, .lst h r, e => by
    rw [T.datD] at e
    obtain ⟨ds, e1, rfl⟩ := Option.map_eq_some_iff.mp e
    exact .lst h.1 (reps_dq r e1)
  | _, _, _, .scr h r, e => by simp [T.datD] at e
  | _, _, _, .ins h n r, e => by simp [T.datD] at e
  | _, _, _, .dct h n, e => by rw [T.datD] at e; cases e; exact .dic h
  | _, _, _, .exc h n hd nd r, e => by simp [T.datD] at e
theorem reps_dq : ∀ {vs : List V} {ts : List T} {ds : List PyData}, Reps K Z S H vs ts → T.datDL ts = some ds → DqAll K H vs ds
  | _, _, _, .nil, e => by rw [T.datDL] at e; cases e; exact .nil
  | _, _, _, .cons h r, e => by
    rw [T.datDL] at e
    split at e
    · rename_i d ds e1 e2
      cases e
      exact .cons (rep_dq h e1) (reps_dq r e2)
    · cases e
end
end
def kReprD : List T → Store → (T → Store → Prop) → XT → Prop := fun xs S R _ => ∃ x d, xs = [x] ∧ x.datD = some d ∧ Sq 64 16777216 d ∧ R (.str d.shown) S
theorem cv_reprD {K : PySem.W.Frag} {E : XK} : ConvA K E kReprD (RD K) := by
  intro Z xs S vs H R RE Q ok rs k po xo
  obtain ⟨x, d, rfl, e, sq, q⟩ := k
  cases rs with
  | cons r rr =>
    cases rr
    exact ⟨_, d, rfl, rep_dq r e, sq, po _ _ _ _ q .refl ok (.str _)⟩

theorem same_upd {H : Hp} {p : Addr} {o : HO} (h : H p = none) : Same H (upd H p o) := fun b u q => by rw [upd_ne (ne_of_none q h)]; exact q
/- err_hot -/
/-! calls while an error is handled: p, the error's address and object, stands in the context -/
structure FnP (P : Program) (w : World) (K : PySem.W.Frag) (mg : Str → Option Value) (base : Heap) (CX : CXT) (k : Nat) (f : Addr) (fd : FuncData) (ps : List Str) (sp : Addr × Obj → Sp) : Prop where
  len : ∀ p vs H Q E, sp p vs H Q E → vs.length = ps.length
  go : ∀ (A : Around) (out : List Env) (st : Shared) (H : Hp) (as : Args) (us : List Value) (vs : List V) (Q : VK) (E : XK) (p : Addr × Obj), A.guards = some [] → L2H.RoomH k A → L2H.Hot1 A p → L2H.PinOk out H st p → Env0 P w K mg base A out st H →
    BindsTo st fd as (ps.zip us) → Vals vs us → sp p vs H Q E → codeAny (model P w) A (.call (.ref f) as) (CR CX out P w H st Q E) st
section
variable {P : Program} {w : World} {K : PySem.W.Frag} {mg : Str → Option Value} {base : Heap} {CX : CXT} {k : Nat} {f : Addr} {fd : FuncData} {ps : List Str} {sp : Addr × Obj → Sp}
theorem okP {x qual : Str} {st : Stmt} {N : List Str} (F : Fun K x qual st f fd) (S : FnScope N ps (defScope st)) (len : ∀ p vs H Q E, sp p vs H Q E → vs.length = ps.length)
    (walk : ∀ (cdv : Value) (A : Around) (out : List Env) (s : Shared) (H : Hp) (vs : List V) (Q : VK) (E : XK) (p : Addr × Obj), A.guards = some [] → L2H.Hot1 A p → L2H.RoomH k (A.deeper (envOfC qual (defScope st) s.heap.objs.size f cdv)) → sp p vs H Q E →
      ∃ t, PSs (L2H.cxH CX0 P w K mg base N qual (defScope st) f cdv A out s H E p).nox (defBody st) t ∧ t { nx := fun _ H' => Q .non H', rt := Q } (start N vs) H) :
    FnP P w K mg base CX0 (k + 1) f fd ps sp := by
  obtain ⟨_, _, _, _, _, _, cdv, _, _, e, lk, code⟩ := F.ex
  subst e
  refine ⟨len, ?_⟩
  intro A out s H as us vs Q E p gds room hot pin env binds vals want
  have size := len _ _ _ _ _ want
  have lim : s.heap.NoLimit := env.mod.nolimit.keeps fun b o e => (env.bs b o e).1
  have inK : K.In s.heap := env.mod.kin.keeps fun b o e => (env.bs b o e).1
  have kinds : ∀ y ∈ ps.zip us, (defScope st).names.lookup y.1 = some .local ∨ ((defScope st).names.lookup y.1 = some .cell ∧ ((cellsFrom (s.heap.objs.size + 1) (defScope st).names []).lookup y.1).isSome = true) := by
    rintro ⟨n, v⟩ mem
    cases S.par n (List.of_mem_zip mem).1 with
    | inl loc => exact Or.inl loc
    | inr cel => exact Or.inr ⟨cel, PySem.W.cellsFrom_some _ _ _ (Or.inl cel)⟩
  refine codeAny_call_function room.depth (inK _ _ lk) rfl S.co S.gen rfl (PySem.W.codeRec_of inK code) (binds _ _ _ _ ?_)
  refine wpAny_newFunctionEnv_cells S.kind kinds fun en hen s1 inn => ?_
  subst hen
  refine ⟨lim.keeps inn.toInCall.keep, codeAny_func ?_⟩
  obtain ⟨t, term, read⟩ := walk cdv A out s H vs Q E p gds hot (room.deeper _) want
  have inv := L2H.inv_startH (CX := CX0) (E := E) S pin env size vals inn
  refine wpAny_mono (term.nox.run [] s1 (start N vs) H _ inv read) (fun fl s' hs => ?_) fun _ _ hs => hs
  have done : ∀ {sl' : L2.St} {H' : Hp} {v : V} {u : Value}, Inv (L2H.cxH CX0 P w K mg base N qual (defScope st) f cdv A out s H E p) [] sl' H' s' → RelV v u → Q v H' → CE out P w H s Q u s' := by
    intro sl' H' v u J rel q
    exact ⟨v, H', J.os, J.bare, J.base, J.hok, rel, q⟩
  cases fl with
  | next =>
    obtain ⟨_, _, J, q⟩ := hs
    exact done (v := V.non) (u := Value.none) J rfl q
  | ret u =>
    obtain ⟨_, _, _, J, rel, q⟩ := hs
    exact done J rel q
  | brk => exact (hs.choose_spec.choose_spec.2).elim
  | cont => exact (hs.choose_spec.choose_spec.2).elim
end
section
variable {X : Cx} {k : Nat} {f : Addr} {fd : FuncData} {ps : List Str} {sp : Addr × Obj → Sp} {x : Str} {p : Addr × Obj} {ep pos : Pos} {e : Expr} {es : List Expr} {t : TA}
theorem pin_at {pins : List (Addr × Obj)} {sl : L2.St} {H : Hp} {s : Shared} (inv : Inv X pins sl H s) (mem : p ∈ X.pn) : L2H.PinOk X.stack H s p := by
  obtain ⟨h1, h2, h3, h4, h5⟩ := inv.pin p (List.mem_append_left _ mem)
  exact ⟨h1, h2, fun m => (List.mem_cons.mp (inv.stkSub p.1 m)).elim h3 h4, h5⟩
theorem goP {pins : List (Addr × Obj)} {sl : L2.St} {H : Hp} {s : Shared} {Q : VK} {us : List Value} {vs : List V} (F : FnP X.prog X.w X.K X.mg X.base CX0 k f fd ps sp) (gds : X.A.guards = some []) (room : L2H.RoomH k X.A) (hot : L2H.Hot1 X.A p) (mem : p ∈ X.pn)
    (inv : Inv X pins sl H s) (b : BindsTo s fd ⟨us, []⟩ (ps.zip us)) (r : Vals vs us) (want : sp p vs H Q E0) : wpAny (model X.prog X.w) X.A (call (.ref f) us) (EP X pins sl Q) X.xe s := by
  refine wpAny_call (codeAny_mono (F.go X.A X.stack s H ⟨us, []⟩ us vs Q E0 p gds room hot (pin_at inv mem) inv.env0 b r want) fun r s' got => ?_)
  cases r with
  | error e => exact got.elim
  | ok fl =>
    cases fl with
    | ret u => exact inv.after got
    | next => exact got.elim
    | brk => exact got.elim
    | cont => exact got.elim
theorem callP (F : FnP X.prog X.w X.K X.mg X.base CX0 k f fd ps sp) (gds : X.A.guards = some []) (room : L2H.RoomH k X.A) (hot : L2H.Hot1 X.A p) (mem : p ∈ X.pn) (hg : Gl X x) (hm : X.mg x = some (.ref f)) (hk : PySem.W.keepIn X.K (.ref f) = true) (hb : Binds X.K fd ps [])
    (ha : PA X (e :: es) t) (hdb : (x == ("__debug__" : Str)) = false := by decide) (he : starEach (e :: es) X.env = (false, eval e X.env) :: starEach es X.env := by rfl) (hpl : (backTo pos (starEach es X.env)).any (·.1) = false := by rfl) :
    PE X (.Call (.Name x ep) (e :: es) [] pos) (fun sl H Q => t sl H fun vs H1 => sp p vs H1 Q E0) := by
  constructor
  intro pins s sl H Q inv want
  refine wpAny_Call_Name_kw (ld_glob inv hg hm ?_ hdb)
  refine PySem.W.callWith_K (h₀ := X.base) inv.ok.mod.kin hk (thn (ha.run pos pins s sl H _ inv want) ?_) he hpl
  rintro us s1 ⟨vs, H1, inv1, rel, q⟩
  refine ⟨inv1.kIn, ?_⟩
  have sz : us.length = ps.length := rel.length.symm.trans (F.len _ _ _ _ _ q)
  have b := hb s1 us inv1.kIn (by rw [List.append_nil]; exact sz)
  rw [List.append_nil] at b
  exact goP F gds room hot mem inv1 b rel q
end
/-! tuples walked and unpacked while an error is handled -/
section
open HotX
variable {prog : Program} {w : World} {A : Around} {E : Value → Shared → Prop} {s : Shared}
theorem next_tup_end {it t x1 : Addr} {i : Nat} {items : Array Value} {Q : Option Value → Shared → Prop} (hot : HotAt A x1 s.heap) (ne : x1 ≠ it) (hit : IsTupIter s.heap it t i) (ht : IsTup s.heap t items) (hx : items[i]? = none)
    (hQ : ∀ h', Heap.ExtBut it s.heap h' → Q none { s with heap := h' }) : wpAny (model prog w) A (pyNext (.ref it)) Q E s := by
  obtain ⟨hh, o1, vs1, h1, d1, c1⟩ := hot
  obtain ⟨o, ho, hc, hd⟩ := id hit
  obtain ⟨ol, hol, _, nl, hdl⟩ := ht
  have up : ∀ (u : Obj → Obj) b o', b ≠ it → s.heap.get? b = some o' → (s.heap.update it u).get? b = some o' := fun u b o' n e => (Heap.get?_update_other _ _ (Ne.symm n)).trans e
  unfold pyNext
  refine wpAny_bind (wpAny_attempt (wpAny_callSpecial?_slot (name := Str.ofString "__next__") hit.typeIs slot_tupleiter_next
    (wpAny_call_entry slot_tupleiter_next hit.typeIs entry_tupleiter_next ?_ (args_tupleiter_next _))))
  show wpAny _ _ (field (.ref it) 0 >>= _) _ _ s
  refine wpAny_bind (wpAny_field ho hd (x := .ref t) rfl ?_)
  show wpAny _ _ (if (Value.ref t == Value.none) = true then _ else _) _ _ s
  rw [if_neg (show ¬ ((Value.ref t == Value.none) = true) from Bool.false_ne_true)]
  show wpAny _ _ (field (.ref it) 1 >>= _) _ _ s
  refine wpAny_bind (wpAny_field ho hd (x := .int i 0) rfl ?_)
  show wpAny _ _ (seqItems? (.ref t) >>= _) _ _ s
  refine wpAny_bind (wpAny_seqItems hol hdl ?_)
  simp only [Int.toNat_natCast, hx]
  refine wpAny_bind (wpAny_rule (wpAny_bind (wpAny_setField ho hd (by simp) ?_)))
  show wpAny _ _ (newExc (.type "StopIteration") [] >>= _) _ _ _
  refine wpAny_bind ?_
  simp only [newExc, newTuple]
  refine wpAny_bind (wpAny_newObj_type ?_ (by size_fits))
  refine wpAny_bind (m := firstArgMember _ _) (wpAny_of_eq (a := Value.none) (by first | rfl | (simp only [firstArgMember]; rfl)) ?_)
  refine wpAny_newObj_type ?_ (by size_fits)
  have g1 := Heap.get?_push_of_some { cls := .type "tuple", data := .seq #[] } (up (Obj.mapFields (·.setIfInBounds 0 .none)) x1 o1 ne h1)
  refine raiseNew_hot ⟨hh, o1, vs1, Heap.get?_push_of_some _ (Heap.get?_push_of_some _ (up _ x1 o1 ne h1)), d1, c1⟩ (Nat.ne_of_lt (Heap.lt_size (Heap.get?_push_of_some _ (up _ x1 o1 ne h1)))) (Heap.get?_push_size _ rfl) rfl (by first | (simp; done) | (simp; omega) | (simp only [Array.size]; decide)) ?_
  refine wpAny_bind (wpAny_isInstance (T := "StopIteration") (b := true) ⟨_, Heap.get?_update_self _ (Heap.get?_push_size _ rfl) rfl, rfl⟩ isSubtype_stop ?_)
  refine wpAny_pure (hQ _ fun b u n e => ?_)
  rw [Heap.get?_update_other _ _ (Nat.ne_of_gt (Heap.lt_size (Heap.get?_push_of_some _ (up _ b u n e))))]
  exact Heap.get?_push_of_some _ (Heap.get?_push_of_some _ (up _ b u n e))
theorem hot_ne {it t x1 : Addr} {i : Nat} {h : Heap} (hot : HotAt A x1 h) (hit : IsTupIter h it t i) : x1 ≠ it := by
  obtain ⟨_, o1, vs1, h1, d1, c1⟩ := hot
  obtain ⟨o, ho, _, hd⟩ := hit
  intro e
  rw [e, ho] at h1
  cases h1
  rw [hd] at d1
  cases d1
  cases c1
theorem HotAt.ext {x1 b : Addr} {h h' : Heap} (hot : HotAt A x1 h) (e : Heap.ExtBut b h h') (n : x1 ≠ b) : HotAt A x1 h' := by
  obtain ⟨hh, o1, vs1, h1, d1, c1⟩ := hot
  exact ⟨hh, o1, vs1, e x1 o1 n h1, d1, c1⟩
theorem HotAt.lt {x1 : Addr} {h : Heap} (hot : HotAt A x1 h) : x1 < h.objs.size := by
  obtain ⟨_, _, _, h1, _⟩ := hot
  exact Heap.lt_size h1
theorem unpack_items {t x1 : Addr} {items : Array Value} {Q : List Value → Shared → Prop} (hot : HotAt A x1 s.heap) (ht : IsTup s.heap t items)
    (hQ : ∀ h', Heap.ExtBut s.heap.objs.size s.heap h' → Q items.toList { s with heap := h' }) : wpAny (model prog w) A (unpackItems (.ref t) items.size none) Q E s := by
  have hlt : t ≠ s.heap.objs.size := by obtain ⟨o, ho, _⟩ := ht; exact Nat.ne_of_lt (Heap.lt_size ho)
  have xlt : x1 ≠ s.heap.objs.size := Nat.ne_of_lt (HotAt.lt hot)
  unfold unpackItems
  refine wpAny_bind ?_
  unfold notIterableAtAll
  refine wpAny_bind (wpAny_specialOf ht.typeIs slot_tuple_iter.lookup ?_)
  refine wpAny_pure ?_
  simp only [Bool.false_eq_true, if_false]
  refine wpAny_bind (wpAny_holding (iter_tuple ht ?_))
  refine wpAny_bind (wpAny_holding (draw_tuple hlt items.size 0 _ _ ⟨_, Heap.get?_push_size _ rfl, rfl, rfl⟩ (ht.push _) (by omega) fun h₁ hit₁ hs₁ => ?_))
  have hall : List.take items.size (List.drop 0 items.toList) = items.toList := by
    rw [List.drop_zero]; exact List.take_of_length_le (by simp)
  rw [hall]
  rw [if_neg (by simp)]
  have ht₁ : IsTup h₁ t items := (ht.push _).extBut hs₁.extBut hlt
  have ext1 : Heap.ExtBut s.heap.objs.size s.heap h₁ := fun b o hb e => hs₁.extBut b o hb (Heap.get?_push_of_some _ e)
  refine wpAny_bind (wpAny_holding (next_tup_end (HotAt.ext hot ext1 xlt) xlt hit₁ ht₁ (by simp) fun h₂ he₂ => ?_))
  simp only [Option.isSome_none, Bool.false_eq_true, if_false]
  exact wpAny_pure (hQ h₂ fun b o hb e => he₂ b o hb (ext1 b o hb e))
end
section
open HotX
variable {X : Cx}
/-- (a, b, ..) = a tuple of that length, while an error is handled -/
theorem pg_tupH {pos : Pos} {es : List Expr} {k : Nat} {t : TGs} {n : Nat} (hc : L2H.HotC X) (h : PGs X es t)
    (hn : (assignEach es X.env).length = n := by rfl) (hst : (assignEach es X.env).findIdx? (·.1) = none := by rfl) : PG X (.Tuple es k pos) (gTup X.K n t) := by
  refine ⟨fun pins s σ H v u Q I r hw => ?_⟩
  obtain ⟨a, xs, e1, hq, hl, hw⟩ := hw
  subst e1
  cases r
  obtain ⟨its, rv, ht, hz⟩ := I.tuple hq
  obtain ⟨x1, hot⟩ := hc.at I
  rw [assign_Tuple]
  refine wpAny_bind (wpAny_standAt ?_)
  unfold unpack
  have hsz : (assignEach es X.env).length = its.toArray.size := by simp [hn, ← hl, rv.length]
  rw [hsz, hst]
  refine wpAny_bind (wpAny_holding (unpack_items hot ht fun h' hx => ?_))
  have I1 : Inv X pins σ H { s with heap := h' } := I.kept (t' := s.toks) fun b o e => hx b o (Nat.ne_of_lt (Heap.lt_size e)) e
  exact h.run pins _ σ H xs _ Q I1 (by simpa using rv) hw
theorem turn_tupH {P : Program} {w : World} {K : PySem.W.Frag} {tg : Expr} (a it : Addr) : L2H.TurnH P w K tg (Itt K a) [it] it (fun i h => h.IsTupleIter it a i) where
  mem := (turn_tuple (P := P) (w := w) (K := K) (tg := tg) a it).mem
  obj := (turn_tuple (P := P) (w := w) (K := K) (tg := tg) a it).obj
  keep := (turn_tuple (P := P) (w := w) (K := K) (tg := tg) a it).keep
  self := (turn_tuple (P := P) (w := w) (K := K) (tg := tg) a it).self
  item := by
    intro X hP hw hK hc i pins s σ H E I hf st hg
    subst hP hw hK
    obtain ⟨xs, x, hq, hx⟩ := hg
    obtain ⟨its, rv, p, hz⟩ := I.tuple hq
    obtain ⟨u, hu, ru⟩ := rv.get hx
    obtain ⟨f0, f1, f2, f3, f4, f5⟩ := hf it (by simp)
    refine wpAny_pyNext_tuple_item st (show s.heap.IsTuple a its.toArray from p) (x := u) (by simpa using hu) fun h' st' sb => ?_
    have I1 : Inv X pins σ H { s with heap := h' } := I.turned (t' := s.toks) (fun b o hb e => (sb.2 b hb).trans e) f0 f1 f3 f4 f5
    obtain ⟨o, e, c, d⟩ := id st'
    exact ⟨u, rfl, go_of (s := { s with heap := h' }) e c d (by decide) ⟨x, H, I1, ru, ⟨rfl, fun ys hy => by rw [I.tuple_inj hy hq]; exact hx⟩, st', fun b hb => (hf b hb).1⟩⟩
  done := by
    intro X hP hw hK hc i pins s σ H E I hf st hg
    subst hP hw hK
    obtain ⟨xs, hq, hx⟩ := hg
    obtain ⟨its, rv, p, hz⟩ := I.tuple hq
    obtain ⟨f0, f1, f2, f3, f4, f5⟩ := hf it (by simp)
    have hl := rv.length
    obtain ⟨x1, hot⟩ := hc.at I
    exact next_tup_end hot (hot_ne hot st) st (show IsTup s.heap a its.toArray from p) (by simp; omega) fun h' eb => ⟨rfl, I.turned (t' := s.toks) (fun b o hb e => eb b o hb e) f0 f1 f3 f4 f5⟩
theorem pi_tupH {tg l : Expr} {tl : TE} (hl : PE X l tl) : L2H.PIH X tg l (iTup X.K tl) := by
  refine ⟨fun pins s σ H R I h => ?_⟩
  refine thn (hl.run pins s σ H _ I h) fun v s1 ⟨x, H1, I1, r1, q1⟩ => ?_
  obtain ⟨a, e, ⟨xs, hq⟩, q⟩ := q1
  subst e
  cases r1
  obtain ⟨its, rv, p, hz⟩ := I1.tuple hq
  refine wpAny_pyIter_tuple (show s1.heap.IsTuple a its.toArray from p) ?_
  refine ⟨s1.heap.objs.size, [s1.heap.objs.size], _, _, H1, rfl, I1.kept (t' := s1.toks) fun b o e => Heap.get?_push_of_some _ e, turn_tupH a _, ⟨_, Heap.get?_push_size _ rfl, rfl, rfl⟩, fun b hb => ?_, q⟩
  have e : b = s1.heap.objs.size := by simpa using hb
  subst e
  exact I1.fpOk (Nat.le_refl _) (I1.hok.fresh (Nat.le_refl _))
end
section
open HotX
variable {X : Cx}
/-- a, b = x, y with plain local names, while an error is handled -/
theorem ps_parH {pos : Pos} {i j : Nat} {x y : Str} {a b : Expr} {ta : TA} {px py pt : Pos} {kt k2 pt2} (hc : L2H.HotC X) (nd : X.N.Nodup) (hi : X.N[i]? = some x) (hj : X.N[j]? = some y) (hij : i ≠ j)
    (hx : X.env.scope.names.lookup x = some .local) (hy : X.env.scope.names.lookup y = some .local) (ha : PA X [a, b] ta)
    (sw : swappedStores [.Tuple [.Name x px, .Name y py] kt pt] (.Tuple [a, b] k2 pt2) X.env = pure (some [x, y]))
    (sole : swapsWithSole [.Tuple [.Name x px, .Name y py] kt pt] (.Tuple [a, b] k2 pt2) pos.line X.env = pure false := by rfl) :
    PS X (.Assign [.Tuple [.Name x px, .Name y py] kt pt] (.Tuple [a, b] k2 pt2) pos) (tPar i j ta) := by
  constructor
  intro pins s sl H D inv want
  rw [exec_Assign_arm]
  refine wpAny_bind (wpAny_standAt ?_)
  rw [sole]
  refine wpAny_bind (wpAny_pure ?_)
  rw [if_neg (by decide)]
  refine wpAny_bind (Tuple_ (thn (ha.run _ pins s sl H _ inv want) ?_))
  rintro us s1 ⟨vs, H1, inv1, rel, v, w, e, q⟩
  subst e
  cases rel with
  | cons rv rel =>
    cases rel with
    | cons rw_ rel =>
      cases rel
      rename_i u1 u2
      refine wpAny_newObj_type ?_ (by show 2 ≤ sizeLine; decide)
      have inv2 : Inv X pins sl H1 { s1 with heap := s1.heap.push { cls := .type "tuple", data := .seq [u1, u2].toArray } } := inv1.kept (t' := s1.toks) fun b o e => Heap.get?_push_of_some _ e
      obtain ⟨x1, hot⟩ := hc.at inv2
      rw [sw]
      refine wpAny_bind (wpAny_pure ?_)
      show wpAny (model X.prog X.w) X.A (do rule "assign.swapped-stores"; let items ← unpackItems (.ref s1.heap.objs.size) 2 none; assignInOrder [fun v => bindName X.env y v, fun v => bindName X.env x v] items.reverse; pure Flow.next) _ _ _
      refine wpAny_bind (wpAny_rule (wpAny_bind (unpack_items (items := #[u1, u2]) hot (IsTup.new s1.heap _) fun h' ext => ?_)))
      have inv3 := inv2.kept (h' := h') (t' := s1.toks) fun b o e => ext b o (Nat.ne_of_lt (Heap.lt_size e)) e
      show wpAny _ _ (assignInOrder [fun v => bindName X.env y v, fun v => bindName X.env x v] [u2, u1] >>= fun _ => pure Flow.next) _ _ _
      refine wpAny_bind (assignInOrder_cons (wpAny_bindName (store_ok inv3 nd hj (.inl hy) rw_ (fun s2 inv4 => ?_) (.inr hy))))
      refine assignInOrder_cons (wpAny_bindName (store_ok inv4 nd hi (.inl hx) rv (fun s3 inv5 => assignInOrder_nil (wpAny_pure ?_)) (.inr hx)))
      rw [List.set_comm _ _ (Ne.symm hij)] at inv5
      exact ⟨_, H1, inv5, q⟩
end
/-! ### the tree layer while an error is handled -/
theorem _root_.L2H.RoomH.units {k : Nat} {A : Around} (r : L2H.RoomH k A) : A.units + 64 < cLine := by have := r.un; omega
theorem _root_.L2H.RoomH.units0 {k : Nat} {A : Around} (r : L2H.RoomH k A) : A.units < cLine := by have := r.un; omega
theorem roomHIn {k : Nat} {A : Around} (r : L2H.RoomH (k + 1) A) : L2H.RoomH k A.in1 := ⟨by have := r.dp; show A.depth + 3 * k + 5 < _; omega, by have := r.un; show A.units + 1 + 16 * k + 200 < _; omega⟩
structure FnPT (P : Program) (w : World) (K : PySem.W.Frag) (mg : Str → Option Value) (base : Heap) (k : Nat) (f : Addr) (fd : FuncData) (ps : List Str) (sp : SpT) : Prop where
  fn : FnP P w K mg base CX0 k f fd ps (fun _ vs H Q _ => UpF K sp vs H Q EF)
section
variable {P : Program} {w : World} {K : PySem.W.Frag} {mg : Str → Option Value} {base : Heap} {k : Nat} {f : Addr} {fd : FuncData} {ps : List Str} {sp : SpT}
theorem okPT {x qual : Str} {st : Stmt} {N : List Str} {r : TRS} (F : Fun K x qual st f fd) (S : FnScope N ps (defScope st)) (len : ∀ ts S R RE, sp ts S R RE → ts.length = ps.length)
    (bs : ∀ (cdv : Value) (A : Around) (out : List Env) (s : Shared) (H : Hp) (E : XK) (p : Addr × Obj), A.guards = some [] → L2H.Hot1 A p → L2H.RoomH k (A.deeper (envOfC qual (defScope st) s.heap.objs.size f cdv)) → BS (L2H.cxH CX0 P w K mg base N qual (defScope st) f cdv A out s H E p).nox EF (defBody st) r)
    (hsp : ∀ ts S R RE, sp ts S R RE → r { nx := fun _ S' => R .non S', rt := R, ex := RE } (startT N ts) S) : FnPT P w K mg base (k + 1) f fd ps sp := by
  refine ⟨okP F S (fun p vs H Q E q => ?_) fun cdv A out s H vs Q E p g hot hr q => up_body (X := (L2H.cxH CX0 P w K mg base N qual (defScope st) f cdv A out s H E p).nox) (bs cdv A out s H E p g hot hr) hsp q⟩
  obtain ⟨Z, ts, S, R, RE, rs, ok, s, po, xo⟩ := q.ex
  exact rs.length.trans (len _ _ _ _ s)
end
section
variable {X : Cx} {E : XK} {k : Nat} {f : Addr} {fd : FuncData} {ps : List Str} {sp : SpT} {x : Str} {p : Addr × Obj} {ep pos : Pos} {e a : Expr} {es : List Expr} {t : TRA} {ra : TR}
theorem et_callH (F : FnPT X.prog X.w X.K X.mg X.base k f fd ps sp) (gds : X.A.guards = some []) (room : L2H.RoomH k X.A) (hot : L2H.Hot1 X.A p) (mem : p ∈ X.pn) (hg : Gl X x) (hm : X.mg x = some (.ref f)) (hk : PySem.W.keepIn X.K (.ref f) = true) (hb : Binds X.K fd ps [])
    (ha : AT X EF (e :: es) t) (hdb : (x == ("__debug__" : Str)) = false := by decide) (he : starEach (e :: es) X.env = (false, eval e X.env) :: starEach es X.env := by rfl) (hpl : (backTo pos (starEach es X.env)).any (·.1) = false := by rfl) :
    ET X EF (.Call (.Name x ep) (e :: es) [] pos) (rCall sp [] t) :=
  ⟨pe_weak (callP F.fn gds room hot mem hg hm hk hb ha.pa hdb he hpl) fun sl H Q h => UpA.args (k := fun xs S1 R RE => sp (xs ++ []) S1 R RE) h fun Z xs S1 vs H1 R RE ok rs kk po xo =>
    ⟨Z, _, S1, R, RE, rs, ok, by rw [List.append_nil] at kk; exact kk, po, xo⟩⟩
/-- unpacking -/
theorem gt_tupH {es : List Expr} {gs : TRGs} {k n : Nat} (hc : L2H.HotC X) (h : GTs X E es gs) (hn : (assignEach es X.env).length = n := by rfl) (hst : (assignEach es X.env).findIdx? (·.1) = none := by rfl) : GT X E (.Tuple es k pos) (gTupT n gs) :=
  ⟨pg_weak (pg_tupH hc h.pg hn hst) fun v sl H Q ⟨⟨Z, σ, S, t, R, RE, fr, ok, rep, ⟨ts, e, l, w⟩, po, xo⟩⟩ => by
    subst e
    cases rep with
    | tup h r => exact ⟨_, _, rfl, h.sq, r.length.trans l, _, σ, S, ts, R, RE, fr, ok, r, w, po, xo⟩⟩
theorem ss_parH {a b : Expr} {i j : Nat} {x y : Str} {px py pt : Pos} {kt k2 pt2} (hc : L2H.HotC X) (hN : X.N.Nodup) (hi : X.N[i]? = some x) (hj : X.N[j]? = some y) (hij : i ≠ j)
    (hx : X.env.scope.names.lookup x = some .local) (hy : X.env.scope.names.lookup y = some .local) (ha : AT X E [a, b] t)
    (hw : swappedStores [.Tuple [.Name x px, .Name y py] kt pt] (.Tuple [a, b] k2 pt2) X.env = pure (some [x, y]))
    (hs : swapsWithSole [.Tuple [.Name x px, .Name y py] kt pt] (.Tuple [a, b] k2 pt2) pos.line X.env = pure false := by rfl) :
    SS X E (.Assign [.Tuple [.Name x px, .Name y py] kt pt] (.Tuple [a, b] k2 pt2) pos) (sPar i j t) :=
  ⟨ps_weak (ps_parH hc hN hi hj hij hx hy ha.pa hw hs) fun D sl H ⟨⟨Z, σ, S, DT, fr, ok, w, eo, xo⟩⟩ =>
    ⟨_, σ, S, _, DT.ex, fr, ok, w, fun xs S1 vs H1 k le ok1 rep => by
      obtain ⟨x, y, rfl, k⟩ := k
      cases rep with
      | cons r1 rr =>
        cases rr with
        | cons r2 rr =>
          cases rr
          exact ⟨_, _, rfl, eo.nx _ S1 _ H1 k le ok1 (((fr.le le).set i r1).set j r2)⟩, xo⟩⟩
/-- a walk over a tuple -/
structure IHT (X : Cx) (E : XK) (tg it : Expr) (r : TRI) : Prop where
  pi : L2H.PIH X tg it (UpI X.K E r)
theorem pih_weak {tg e : Expr} {t t' : TI} (he : L2H.PIH X tg e t) (imp : ∀ sl H Q, t' sl H Q → t sl H Q) : L2H.PIH X tg e t' := ⟨fun pins s sl H R inv h => he.run pins s sl H R inv (imp sl H R h)⟩
def iSeqH (ra : TR) : TRI := fun σ S R RE => ra σ S (fun t S1 => ∃ ts, t = .tup ts ∧ R ts S1) RE
theorem itH_seq {tg : Expr} (ha : ET X E a ra) : IHT X E tg a (iSeqH ra) := ⟨pih_weak (pi_tupH ha.pe) fun sl H Q ⟨⟨Z, σ, S, R, RE, fr, ok, w, po, xo⟩⟩ => by
  refine ⟨_, σ, S, _, RE, fr, ok, w, fun t S1 v H1 k le ok1 rep => ?_, xo⟩
  obtain ⟨ts, e, k⟩ := k
  subst e
  cases rep with
  | tup h r => exact ⟨_, rfl, ⟨_, h.sq⟩, po ts S1 _ H1 k le ok1 (src_tup h r)⟩⟩
theorem ss_forH {iter tg : Expr} {body : List Stmt} {ri : TRI} {g : TRG} {rb : TRS} (hp : PassesOwn (model X.prog X.w) X.A X.env X.xe) (hc : L2H.HotC X) (hi : IHT X E tg iter ri) (hg : GT X E tg g) (hb : BS X E body rb)
    (hs : ∀ x, foldedSetIterable iter X.env x = pure x := by intro _; rfl) : SS X E (.For tg iter body [] pos) (sFor ri g rb) :=
  ⟨ps_weak (L2H.ps_forH hp hc hi.pi hg.pg hb.ps hs) fun D sl H ⟨⟨Z, σ, S, DT, fr, ok, w, eo, xo⟩⟩ => by
    refine ⟨_, σ, S, _, DT.ex, fr, ok, w, fun ts S1 J H1 k le ok1 src => ?_, xo⟩
    refine ⟨fun i m sl' H' => m = ts.length - i ∧ i ≤ ts.length ∧ ∃ σ' S', FrR X.K Z S' H' sl' σ' ∧ Ok X.K Z S' H' ∧ Le S1 H1 S' H' ∧ rLoop g rb DT (ts.drop i) σ' S', ⟨_, rfl, Nat.zero_le _, σ, S1, fr.le le, ok1, .refl, k⟩, ?_⟩
    rintro i m sl' H' ⟨rfl, hi, σ', S', fr', ok', le', k'⟩
    obtain ⟨go, stop⟩ := src Z S' H' (fun _ z => .inl z) le' ok'
    by_cases hlt : i < ts.length
    · refine .inr ?_
      have hd : ts.drop i = ts[i] :: ts.drop (i + 1) := (List.drop_eq_getElem_cons hlt)
      rw [hd] at k'
      obtain ⟨g1, g2⟩ := go i ts[i] (List.getElem?_eq_getElem hlt)
      refine ⟨g1, fun sl2 H2 => ∃ σ2 S2, FrR X.K Z S2 H2 sl2 σ2 ∧ Ok X.K Z S2 H2 ∧ Le S1 H1 S2 H2 ∧ rLoop g rb DT (ts.drop (i + 1)) σ2 S2, ?_, ?_⟩
      · rintro sl2 H2 ⟨σ2, S2, f2, o2, l2, k2⟩
        exact ⟨_, by omega, rfl, hlt, σ2, S2, f2, o2, l2, k2⟩
      · intro x H2 y
        obtain ⟨l2, o2, rep⟩ := g2 x H2 y
        refine ⟨_, σ', S', ts[i], _, DT.ex, fr'.le l2, o2, rep, k', fun σ3 S3 sl3 H3 k3 l3 o3 f3 => ?_, (xo.le (le.trans le')).le l2⟩
        have lt := (le'.trans l2).trans l3
        refine ⟨_, σ3, S3, _, f3, o3, k3, ⟨fun σ4 S4 sl4 H4 k4 l4 o4 f4 => ⟨σ4, S4, f4, o4, lt.trans l4, k4⟩, (eo.rt.le (le.trans lt)), (eo.nx.le (le.trans lt)), fun σ4 S4 sl4 H4 k4 l4 o4 f4 => ⟨σ4, S4, f4, o4, lt.trans l4, k4⟩⟩, (xo.le (le.trans lt))⟩
    · have e : i = ts.length := by omega
      subst e
      rw [List.drop_length] at k'
      exact .inl ⟨stop _ (Nat.le_refl _), eo.nx σ' S' sl' H' k' (le.trans le') ok' fr'⟩⟩
/-- o.m() by the own def -/
structure MetDH (X : Cx) (m : Str) (D : Addr → SpT → Prop) : Prop where
  at_ : ∀ C sp, D C sp → ∃ k f fd ps, Cls X.K C ∧ Meth X.K C m f ∧ FnPT X.prog X.w X.K X.mg X.base k f fd ps sp ∧ L2H.RoomH k X.A ∧ Binds X.K fd ps []
theorem MetDH.one {C : Addr} {m : Str} (c : Cls X.K C) (hm : Meth X.K C m f) (F : FnPT X.prog X.w X.K X.mg X.base k f fd ps sp) (hr : L2H.RoomH k X.A) (cd : Binds X.K fd ps []) : MetDH X m (one C sp) := ⟨fun C' sp' ⟨e1, e2⟩ => by
  subst e1 e2
  exact ⟨k, f, fd, ps, c, hm, F, hr, cd⟩⟩
theorem MetDH.or {m : Str} {D1 D2 : Addr → SpT → Prop} (h1 : MetDH X m D1) (h2 : MetDH X m D2) : MetDH X m (fun C sp => D1 C sp ∨ D2 C sp) := ⟨fun C sp d => d.elim (h1.at_ C sp) (h2.at_ C sp)⟩
/-- str and repr by the own def -/
structure StrDH (P : Program) (w : World) (K : PySem.W.Frag) (mg : Str → Option Value) (base : Heap) (m : Str) (j : Nat) (D : Addr → SpT → Prop) : Prop where
  at_ : ∀ C sp, D C sp → ∃ k f fd ps, OwnDef K C m f ∧ FnPT P w K mg base k f fd ps sp ∧ k + 2 ≤ j ∧ Binds K fd ps []
theorem StrDH.one {P : Program} {w : World} {K : PySem.W.Frag} {mg : Str → Option Value} {base : Heap} {m : Str} {j : Nat} {C : Addr} (o : OwnDef K C m f) (F : FnPT P w K mg base k f fd ps sp) (hk : k + 2 ≤ j) (hb : Binds K fd ps []) : StrDH P w K mg base m j (one C sp) := ⟨fun C' sp' ⟨e1, e2⟩ => by
  subst e1 e2
  exact ⟨k, f, fd, ps, o, F, hk, hb⟩⟩
theorem StrDH.or {P : Program} {w : World} {K : PySem.W.Frag} {mg : Str → Option Value} {base : Heap} {m : Str} {j : Nat} {D1 D2 : Addr → SpT → Prop} (h1 : StrDH P w K mg base m j D1) (h2 : StrDH P w K mg base m j D2) : StrDH P w K mg base m j (fun C sp => D1 C sp ∨ D2 C sp) := ⟨fun C sp d => d.elim (h1.at_ C sp) (h2.at_ C sp)⟩
theorem StrDH.none {P : Program} {w : World} {K : PySem.W.Frag} {mg : Str → Option Value} {base : Heap} {m : Str} {j : Nat} : StrDH P w K mg base m j (fun _ _ => False) := ⟨fun _ _ d => d.elim⟩
theorem runOwnH {pins : List (Addr × Obj)} {sl : L2.St} {H : Hp} {s : Shared} {A : Around} {Q : VK} {R : Value → Shared → Prop} {x f : Addr} (F : FnPT X.prog X.w X.K X.mg X.base k f fd ps sp) (hb : Binds X.K fd ps []) (inv : Inv X pins sl H s) (gds : A.guards = some []) (room : L2H.RoomH k A) (hot : L2H.Hot1 A p) (mem : p ∈ X.pn) (env : Env0 X.prog X.w X.K X.mg X.base A X.stack s H)
    (h : UpF X.K sp [.ref x] H (fun v H' => (∃ y, v = .str y) ∧ Q v H') EF) (fin : ∀ y t s' , EP X pins sl Q (.str y t) s' → R (.str y t) s') {E : Value → Shared → Prop} : wpAny (model X.prog X.w) A (call (.ref f) [.ref x]) R E s := by
  have hl : ([Value.ref x] ++ []).length = ps.length := by
    rw [← F.fn.len p _ _ _ E0 h]
    rfl
  refine wpAny_call (codeAny_mono (F.fn.go A X.stack s H ⟨[.ref x], []⟩ ([Value.ref x] ++ []) [.ref x] _ E0 p gds room hot (pin_at inv mem) env (hb s [.ref x] inv.kIn hl) (.cons rfl .nil) h) fun r s' hq => ?_)
  cases r with
  | error e => exact False.elim hq
  | ok fl =>
    cases fl with
    | ret u =>
      obtain ⟨v, H', I3, rv, ⟨y, ey⟩, q3⟩ := inv.after hq
      subst ey
      obtain ⟨t, rfl⟩ := (show ∃ t, u = Value.str y t from rv)
      exact fin y t s' ⟨.str y, H', I3, ⟨t, rfl⟩, q3⟩
    | next => exact False.elim hq
    | brk => exact False.elim hq
    | cont => exact False.elim hq
theorem strOwnH {j : Nat} {D : Addr → SpT → Prop} (S : StrDH X.prog X.w X.K X.mg X.base "__str__" j D) (gds : X.A.guards = some []) (room : L2H.RoomH j X.A) (hot : L2H.Hot1 X.A p) (mem : p ∈ X.pn) : CallR X (.type "str") (RStrD X.K D) := by
  intro pins s sl H xs us Q inv vals want
  obtain ⟨C, sp, x, dx, fs, rfl, hx, d, h⟩ := want
  obtain ⟨k, f, fd, ps, O, F, hk, hb⟩ := S.at_ C sp d
  obtain ⟨u, rfl, ru⟩ := vals1 vals
  obtain rfl : u = Value.ref x := ru
  obtain ⟨mA, OA, _⟩ := ins_get inv.hok hx
  obtain ⟨od, J, _⟩ := OA.look
  have r2 : L2H.RoomH k X.A.in1.in1 := roomHIn (roomHIn (room.mono hk))
  exact PySem.W.kso_call (by have := r2.un; omega) inv.kIn J O.at_ O.fn (runOwnH (A := X.A.in1.in1) (R := PySem.W.StrBack (EP X pins sl Q)) F hb inv gds r2 hot mem inv.env0.in1.in1 h fun y t s' q => q)
theorem reprOwnH {j : Nat} {D : Addr → SpT → Prop} (S : StrDH X.prog X.w X.K X.mg X.base "__repr__" j D) (gds : X.A.guards = some []) (room : L2H.RoomH j X.A) (hot : L2H.Hot1 X.A p) (mem : p ∈ X.pn) : CallR X (.builtin "repr") (RStrD X.K D) := by
  intro pins s sl H xs us Q inv vals want
  obtain ⟨C, sp, x, dx, fs, rfl, hx, d, h⟩ := want
  obtain ⟨k, f, fd, ps, O, F, hk, hb⟩ := S.at_ C sp d
  obtain ⟨u, rfl, ru⟩ := vals1 vals
  obtain rfl : u = Value.ref x := ru
  obtain ⟨mA, OA, _⟩ := ins_get inv.hok hx
  obtain ⟨od, J, _⟩ := OA.look
  obtain ⟨m, fr⟩ := inv.fr
  have r1 : L2H.RoomH k X.A.in1 := roomHIn (room.mono (by omega))
  exact PySem.W.repr_K (by have := r1.un; omega) fr inv.ok.mod.kin J O.at_ O.fn (runOwnH (A := X.A.in1) (R := PySem.W.StrBack (EP X pins sl Q)) F hb inv gds r1 hot mem inv.env0.in1 h fun y t s' q => q)
end

/-! the end where defs make lambdas: their tables of code objects are tracked from the start -/
section
variable {P : Program} {w : World} {K : PySem.W.Frag} {mg mb : Str → Option Value} {k : Nat} {fa a : Addr} {fd : FuncData} {x : Str} {sp : Sp} {st : Shared} {vs : List Value} {ns : List Int} {cs : List (Addr × Addr)}
/-- what is known of the heap behind the top -/
structure Rear (K : PySem.W.Frag) (mg mb : Str → Option Value) (cs : List (Addr × Addr)) (h : Heap) : Prop where
  inK : K.In h
  g : h.Ns mainGlobals mg
  b : h.Ns builtinsNs mb
  boot : ∀ x : Str, x ≠ "__name__" → mb x = bootBuiltins x
  lim : h.NoLimit
  mods : ∃ mm, h.Ns sysModules mm
  main : ∃ bm ob, mg "__builtins__" = some (.ref bm) ∧ bm ≠ builtinsNs ∧ h.get? bm = some ob ∧ ob.cls = .type "module" ∧ ob.dict = some builtinsNs ∧ ob.data = .plain
  tab : ∀ p ∈ cs, h.get? p.2 = some { cls := .none, data := .fields #[] }
  head : ∀ p ∈ cs, PySem.W.CodeHd h p.1 p.2
  free : ∀ p ∈ cs, K.lookup p.2 = none
end
/-- the tables that stand -/
def TabsIn (T0 : List (Addr × Str)) (S : Store) : Prop := ∀ a q, S a = some (.tab q) ↔ (a, q) ∈ T0
section
variable {K : PySem.W.Frag} {Z : Addr → Prop} {S S' : Store} {H H1 : Hp} {T0 : List (Addr × Str)}
theorem TabsIn.tabs (t : TabsIn T0 S) (ok : Ok K Z S H) : LamX.Tabs T0 H := fun p m => by
  have k := ok.cl p.1
  rw [(t p.1 p.2).mpr m] at k
  exact k
theorem le_ext (x : LamX.ExtN H H1) : Le S H S H1 := fun a o e n nt => ⟨x a o e nt, n⟩
theorem Ok.ext (ok : Ok K Z S H) (t : TabsIn T0 S) (x : LamX.ExtN H H1) (tb : LamX.Tabs T0 H1) : Ok K Z S H1 := by
  refine ⟨fun a => ?_, fun a z => ?_⟩
  · have k := ok.cl a
    cases e : S a with
    | none => trivial
    | some c =>
      rw [e] at k
      cases c with
      | lst ts => obtain ⟨vs, q, r⟩ := k; exact ⟨vs, x _ _ q (fun _ e => nomatch e), r.le (le_ext x)⟩
      | ins C gs => obtain ⟨dx, fs, q, r⟩ := k; exact ⟨dx, fs, x _ _ q (fun _ e => nomatch e), r.le (le_ext x)⟩
      | tab q => exact tb (a, q) ((t a q).mp e)
  · obtain ⟨n, vs, e⟩ := ok.hid a z
    exact ⟨n, vs, x _ _ e vs.nt⟩
theorem le_same (x : Same H H1) : Le S H S H1 := fun a o e n _ => ⟨x a o e, n⟩
theorem Ok.same (ok : Ok K Z S H) (x : Same H H1) : Ok K Z S H1 := ok.le (le_same x) fun a n => by
  have k := ok.cl a
  cases e : S a with
  | none => exact absurd e n
  | some c =>
    rw [e] at k
    cases c with
    | lst ts => obtain ⟨vs, q, _⟩ := k; rw [q, x _ _ q]
    | ins C gs => obtain ⟨dx, fs, q, _⟩ := k; rw [q, x _ _ q]
    | tab w => obtain ⟨ps, q, _⟩ := k; rw [q, x _ _ q]
end
/-! a def that makes lambdas: its code object is known -/
theorem okTC {P : Program} {w : World} {K : PySem.W.Frag} {mg : Str → Option Value} {base : Heap} {k : Nat} {f c0 : Addr} {fd : FuncData} {ps : List Str} {sp : SpT} {x qual : Str} {st : Stmt} {N : List Str} {r : TRS} (cc : fd.code = .ref c0) (F : Fun K x qual st f fd) (S : FnScope N ps (defScope st)) (len : ∀ ts S R RE, sp ts S R RE → ts.length = ps.length)
    (bs : ∀ (A : Around) (out : List Env) (s : Shared) (H : Hp) (E : XK), A.guards = some [] → Room k (A.deeper (envOfC qual (defScope st) s.heap.objs.size f (.ref c0))) → BS (cxT P w K mg base N qual (defScope st) f (.ref c0) A out s H E) E (defBody st) r)
    (hsp : ∀ ts S R RE, sp ts S R RE → r { nx := fun _ S' => R .non S', rt := R, ex := RE } (startT N ts) S) : FnT P w K mg base (k + 1) f fd ps sp := by
  obtain ⟨_, _, _, _, _, _, cdv, _, _, e, lk, code⟩ := F.ex
  subst e
  have e2 : cdv = .ref c0 := cc
  subst e2
  refine ⟨okG0 lk code S (fun vs H Q E q => ?_) fun A out s H vs Q E g rm q => up_body (bs A out s H E g rm) hsp q⟩
  obtain ⟨Z, ts, S, R, RE, rs, ok, s, po, xo⟩ := q.ex
  exact rs.length.trans (len _ _ _ _ s)
/-- what a lambda of the def q is called -/
abbrev lamQ (q : Str) : Str := (q ++ (".<locals>." : Str)) ++ ("<lambda>" : Str)
/-! the law, with tables from the start -/
def sp_lawT (T0 : List (Addr × Str)) : SpT := fun ts S R _ => match ts with
  | [.scr l] => (∃ ns : List Int, l = ns.map T.int ∧ ns.length ≤ 63) ∧ TabsIn T0 S ∧ ∀ S', R (.bl true) S'
  | _ => False
def tabS (T0 : List (Addr × Str)) : Store := fun a => (T0.lookup a).map Cell.tab
theorem lookup_mem : ∀ {T0 : List (Addr × Str)} {a : Addr} {q : Str}, T0.lookup a = some q → (a, q) ∈ T0
  | [], _, _, h => nomatch h
  | (b, r) :: l, a, q, h => by
    by_cases e : a = b
    · subst e
      simp only [List.lookup, beq_self_eq_true, Option.some.injEq] at h
      subst h
      exact List.mem_cons_self
    · have ne : (a == b) = false := beq_eq_false_iff_ne.mpr e
      simp only [List.lookup, ne] at h
      exact List.mem_cons_of_mem _ (lookup_mem h)
theorem mem_lookup : ∀ {T0 : List (Addr × Str)} {a : Addr} {q : Str}, (T0.map (·.1)).Nodup → (a, q) ∈ T0 → T0.lookup a = some q
  | [], _, _, _, m => nomatch m
  | (b, r) :: l, a, q, nd, m => by
    rw [List.map_cons, List.nodup_cons] at nd
    rcases List.mem_cons.mp m with e | m
    · cases e
      simp [List.lookup]
    · have ne : (a == b) = false := by
        refine beq_eq_false_iff_ne.mpr fun e => nd.1 ?_
        rw [← e]
        exact List.mem_map.mpr ⟨_, m, rfl⟩
      simp only [List.lookup, ne]
      exact mem_lookup nd.2 m
theorem tabS_in {T0 : List (Addr × Str)} (nd : (T0.map (·.1)).Nodup) : TabsIn T0 (tabS T0) := fun a q => by
  unfold tabS
  constructor
  · intro h
    obtain ⟨r, e, z⟩ := Option.map_eq_some_iff.mp h
    cases z
    exact lookup_mem e
  · intro m
    rw [mem_lookup nd m]
    rfl
theorem law_wantT {K : PySem.W.Frag} {H : Hp} {a : Addr} {ns : List Int} {cs : List (Addr × Addr)} {T0 : List (Addr × Str)} (hl : ns.length ≤ 63) (nd : (T0.map (·.1)).Nodup) (hT : ∀ p ∈ T0, ∃ c, (c, p.1) ∈ cs) (hC : ∀ p ∈ cs, ∃ q, (p.2, q) ∈ T0)
    (tb : ∀ p ∈ cs, H p.2 = some (.tbl #[])) (only : ∀ b, H b = none ∨ (∃ p ∈ cs, p.2 = b) ∨ ∃ o xs, H b = some (.frz o (.lst xs))) (hS : SqL K H a (ns.map V.int)) : UpF K (sp_lawT T0) [.ref a] H (fun v _ => v = .bl true) EF := by
  have tin := tabS_in nd
  have none_of : ∀ {u : HO}, H a = some u → (∀ ps, u ≠ .tbl ps) → tabS T0 a = none := by
    intro u e nt
    cases h : tabS T0 a with
    | none => rfl
    | some c =>
      obtain ⟨q, e2, z⟩ := Option.map_eq_some_iff.mp h
      obtain ⟨c, m⟩ := hT _ (lookup_mem e2)
      have := tb _ m
      rw [e] at this
      cases this
      exact absurd rfl (nt _)
  have sc : ScrAt K (fun _ => False) (tabS T0) H a (ns.map V.int) := by
    rcases hS with h | h
    · rcases h with h | ⟨o, h⟩
      · rcases only a with z | ⟨p, hp, z⟩ | ⟨o, xs, z⟩
        · rw [h] at z; cases z
        · have := tb p hp; rw [z, h] at this; cases this
        · rw [h] at z; cases z
      · exact .inl ⟨⟨o, h⟩, none_of h (fun _ e => nomatch e), id⟩
    · exact .inr h
  refine ⟨fun _ => False, [.scr (ns.map T.int)], tabS T0, fun t _ => t = .bl true, XF, .cons (.scr sc (reps_ints ns)) .nil, ⟨fun b => ?_, fun _ z => z.elim⟩, ⟨⟨ns, rfl, hl⟩, tin, fun _ => rfl⟩, ?_, fun _ _ _ _ _ _ z => z.elim⟩
  · cases h : tabS T0 b with
    | none => trivial
    | some c =>
      obtain ⟨q, e2, z⟩ := Option.map_eq_some_iff.mp h
      subst z
      obtain ⟨c, m⟩ := hT _ (lookup_mem e2)
      exact LamX.TabS.nil (tb _ m)
  · intro t S' v H' e _ _ rep
    subst e
    cases rep
    rfl
/-! == and != of data, whatever texts are in it -/
mutual
theorem dat_plain : ∀ (x : T) {d : PyData}, x.dat = some d → d.plain = true
  | .non, d, h => by rw [T.dat] at h; cases h; rfl
  | .bl _, d, h => by rw [T.dat] at h; cases h; rfl
  | .int _, d, h => by rw [T.dat] at h; cases h; rfl
  | .str _, d, h => by rw [T.dat] at h; cases h; rfl
  | .lst l, d, h => by
    rw [T.dat] at h
    obtain ⟨ds, e, rfl⟩ := Option.map_eq_some_iff.mp h
    rw [PyData.plain]
    exact datL_plain l e
  | .tup l, d, h => by
    rw [T.dat] at h
    obtain ⟨ds, e, rfl⟩ := Option.map_eq_some_iff.mp h
    rw [PyData.plain]
    exact datL_plain l e
  | .ty _, d, h => by rw [T.dat] at h <;> first | cases h | (intros; nofun)
  | .st _, d, h => by rw [T.dat] at h <;> first | cases h | (intros; nofun)
  | .cell _, d, h => by rw [T.dat] at h <;> first | cases h | (intros; nofun)
  | .scr _, d, h => by rw [T.dat] at h <;> first | cases h | (intros; nofun)
  | .ins _ _, d, h => by rw [T.dat] at h <;> first | cases h | (intros; nofun)
  | .dct, d, h => by rw [T.dat] at h <;> first | cases h | (intros; nofun)
  | .exc _ _, d, h => by rw [T.dat] at h <;> first | cases h | (intros; nofun)
theorem datL_plain : ∀ (l : List T) {ds : List PyData}, T.datL l = some ds → PyData.plainAll ds = true
  | [], ds, h => by rw [T.datL] at h; cases h; rfl
  | t :: ts, ds, h => by
    rw [T.datL] at h
    split at h
    · rename_i d ds' e1 e2
      cases h
      rw [PyData.plainAll, dat_plain t e1, datL_plain ts e2]
      rfl
    · cases h
end
section
variable {X : Cx} {E : XK}
def rEqP (K : PySem.W.Frag) (ng : Bool) : R2 := fun x y H Q => ∃ d e, Dp K H x d ∧ Dp K H y e ∧ d.plain = true ∧ e.plain = true ∧ d.depth ≤ 64 ∧ Q (.bl (ng ^^ PyData.eqv d e)) H
theorem op_eqP (hu : X.A.units + 64 < cLine) : OpR X (compareOp .Eq) (rEqP X.K false) := by
  intro pins s σ H x y v u Q I rx ry h
  obtain ⟨d, e, hd, he, sd, se, dp, q⟩ := h
  obtain ⟨as, r1⟩ := Dp.reads I d x v hd rx
  obtain ⟨bs, r2⟩ := Dp.reads I e y u he ry
  rw [Bool.false_xor] at q
  exact PySem.SeqAt.eq_plain r1 r2 sd se (by have := Nat.min_le_left d.depth e.depth; omega) ⟨.bl _, H, I, rfl, q⟩
theorem op_neP (hu : X.A.units + 64 < cLine) : OpR X (compareOp .NotEq) (rEqP X.K true) := by
  intro pins s σ H x y v u Q I rx ry h
  obtain ⟨d, e, hd, he, sd, se, dp, q⟩ := h
  obtain ⟨as, r1⟩ := Dp.reads I d x v hd rx
  obtain ⟨bs, r2⟩ := Dp.reads I e y u he ry
  rw [Bool.true_xor] at q
  exact PySem.SeqAt.ne_plain r1 r2 sd se (by have := Nat.min_le_left d.depth e.depth; omega) ⟨.bl _, H, I, rfl, q⟩
def kEqP (ng : Bool) : KB := fun x y S R _ => ∃ d e, x.dat = some d ∧ y.dat = some e ∧ d.depth ≤ 64 ∧ R (.bl (ng ^^ PyData.eqv d e)) S
theorem cv_eqP {ng : Bool} : Conv X.K E (kEqP ng) (rEqP X.K ng) := by
  intro Z x y S v u H R RE Q ok rx ry kk po xo
  obtain ⟨d, e, hd, he, dp, k⟩ := kk
  exact ⟨d, e, rx.dp hd, ry.dp he, dat_plain x hd, dat_plain y he, dp, po _ _ _ _ k .refl ok (.bl _)⟩
/-- the same data -/
theorem eqP_same {ng : Bool} {x : T} {d : PyData} {S : Store} {R : T → Store → Prop} {RE : XT} (h : x.dat = some d) (dp : d.depth ≤ 64) (q : R (.bl (!ng)) S) : kEqP ng x x S R RE := by
  refine ⟨d, d, h, h, dp, ?_⟩
  rw [PySem.SeqAt.eqv_refl_plain d (dat_plain x h), Bool.xor_true]
  exact q
end

/-! [e for x in xs for y in ys] -/
def rComp2 (fr : T → Fm) (ri1 : TRI) (fr1 : T → T → Fm) (tt : TRB) (re : TR) : List T → List T → Store → (List T → Store → Prop) → Prop
  | [], acc, S, R => R acc S
  | t :: ts, acc, S, R => ri1 (fr t) S (fun us S1 => rComp (fr1 t) tt re us acc S1 (fun acc2 S2 => rComp2 fr ri1 fr1 tt re ts acc2 S2 R)) XF
def rLc2 (ri : TRI) (i : Nat) (ri1 : TRI) (j : Nat) (tt : TRB) (re : TR) : TR := fun σ S R RE => ri σ S (fun ts S1 => rComp2 (fun t => (σ.set j none).set i (some t)) ri1 (fun t u => ((σ.set j none).set i (some t)).set j (some u)) tt re ts [] S1 (fun ys S2 => R (.lst ys) S2)) RE
/-- J walks ts, whatever becomes of what is hidden -/
def SrcOkZ (K : PySem.W.Frag) (Z : Addr → Prop) (S0 : Store) (H0 : Hp) (J : It) (ts : List T) : Prop := ∀ S H, LeZ Z S0 H0 S H → Ok K Z S H →
  (∀ i t, ts[i]? = some t → J.go i H ∧ ∀ x H', J.yld i H x H' → Le S H S H' ∧ Ok K Z S H' ∧ Rep K Z S H' x t) ∧ ∀ i, ts.length ≤ i → J.stop i H
structure UpIZ (K : PySem.W.Frag) (E : XK) (r : TRI) (sl : L2.St) (H : Hp) (Q : It → Hp → Prop) : Prop where
  ex : ∃ Z σ S R RE, FrR K Z S H sl σ ∧ Ok K Z S H ∧ r σ S R RE ∧ (∀ ts S' J H', R ts S' → Le S H S' H' → Ok K Z S' H' → SrcOkZ K Z S' H' J ts → Q J H') ∧ XOk K Z S H RE E
structure ITZ (X : Cx) (E : XK) (tg it : Expr) (r : TRI) : Prop where
  pi : PI X tg it (UpIZ X.K E r)
theorem LeZ.trans {Z : Addr → Prop} {S S1 S2 : Store} {H H1 H2 : Hp} (a : LeZ Z S H S1 H1) (b : LeZ Z S1 H1 S2 H2) : LeZ Z S H S2 H2 := fun p o h n z nt => b p o (a p o h n z nt).1 (a p o h n z nt).2 z nt
/-! two fors: as a value, given to a name -/
section
variable {X : Cx} {E : XK}
/-! a name of the text that is a written tuple -/
structure GTup (K : PySem.W.Frag) (mg : Str → Option Value) (x : Str) (t : T) : Prop where
  ex : ∃ (v : V) (u : Value), mg x = some u ∧ RelV v u ∧ ∀ Z S H, Rep K Z S H v t
/-! for i, x in enumerate(a list) -/
def iEnumL (t : TRA) : TRI := fun σ S R RE => t σ S (fun xs S1 => ∃ ts, xs = [.lst ts] ∧ R (enumT ts) S1) RE
end

/-! the truth of a list that changes -/
def rTruC (ra : TR) : TRB := fun σ S R RE => ra σ S (fun x S1 => ∃ a l, x = .cell a ∧ S1 a = some (.lst l) ∧ R (!l.isEmpty) S1) RE
section
variable {X : Cx} {E : XK}
/-! {"k1": e1, "k2": e2}.get(x, d), truths -/
def rDget2 (k1 k2 : Str) (t1 t2 tx td : TR) : TR := fun σ S R _ => t1 σ S (fun y1 S1 => t2 σ S1 (fun y2 S2 => tx σ S2 (fun x S3 => td σ S3 (fun d S4 =>
  ∃ b1 b2 bd z, y1 = .bl b1 ∧ y2 = .bl b2 ∧ d = .bl bd ∧ x = .str z ∧ R (.bl (if z = k1 then b1 else if z = k2 then b2 else bd)) S4) XF) XF) XF) XF
/-! x in y, x data of any depth, y a tuple or a list of data -/
def rInP (K : PySem.W.Frag) (ng : Bool) : R2 := fun x y H Q => ∃ d ds, Dp K H x d ∧ (Dp K H y (.tuple ds) ∨ Dp K H y (.list ds)) ∧ d.plain = true ∧ PyData.plainAll ds = true ∧ d.depth ≤ 64 ∧ Q (.bl (ng ^^ ds.any fun z => PyData.eqv z d)) H
theorem op_inP (hu : X.A.units + 65 < cLine) : OpR X (compareOp .In) (rInP X.K false) := by
  intro pins s σ H x y v u Q I rx ry h
  obtain ⟨d, ds, hd, he, sd, se, dp, q⟩ := h
  obtain ⟨as, r1⟩ := Dp.reads I d x v hd rx
  have hm : X.A.units + 1 + min (PyData.depthAll ds) d.depth < cLine := by have := Nat.min_le_right (PyData.depthAll ds) d.depth; omega
  rw [Bool.false_xor] at q
  rcases he with he | he
  · obtain ⟨bs, r2⟩ := Dp.reads I (.tuple ds) y u he ry
    exact PySem.SeqAt.in_tuple_data r2 r1 se sd hm ⟨.bl _, H, I, rfl, q⟩
  · obtain ⟨bs, r2⟩ := Dp.reads I (.list ds) y u he ry
    exact PySem.SeqAt.in_list_data r2 r1 se sd hm ⟨.bl _, H, I, rfl, q⟩
def kInP (ng : Bool) : KB := fun x y S R _ => ∃ d ds, x.dat = some d ∧ (y.dat = some (.tuple ds) ∨ y.dat = some (.list ds)) ∧ d.depth ≤ 64 ∧ R (.bl (ng ^^ ds.any fun z => PyData.eqv z d)) S
theorem cv_inP {ng : Bool} : Conv X.K E (kInP ng) (rInP X.K ng) := by
  intro Z x y S v u H R RE Q ok rx ry kk po xo
  obtain ⟨d, ds, hd, he, dp, k⟩ := kk
  have pl : PyData.plainAll ds = true := by
    rcases he with he | he
    · have := dat_plain y he; rwa [PyData.plain] at this
    · have := dat_plain y he; rwa [PyData.plain] at this
  exact ⟨d, ds, rx.dp hd, he.imp (fun e => ry.dp e) (fun e => ry.dp e), dat_plain x hd, pl, dp, po _ _ _ _ k .refl ok (.bl _)⟩
end

section
variable {X : Cx} {E : XK} {ra : TR} {rl rh : TRO} {a : Expr} {lo hi : Option Expr} {p2 pos : Pos}
/-! a slice of a list that changes -/
def rSlC (ra : TR) (rl rh : TRO) : TR := fun σ S R RE => ra σ S (fun x S1 => rl σ S1 (fun lo S2 => rh σ S2 (fun hi S3 => ∃ a l, x = .cell a ∧ S3 a = some (.lst l) ∧ R (.lst (cutT l lo hi)) S3) RE) RE) RE
end

section
variable {X : Cx} {E : XK} {st : Stmt} {r : TRS} {K : PySem.W.Frag} {Z : Addr → Prop} {S : Store} {H : Hp}
/-- the same value, read as another tree -/
theorem FrR.as {sl : List (Option V)} {σ : List (Option T)} {v : V} {t t' : T} {i : Nat} (f : FrR K Z S H sl σ) (hs : sl[i]? = some (some v)) (rep : Rep K Z S H v t') : FrR K Z S H sl (σ.set i (some t')) := by
  have := f.set i rep
  have e : sl.set i (some v) = sl := by
    obtain ⟨h1, h2⟩ := List.getElem?_eq_some_iff.mp hs
    rw [← h2, List.set_getElem_self]
  rw [e] at this
  exact this
/-- from this statement on a list that changes changes no more -/
def sFrzV (i : Nat) (r : TRS) : TRS := fun D σ S => ∃ a ts, σ[i]? = some (some (.cell a)) ∧ S a = some (.lst ts) ∧ r D (σ.set i (some (.lst ts))) (S.drop a)
/-- behind this statement the list that the name had before is not read -/
def sDrp (i : Nat) (r : TRS) : TRS := fun D σ S => ∃ a, σ[i]? = some (some (.cell a)) ∧ r { D with nx := fun σ' S' => D.nx σ' (S'.drop a) } σ S
end

/-! ### t[::-1] of a tuple -/
section
variable {prog : Program} {w : World} {A : Around} {E : Value → Shared → Prop} {s : Shared}
end
structure RRevT (K : PySem.W.Frag) (x : V) (H : Hp) (Q : VK) : Prop where
  ex : ∃ a xs, x = .ref a ∧ SqT K H a xs ∧ xs ≠ [] ∧ ∀ p, H p = none → Q (.ref p) (upd H p (.tup xs.reverse))
def tRevT (K : PySem.W.Frag) (te : TE) : TE := fun σ H Q => te σ H fun x H1 => RRevT K x H1 Q
/-- t[::-1] -/
def rRevT (ra : TR) : TR := fun σ S R RE => ra σ S (fun x S1 => ∃ l, x = .tup l ∧ l ≠ [] ∧ R (.tup l.reverse) S1) RE
/-! {"k1": "v1", "k2": "v2"}[x] -/
section
variable {X : Cx} {E : XK}
def rDix2 (k1 k2 : Str) (t1 t2 tx : TR) : TR := fun σ S R _ => t1 σ S (fun y1 S1 => t2 σ S1 (fun y2 S2 => tx σ S2 (fun x S3 =>
  ∃ b1 b2 z, y1 = .str b1 ∧ y2 = .str b2 ∧ x = .str z ∧ ((z = k1 ∧ R (.str b1) S3) ∨ (z = k2 ∧ R (.str b2) S3))) XF) XF) XF
end

/-! zip(tuple, tuple) -/
section
open RZ
def iZipT (t : TRA) : TRI := fun σ S R RE => t σ S (fun xs S1 => ∃ ts us, xs = [.tup ts, .tup us] ∧ R (zipT ts us) S1) RE
end

/-! max of a tuple of whole numbers -/
def maxN (n : Int) (ns : List Int) : Int := ns.foldl (fun a y => if a < y then y else a) n
def rMaxT (K : PySem.W.Frag) : List V → Hp → VK → Prop := fun vs H Q => ∃ (a : Addr) (n : Int) (ns : List Int), vs = [V.ref a] ∧ SqT K H a ((n :: ns).map V.int) ∧ Q (.int (maxN n ns)) H
def kMaxT : KA := fun xs S R _ => ∃ (n : Int) (ns : List Int), xs = [.tup ((n :: ns).map T.int)] ∧ R (.int (maxN n ns)) S
/-! o(e, ..): an instance is called -/
section
variable {X : Cx} {E : XK} {C f : Addr} {fd : FuncData} {k : Nat} {ps : List Str} {sp : SpT} {fe e : Expr} {es : List Expr} {pos : Pos} {rf : TR} {t : TRA}
def rCallOwn (C : Addr) (sp : SpT) (rf : TR) (t : TRA) : TR := fun σ S R RE => rf σ S (fun x S1 => ∃ gs, x = .ins C gs ∧ t σ S1 (fun xs S2 => sp (x :: xs) S2 R RE) RE) RE
end

/-! ### x, *xs = a tuple, the list changes -/
namespace StarU
open PySem PySem.Spec PySem.Calls PyProof.Rows PySem.W
end StarU
def gStarVT (K : PySem.W.Frag) (t : TGs) : TG := fun v σ H Q => ∃ a x xs, v = .ref a ∧ SqT K H a (x :: xs) ∧ xs.length < 16384 ∧ ∀ D, H D = none → t [x, .ref D] σ (upd H D (.lst xs)) Q
section
variable {X : Cx} {E : XK} {pos p1 p2 p3 : Pos} {x y : Str}
def gStarTC (gs : TRGs) : TRG := fun t σ S R RE => ∃ a l, t = .tup (a :: l) ∧ l.length < 16384 ∧ ∀ D, S D = none → gs [a, .cell D] σ (S.put D (.lst l)) R RE
end
/-! ### *x in a written tuple or list, x a list that changes, a list or a tuple -/
section
variable {X : Cx} {E : XK} {e : Expr} {es : List Expr} {p : Pos} {ra : TR} {t : TRA}
def itemsT : T → Store → Option (List T)
  | .cell a, S => match S a with
    | some (.lst l) => some l
    | _ => none
  | .lst l, _ => some l
  | .tup l, _ => some l
  | _, _ => none
def rStarA (ra : TR) (t : TRA) : TRA := fun σ S R RE => ra σ S (fun x S1 => ∃ l, itemsT x S1 = some l ∧ t σ S1 (fun ys S2 => R (l ++ ys) S2) RE) RE
end
/-! ### list(x), the new list changes -/
section
variable {X : Cx} {E : XK}
def kListC : KA := fun xs S R _ => ∃ x l, xs = [x] ∧ seqOf x = some l ∧ ∀ a, S a = none → R (.cell a) (S.put a (.lst l))
end
/-! ### NAME.index(z), a written tuple of texts -/
structure GStrs (K : PySem.W.Frag) (mg : Str → Option Value) (x : Str) (ys : List Str) : Prop where
  ex : ∃ (A : Addr) (its : Array Value) (n : Nat) (sl : Array (Option Value)), mg x = some (.ref A) ∧ K.lookup A = some ⟨.type "tuple", none, .seq its n, sl⟩ ∧ its.size ≤ sizeLine ∧ Vals (ys.map V.str) its.toList
section
variable {X : Cx} {E : XK}
def rTidx (ys : List Str) (t : TRA) : TR := fun σ S R RE => t σ S (fun xs S2 => ∃ z j, xs = [.str z] ∧ ys[j]? = some z ∧ (∀ m, m < j → ys[m]? ≠ some z) ∧ R (.int (j : Nat)) S2) RE
end

/-! ### a comprehension whose list changes -/
section
variable {X : Cx} {E : XK} {pos : Pos}
def rLcC (ri : TRI) (j : Nat) (tt : TRB) (re : TR) : TR := fun σ S R RE => ri σ S (fun ts S1 => rComp (fun t => σ.set j (some t)) tt re ts [] S1 (fun ys S2 => ∀ a, S2 a = none → R (.cell a) (S2.put a (.lst ys)))) RE
end

/-! ### t[a:b] of a tuple, the whole of it too -/
def rSlW (ra : TR) (rl rh : TRO) : TR := fun σ S R RE => ra σ S (fun x S1 => rl σ S1 (fun l S2 => rh σ S2 (fun h S3 => ∃ ts, x = .tup ts ∧ R (.tup (cutT ts l h)) S3) RE) RE) RE
section
variable {X : Cx} {E : XK} {a lo hi : Expr} {p2 pos : Pos} {ra : TR} {rl rh : TRO}
end

/-! ### a, b = a list of two -/
def gTupLV (K : PySem.W.Frag) (n : Nat) (t : TGs) : TG := fun v σ H Q => ∃ a xs, v = .ref a ∧ SqL K H a xs ∧ xs.length = n ∧ t xs σ H Q
section
variable {X : Cx} {E : XK} {pos : Pos}
def gTupL (n : Nat) (gs : TRGs) : TRG := fun t σ S R RE => ∃ ts, t = .lst ts ∧ ts.length = n ∧ gs ts σ S R RE
end

/-! integers of many digits, where no limit of digits was set -/
namespace BigI
open PySem PySem.Calls PySem.NumText PySem.W PySem.W.KIN PyProof.Rows
section
variable {prog : Program} {w : World} {A : Around} {E : Value → Shared → Prop} {s : Shared} {a : Int} {t : Tok}
theorem code_repr {R : Result → Shared → Prop} (hn : s.heap.NoDigits) (hl : a.natAbs < 10 ^ 4300) (h : R (.ok (.ret (.str (toString a) s.toks))) { s with toks := s.toks + 1 }) :
    codeAny (model prog w) A (.builtin "int.__repr__" ⟨[.int a t], []⟩) R s := by
  refine codeAny_builtin entry_int_repr ?_
  rw [Around.under_plainId plain_int_repr _]
  unfold Builtin.«int.__repr__»
  show wpAny _ _ (do let r ← Builtin.overDigitLimit? a; _) _ _ s
  refine wpAny_bind (overDigitLimit_any hn (fun _ => ?_) (fun hge => absurd hl (Nat.not_lt.mpr hge)))
  exact wpAny_bind (wpAny_mkStr (wpAny_pure h) (int_text_fits10 hl))
theorem call_repr0 {Q : Value → Shared → Prop} (hn : s.heap.NoDigits) (hl : a.natAbs < 10 ^ 4300) (h : Q (.str (toString a) s.toks) { s with toks := s.toks + 1 }) :
    wpAny (model prog w) A (call (.builtin "int.__repr__") [.int a t]) Q E s := by
  refine wpAny_call_entry F.slot_int_repr (typeIs_int s a t) F.entry_int_repr ?_ (F.args_int_repr_1 _)
  unfold Builtin.«int.__repr__»
  show wpAny _ _ (do let r ← Builtin.overDigitLimit? a; _) _ _ s
  refine wpAny_bind (overDigitLimit_any hn (fun _ => ?_) (fun hge => absurd hl (Nat.not_lt.mpr hge)))
  exact wpAny_bind (wpAny_mkStr (wpAny_pure ⟨_, rfl, h⟩) (int_text_fits10 hl))
theorem field {Q : Value → Shared → Prop} (hn : s.heap.NoDigits) (hl : a.natAbs < 10 ^ 4300)
    (h : Q (.str (toString a) (s.toks + 1)) { s with toks := s.toks + 1 + 1 }) :
    wpAny (model prog w) A (formatField (.int a t) Str.empty) Q E s := by
  show wpAny _ _ (holding [.int a t] (pyFormat (.int a t) Str.empty)) Q E s
  refine wpAny_holding ?_
  unfold pyFormat
  refine wpAny_bind (wpAny_mkStr ?_ (by decide))
  refine wpAny_bind (m := callSpecial? (.int a t) (Str.ofString "__format__") [.str Str.empty s.toks]) (wpAny_callSpecial?_slot (name := Str.ofString "__format__") (typeIs_int _ a t) slot_int_format ?_)
  refine wpAny_call (codeAny_call_builtin slot_int_format.plain entry_int_format (slot_int_format.check _ _ _ _ _ _ _ _ (typeIs_int _ a t) (args_int_format _ _) ?_))
  show wpAny _ _ (do let _kind ← typeNameOf (.str Str.empty s.toks); (do rule "int.format.empty"; again (.builtin "int.__repr__" ⟨[.int a t], []⟩))) _ _ _
  refine wpAny_bind (wpAny_typeNameOf (T := "str") (typeIs_str _ _ _) (by decide) fun _ => wpAny_bind (wpAny_rule (wpAny_pure ⟨plainId_quiet plain_int_repr _, code_repr hn hl ?_⟩)))
  show wpAny _ _ (do if ← isInstance (.str (toString a) (s.toks + 1)) (.type "str") then return (.str (toString a) (s.toks + 1)) else _) Q E _
  exact wpAny_bind (wpAny_isInstance (typeIs_str _ _ _) isSubtype_str_str (wpAny_pure h))
theorem reprObj {Q : Value → Shared → Prop} (hn : s.heap.NoDigits) (hl : a.natAbs < 10 ^ 4300) (h : Q (.str (toString a) s.toks) { s with toks := s.toks + 1 }) : wpAny (model prog w) A (pyReprObj (.int a t)) Q E s := by
  have hv : [Value.int a t].any Value.onHeap = false := rfl
  unfold pyReprObj
  simp only [cRoomFor, hv, Bool.false_eq_true, if_false, pure_bind]
  refine wpAny_bind (wpAny_specialOf (name := Str.ofString "__repr__") (typeIs_int s a t) F.slot_int_repr.lookup ?_)
  refine wpAny_bind (m := callSpecialIfBound? (.int a t) (Str.ofString "__repr__")) (wpAny_callSpecialIfBound?_slot (name := Str.ofString "__repr__") (typeIs_int s a t) F.slot_int_repr (call_repr0 hn hl ?_))
  exact wpAny_bind (wpAny_isInstance (T := "str") (b := true) rfl isSubtype_str_str (wpAny_pure h))
theorem call_repr {Q : Value → Shared → Prop} (hn : s.heap.NoDigits) (hl : a.natAbs < 10 ^ 4300) (h : Q (.str (toString a) s.toks) { s with toks := s.toks + 1 }) : wpAny (model prog w) A (call (.builtin "repr") [.int a t]) Q E s := by
  have hv : [Value.int a t].any Value.onHeap = false := rfl
  refine Calls.call_function_entry F.kind_repr F.plain_repr F.entry_repr (F.args_repr1 _) ?_
  unfold Builtin.«repr»
  refine wpAny_bind (m := oneArg "repr" _) (wpAny_pure ?_)
  simp only [cRoomFor, hv, Bool.false_eq_true, if_false, pure_bind]
  refine wpAny_bind (wpAny_specialOf (name := Str.ofString "__repr__") (typeIs_int s a t) F.slot_int_repr.lookup ?_)
  refine wpAny_bind (m := callSpecialIfBound? (.int a t) (Str.ofString "__repr__")) (wpAny_callSpecialIfBound?_slot (name := Str.ofString "__repr__") (typeIs_int s a t) F.slot_int_repr (call_repr0 hn hl ?_))
  refine wpAny_bind (wpAny_isInstance (T := "str") (b := true) rfl isSubtype_str_str ?_)
  exact wpAny_pure ⟨_, rfl, h⟩
/-- in a repr of what holds it -/
theorem reprK {h₀ : Heap} {as : List Addr} {d : Nat} (hn : h₀.NoDigits) (hl : a.natAbs < 10 ^ 4300) : ReprK prog w as h₀ d (.int a t) (toString a) := by
  intro base hb A g E s Q _ _ _ hk0 hQ
  have hn' : base ≤ sizeLine := by omega
  rw [pyReprUnder_leaf (v := .int a t) hn' (fun _ e => nomatch e)]
  unfold pyRepr
  exact wpAny_bind (reprObj (hn.keeps hk0) hl (wpAny_pure (hQ s.heap _ fun _ _ e => e)))
end
theorem wp_text2 {M : Model} {A : Around} {E : Value → Shared → Prop} {s : Shared} {Q : Value → Shared → Prop} {v : Value} {text : List Nat} {n : Int} (hnd : s.heap.NoDigits)
    (hs : ¬ (text.takeWhile (· != 0)).length ≤ 640) (hr : (int_private% "readNumeral") 4300 10 (text.takeWhile (· != 0)) = (int_private% "Numeral.value") n)
    (ha : ((text.takeWhile (· != 0)).length == text.length) = true) (h : Q (.int n s.toks) { s with toks := s.toks + 1 }) :
    wpAny M A ((int_private% "intFromText") v text 10) Q E s := by
  obtain ⟨mc, hns, hnone⟩ := hnd
  have lim : ∀ (Q : Nat → Shared → Prop) (E : Value → Shared → Prop), Q 4300 s → wpAny M A Builtin.intMaxStrDigits Q E s := fun Q E q => by
    unfold Builtin.intMaxStrDigits
    refine wpAny_bind (wpAny_nsGet hns ?_)
    rw [hnone]
    exact wpAny_pure q
  obtain ⟨hp, g, d, tk, os⟩ := s
  repeat (any_goals (first
    | assumption
    | (with_reducible refine wpAny_ite_false (decide_eq_false hs) ?_)
    | (with_reducible refine wpAny_ite_true (decide_eq_true ha) ?_)
    | (refine lim _ _ ?_)
    | wp_step))
  all_goals (try rw [hr])
  all_goals (try dsimp only)
  repeat (any_goals (first
    | assumption
    | (with_reducible refine wpAny_ite_true (decide_eq_true ha) ?_)
    | wp_step))
end BigI
namespace BigI
open PySem PySem.Calls PySem.NumText PySem.W PySem.W.KIN PyProof.Rows
set_option maxHeartbeats 4000000 in
theorem meets_text2 {x : PySem.Str} {u : Tok} {n : Int} (hl : x.length ≤ 4300) (hn : PySem.intText? x = some n) : Meets (Builtin.«int.__new__» ⟨[.type "int", .str x u], []⟩) (fun _ R s => s.heap.NoDigits ∧ R (.ok (.ret (.int n s.toks))) { s with toks := s.toks + 1 }) := by
  by_cases short : (numSeenOf x).length ≤ 640
  · refine (show Gives (Builtin.«int.__new__» ⟨[.type "int", .str x u], []⟩) (.int n) from ?_).meets.of_imp fun A R s h => h.2
    exact .of_wp fun M A E s Q h => by
      obtain ⟨hp, g, d, tk, os⟩ := s
      have f1 := F.conv_sub_int
      have f2 := F.madeHere_int
      have f3 := str_int
      have f4 := str_idx
      have f5 := str_trunc
      have f6 : typeOf (.str x u) = pure (.type "str") := rfl
      have hr : (int_private% "readNumeral") 0 10 (numSeenOf x) = (int_private% "Numeral.value") n ∧ ((numSeenOf x).length == (numTextOf x).length) = true := by
        rcases read0 x short with ⟨m, h1, h2, h3⟩ | ⟨h1, _⟩
        · rw [hn] at h1
          injection h1 with h1
          subst h1
          exact ⟨h3, h2⟩
        · rw [hn] at h1
          cases h1
      have hk := Hid.mk (And.intro short hr)
      clear short hr hl hn
      repeat (any_goals (first
        | assumption
        | ((with_reducible show wpAny _ _ ((int_private% "intFromText") _ _ _) _ _ _); refine wp_text hk.out.1 hk.out.2.1 hk.out.2.2 ?_)
        | wp_step))
      all_goals first | exact ⟨_, rfl, h⟩ | skip
  · refine .of_wp fun prog w A R s h => by
      obtain ⟨nd, h⟩ := h
      have f1 := F.conv_sub_int
      have f2 := F.madeHere_int
      have f3 := str_int
      have f4 := str_idx
      have f5 := str_trunc
      have f6 : typeOf (.str x u) = pure (.type "str") := rfl
      have hr : (int_private% "readNumeral") 4300 10 (numSeenOf x) = (int_private% "Numeral.value") n ∧ ((numSeenOf x).length == (numTextOf x).length) = true := by
        rcases read4300 x (by rw [sizeLine_eq]; omega) with ⟨m, h1, h2, h3⟩ | ⟨h1, _⟩
        · rw [hn] at h1
          injection h1 with h1
          subst h1
          exact ⟨h3, h2⟩
        · rw [hn] at h1
          cases h1
      have hk := Hid.mk (And.intro short (And.intro hr nd))
      clear short hr hl hn nd
      obtain ⟨hp, g, d, tk, os⟩ := s
      repeat (any_goals (first
        | assumption
        | ((with_reducible show wpAny _ _ ((int_private% "intFromText") _ _ _) _ _ _); refine wp_text2 hk.out.2.2 hk.out.1 hk.out.2.1.1 hk.out.2.1.2 ?_)
        | wp_step))
      all_goals first | exact ⟨_, rfl, h⟩ | skip
theorem call_text2 {prog : Program} {w : World} {A : Around} {E : Value → Shared → Prop} {s : Shared} {Q : Value → Shared → Prop} {x : PySem.Str} {t : Tok} {n : Int} (nd : s.heap.NoDigits) (hn : PySem.intText? x = some n) (hl : x.length ≤ 4300) (h : Q (.int n s.toks) { s with toks := s.toks + 1 }) : wpAny (model prog w) A (call (.type "int") [.str x t]) Q E s :=
  call_int_1 (meets_text2 hl hn) ⟨nd, ⟨rfl, h⟩⟩
end BigI
theorem big_lt {i : Int} (h : i.natAbs < 2 ^ 14000) : i.natAbs < 10 ^ 4300 := Nat.lt_of_lt_of_le h (by decide +kernel)
section
variable {X : Cx} {E : XK} {e : Expr} {pos : Pos} {ra : TR} {te : TE}
theorem nd_at {pins : List (Addr × Obj)} {sl : L2.St} {H : Hp} {s : Shared} (nd : X.base.NoDigits) (I : Inv X pins sl H s) : s.heap.NoDigits := nd.keeps I.bk
/-! f-strings of integers of many digits -/
def tFmtB (te : TE) : TE := fun σ H Q => te σ H fun x H1 => (∃ y : Str, x = .str y ∧ y.length ≤ sizeLine ∧ Q (.str y) H1) ∨ ∃ i : Int, x = .int i ∧ i.natAbs < 2 ^ 14000 ∧ Q (.str (toString i)) H1
theorem pe_fmtB (nd : X.base.NoDigits) (he : PE X e te) : PE X (.FormattedValue e (-1) none pos) (tFmtB te) := by
  refine ⟨fun pins s σ H Q I h => ?_⟩
  refine wpAny_FormattedValue_plain (thn (he.run pins s σ H _ I h) fun v s1 hv => ?_)
  obtain ⟨x, H1, I1, r1, q⟩ := hv
  rcases q with ⟨y, rfl, hz, q⟩ | ⟨i, rfl, hz, q⟩
  · obtain ⟨t, rfl⟩ := r1
    exact wpAny_formatField_str ⟨.str y, H1, I1, ⟨t, rfl⟩, q⟩ ⟨.str y, H1, I1.tok _, ⟨_, rfl⟩, q⟩ hz
  · obtain ⟨t, rfl⟩ := r1
    exact BigI.field (nd_at nd I1) (big_lt hz) ⟨.str (toString i), H1, I1.tok _, ⟨_, rfl⟩, q⟩
def kFmtB : T → Store → (T → Store → Prop) → Prop := fun x S R => match x with
  | .str y => y.length ≤ sizeLine ∧ R (.str y) S
  | .int i => i.natAbs < 2 ^ 14000 ∧ R (.str (toString i)) S
  | _ => False
def rFmtB (ra : TR) : TR := fun σ S R RE => ra σ S (fun x S1 => kFmtB x S1 R) RE
theorem et_fmtB (nd : X.base.NoDigits) (ha : ET X E e ra) : ET X E (.FormattedValue e (-1) none pos) (rFmtB ra) :=
  ⟨pe_weak (pe_fmtB nd ha.pe) fun sl H Q ⟨⟨Z, σ, S, R, RE, fr, ok, w, po, xo⟩⟩ => ⟨Z, σ, S, _, RE, fr, ok, w, fun x S1 v H1 k le ok1 rep => by
    replace k : kFmtB x S1 R := k
    unfold kFmtB at k
    split at k
    · cases rep
      exact .inl ⟨_, rfl, k.1, po _ _ _ _ k.2 le ok1 (.str _)⟩
    · cases rep
      exact .inr ⟨_, rfl, k.1, po _ _ _ _ k.2 le ok1 (.str _)⟩
    · exact k.elim, xo⟩⟩
/-! int(text) of many digits -/
def kIntB : KA := fun xs S R _ => ∃ a n, xs = [.str a] ∧ PySem.intText? a = some n ∧ a.length ≤ 4300 ∧ R (.int n) S
theorem call_int_strB (nd : X.base.NoDigits) : CallR X (.type "int") (fun xs H Q => ∃ a n, xs = [.str a] ∧ PySem.intText? a = some n ∧ a.length ≤ 4300 ∧ Q (.int n) H) := by
  intro pins s σ H xs us Q I r h
  obtain ⟨a, n, rfl, hn, hl, q⟩ := h
  obtain ⟨u, rfl, t, rfl⟩ := vals1 r
  exact BigI.call_text2 (nd_at nd I) hn hl ⟨.int n, H, I.tok _, ⟨_, rfl⟩, q⟩
theorem cv_intB : ConvA X.K E kIntB (fun xs H Q => ∃ a n, xs = [.str a] ∧ PySem.intText? a = some n ∧ a.length ≤ 4300 ∧ Q (.int n) H) := by
  intro Z xs S vs H R RE Q ok rs ⟨a, n, e, hn, hl, k⟩ po xo
  subst e
  cases rs with
  | cons r rr =>
    cases rr; cases r
    exact ⟨_, _, rfl, hn, hl, po _ _ _ _ k .refl ok (.int _)⟩
/-! repr of data with integers of many digits -/
end
mutual
def showB : PyData → Prop
  | .int i => i.natAbs < 2 ^ 14000
  | .list xs | .tuple xs => showBAll xs
  | .dict kvs => kvs = []
  | _ => True
def showBAll : List PyData → Prop
  | [] => True
  | x :: xs => showB x ∧ showBAll xs
end
section
variable {prog : Program} {w : World} {h₀ : Heap}
mutual
theorem reprB_of_reads (nd : h₀.NoDigits) : ∀ {v : Value} {d : PyData} {as : List Addr}, Reads h₀ v d as → showB d → (d.hasDict = true → sysModules ∉ as) → d.shown.length ≤ sizeLine → ∃ bs, ReadAtMost h₀ d.depth bs ∧ ReprK prog w bs h₀ d.depth v d.shown
  | _, _, _, .none, _, _, _ => ⟨[], (fun _ h => nomatch h), by simp only [PyData.shown]; exact .of_is ReprIs.none _ _ _⟩
  | _, _, _, .bool b, _, _, _ => ⟨[], (fun _ h => nomatch h), by simp only [PyData.shown]; exact .of_is (ReprIs.bool b) _ _ _⟩
  | _, _, _, .int i t, hs, _, _ => ⟨[], (fun _ h => nomatch h), by simp only [PyData.shown]; exact BigI.reprK nd (big_lt (by simpa only [showB] using hs))⟩
  | _, _, _, .str x t, _, _, hz => ⟨[], (fun _ h => nomatch h), by simp only [PyData.shown]; exact .of_is (ReprIs.str x t (by simpa only [PyData.shown] using hz)) _ _ _⟩
  | _, _, _, .list (a := a) (vs := vs) (xs := xs) h1 h2 h3 h4, hs, hsm, hz => by
    have hz' : (listText (PyData.shownAll xs)).length ≤ sizeLine := by simpa only [PyData.shown] using hz
    obtain ⟨bs, hb, hk⟩ := reprBAll_of_reads nd h4 (by simpa only [showB] using hs) (fun hx hm => hsm (by simpa [PyData.hasDict] using hx) (List.mem_cons_of_mem _ hm)) (fun t ht => Nat.le_trans (listText_mem_le ht) hz')
    have r : Reads h₀ (.ref a) (.list xs) _ := .list h1 h2 h3 h4
    have hna : a ∉ bs := not_mem_of_deeper r (by simp only [PyData.depth]; omega) hb
    refine ⟨a :: bs, ReadAtMost.cons r (by simp only [PyData.depth]; omega) hb, ?_⟩
    simp only [PyData.depth, PyData.shown]
    obtain ⟨l⟩ := vs
    cases l with
    | nil =>
      have h4' : ReadsAll h₀ [] xs _ := h4
      cases h4'
      simp only [PyData.shownAll, listText_nil]
      exact ReprK.listEmpty h1 h2 h3
    | cons x l => exact ReprK.list h1 h2 h3 hna (by simpa using hk.length_eq) (fun i y e => hk.item i y (by simpa using e))
  | _, _, _, .tuple (a := a) (xs := xs) h1 h2 h3 h4, hs, hsm, hz => by
    have hz' : (tupleText (PyData.shownAll xs)).length ≤ sizeLine := by simpa only [PyData.shown] using hz
    obtain ⟨bs, hb, hk⟩ := reprBAll_of_reads nd h4 (by simpa only [showB] using hs) (fun hx => hsm (by simpa [PyData.hasDict] using hx)) (fun t ht => Nat.le_trans (tupleText_mem_le ht) hz')
    have r : Reads h₀ (.ref a) (.tuple xs) _ := .tuple h1 h2 h3 h4
    have hna : a ∉ bs := not_mem_of_deeper r (by simp only [PyData.depth]; omega) hb
    refine ⟨a :: bs, ReadAtMost.cons r (by simp only [PyData.depth]; omega) hb, ?_⟩
    simp only [PyData.depth, PyData.shown]
    exact ReprK.tuple h1 h2 h3 hna hk
  | _, _, _, .dict (a := a) (es := es) (kvs := kvs) (as := as₁) (bs := bs₁) h1 h2 h3 h4 h5, hs, hsm, hz => by
    have hk : kvs = [] := by simpa only [showB] using hs
    subst hk
    exact ReprK.of_reads (.dict h1 h2 h3 h4 h5) (by simp only [PyData.showable, PyData.showableKv]) hsm hz
theorem reprBAll_of_reads (nd : h₀.NoDigits) : ∀ {vs : List Value} {ds : List PyData} {as : List Addr}, ReadsAll h₀ vs ds as → showBAll ds → (PyData.hasDictAll ds = true → sysModules ∉ as) → (∀ t ∈ PyData.shownAll ds, t.length ≤ sizeLine) →
    ∃ bs, ReadAtMost h₀ (PyData.depthAll ds) bs ∧ ReprAllK prog w bs h₀ (PyData.depthAll ds) vs (PyData.shownAll ds)
  | _, _, _, .nil, _, _, _ => ⟨[], (fun _ h => nomatch h), by simp only [PyData.shownAll]; exact .nil⟩
  | _, _, _, .cons (d := d) (ds := ds) r rs, hs, hsm, hz => by
    have hs' : showB d ∧ showBAll ds := by simpa only [showBAll] using hs
    obtain ⟨b1, hb1, k1⟩ := reprB_of_reads nd r hs'.1 (fun hx hm => hsm (by simp only [PyData.hasDictAll, hx, Bool.true_or]) (List.mem_append_left _ hm)) (hz _ (by simp only [PyData.shownAll]; exact List.mem_cons_self ..))
    obtain ⟨b2, hb2, k2⟩ := reprBAll_of_reads nd rs hs'.2 (fun hx hm => hsm (by simp only [PyData.hasDictAll, hx, Bool.or_true]) (List.mem_append_right _ hm)) (fun t ht => hz t (by simp only [PyData.shownAll]; exact List.mem_cons_of_mem _ ht))
    refine ⟨b1 ++ b2, ?_, ?_⟩
    · intro b hm
      simp only [PyData.depthAll]
      rcases List.mem_append.mp hm with hm | hm
      · obtain ⟨d', as', r', hd'⟩ := hb1 b hm
        exact ⟨d', as', r', Nat.le_trans hd' (Nat.le_max_left _ _)⟩
      · obtain ⟨d', as', r', hd'⟩ := hb2 b hm
        exact ⟨d', as', r', Nat.le_trans hd' (Nat.le_max_right _ _)⟩
    · simp only [PyData.depthAll, PyData.shownAll]
      exact .cons ((k1.more fun b hb => List.mem_append_left _ hb).level_le (Nat.le_max_left _ _)) (k2.more_le (fun b hb => List.mem_append_right _ hb) (Nat.le_max_right _ _))
end
end
structure SqB (d : PyData) : Prop where
  sh : showB d
  dp : d.depth ≤ 64
  ln : d.shown.length ≤ 16777216
structure RDB (K : PySem.W.Frag) (xs : List V) (H : Hp) (Q : VK) : Prop where
  ex : ∃ (v : V) (d : PyData), xs = [v] ∧ Dq K H v d ∧ SqB d ∧ Q (.str d.shown) H
theorem reprDB {X : Cx} (nd : X.base.NoDigits) (sys : ∃ o, X.base.get? sysModules = some o) (gds : X.A.guards = some []) (room : X.A.units + 70 < cLine) : CallR X (.builtin "repr") (RDB X.K) := by
  intro pins st sl H xs us Q inv vals want
  obtain ⟨v, d, e, dq, sq, q⟩ := want.ex
  subst e
  obtain ⟨u, eu, rel⟩ := vals1 vals
  subst eu
  obtain ⟨ob, hb⟩ := sys
  have free := (inv.bs _ _ hb).2
  have len : d.shown.length ≤ sizeLine := by rw [sizeLine_eq]; exact sq.ln
  have deep : X.A.units + (d.depth + 1) < cLine := by have := sq.dp; omega
  obtain ⟨as, rd, no⟩ := Dq.reads inv free d v u dq rel
  have nds := nd_at nd inv
  cases dq with
  | non =>
    cases rel
    exact PySem.P.repr_of_none ⟨.str _, H, inv.tok _, ⟨_, rfl⟩, q⟩
  | bl b =>
    cases rel
    exact PySem.P.repr_of_bool ⟨.str _, H, inv.tok _, ⟨_, rfl⟩, by rw [PyData.shown_bool] at q; exact q⟩
  | int i =>
    obtain ⟨tk, rfl⟩ := rel
    have small := sq.sh
    simp only [showB] at small
    exact BigI.call_repr nds (big_lt small) ⟨.str _, H, inv.tok _, ⟨_, rfl⟩, by rw [PyData.shown_int] at q; exact q⟩
  | str x =>
    obtain ⟨tk, rfl⟩ := rel
    rw [PyData.shown_str] at q len
    exact PySem.P.repr_of_str ⟨.str _, H, inv.tok _, ⟨_, rfl⟩, q⟩ len
  | dic h =>
    cases rel
    exact repr_of_reads' rd (by simp only [PyData.showable, PyData.showableKv]) (fun _ => no) gds deep (fun _ _ z => z) (fun h' u' tk kp => ⟨.str _, H, inv.kept kp, ⟨_, rfl⟩, q⟩) len
  | lst h t =>
    cases rel
    cases rd with
    | list h1 h2 h3 h4 =>
      rename_i o vs n bs₀
      have sh := sq.sh
      simp only [showB] at sh
      have hz' := len
      simp only [PyData.shown] at hz' q
      obtain ⟨bs, hb', hk⟩ := reprBAll_of_reads (prog := X.prog) (w := X.w) nds h4 sh (fun hx hm => no (List.mem_cons_of_mem _ hm)) (fun t ht => Nat.le_trans (listText_mem_le ht) hz')
      have hna := not_mem_of_deeper (.list h1 h2 h3 h4) (by simp only [PyData.depth]; omega) hb'
      simp only [PyData.depth] at deep
      refine call_repr_slot (by omega) ⟨o, h1, h2⟩ F.slot_list_repr.toG ?_
      obtain ⟨l⟩ := vs
      cases l with
      | nil =>
        have h4' : ReadsAll st.heap [] _ _ := h4
        cases h4'
        simp only [PyData.shownAll, listText_nil] at q
        exact call_list_repr_empty ⟨o, h1, h2⟩ h1 h3 ⟨_, _, rfl, .str _, H, inv.tok _, ⟨_, rfl⟩, q⟩
      | cons x l =>
        exact call_list_reprK h1 h2 h3 hna (by simpa using hk.length_eq) (fun i y e => hk.item i y (by simpa using e)) gds (fun b _ => Clear.nil b) (by show X.A.units + 1 + _ < cLine; omega) (fun _ _ z => z) (fun h' u' tk kp => ⟨_, _, rfl, .str _, H, inv.kept kp, ⟨_, rfl⟩, q⟩) hz'
  | tup h t =>
    cases rel
    cases rd with
    | tuple h1 h2 h3 h4 =>
      rename_i o vs n
      have sh := sq.sh
      simp only [showB] at sh
      have hz' := len
      simp only [PyData.shown] at hz' q
      obtain ⟨bs, hb', hk⟩ := reprBAll_of_reads (prog := X.prog) (w := X.w) nds h4 sh (fun hx => no) (fun t ht => Nat.le_trans (tupleText_mem_le ht) hz')
      have hna := not_mem_of_deeper (.tuple h1 h2 h3 h4) (by simp only [PyData.depth]; omega) hb'
      simp only [PyData.depth] at deep
      refine call_repr_slot (by omega) ⟨o, h1, h2⟩ F.slot_tuple_repr ?_
      exact call_tuple_reprK h1 h2 h3 hna hk gds (fun b _ => Clear.nil b) (by show X.A.units + 1 + _ < cLine; omega) (fun _ _ z => z) (fun h' u' tk kp => ⟨_, _, rfl, .str _, H, inv.kept kp, ⟨_, rfl⟩, q⟩) hz'
def kReprB : List T → Store → (T → Store → Prop) → XT → Prop := fun xs S R _ => ∃ x d, xs = [x] ∧ x.datD = some d ∧ SqB d ∧ R (.str d.shown) S
theorem cv_reprB {K : PySem.W.Frag} {E : XK} : ConvA K E kReprB (RDB K) := by
  intro Z xs S vs H R RE Q ok rs k po xo
  obtain ⟨x, d, rfl, e, sq, q⟩ := k
  cases rs with
  | cons r rr =>
    cases rr
    exact ⟨_, d, rfl, rep_dq r e, sq, po _ _ _ _ q .refl ok (.str _)⟩
/-! ### the end, where no limit of digits was set -/
section
variable {P : Program} {w : World} {K : PySem.W.Frag} {mg mb : Str → Option Value} {k : Nat} {fa a : Addr} {fd : FuncData} {x : Str} {sp : Sp} {st : Shared} {vs : List Value} {ns : List Int} {cs : List (Addr × Addr)}
theorem endCoreTD (R : Rear K mg mb cs st.heap) (dig : st.heap.NoDigits) (gens : st.gens = #[]) (ha : st.heap.get? a = some { cls := .type "list", data := .seq vs.toArray }) (hr : Room k callerA)
    (F : ∀ base : Heap, K.In base → base.Ns mainGlobals mg → (∃ o, base.get? sysModules = some o) → base.NoDigits → (∀ p ∈ cs, LamX.TabB base mg p.1 p.2) → FnG P w K mg base CX0 k fa fd [x] sp) (bind : ∀ (s : Shared) (u : Value), BindsTo s fd ⟨[u], []⟩ [(x, u)])
    {H : Hp} (hH : ∀ p ∈ cs, H p.2 = some (.tbl #[])) (only : ∀ b, H b = none ∨ (∃ p ∈ cs, p.2 = b) ∨ ∃ o xs, H b = some (.frz o (.lst xs))) (ok : HOk P w H st.heap) (one : ∀ b, H b ≠ none → b = a ∨ ∃ p ∈ cs, p.2 = b) (notK : H a ≠ none → K.lookup a = none)
    (want : sp [.ref a] H (fun v _ => v = .bl true) fun _ _ _ => False) :
    codeAny (model P w) callerA (.call (.ref fa) ⟨[.ref a], []⟩) (fun r s' => r = .ok (.ret (.bool true)) ∧ OldK st.heap s'.heap ∧ s'.os = st.os ∧ AllBare s'.gens) st := by
  have untracked : ∀ {b : Addr} {o : Obj}, st.heap.get? b = some o → (∀ n, o.data ≠ .seq vs.toArray n) → o.data ≠ .fields #[] → H b = none := by
    intro b o e n1 n2
    refine Option.eq_none_iff_forall_ne_some.mpr fun u z => ?_
    rcases one b (by rw [z]; exact fun t => nomatch t) with eb | ⟨p, hp, eb⟩
    · subst eb
      rw [ha] at e
      cases e
      exact n1 _ rfl
    · subst eb
      rw [R.tab p hp] at e
      cases e
      exact n2 rfl
  have toBase : ∀ {b : Addr} {m : Str → Option Value}, st.heap.Ns b m → (hidT st.heap H).Ns b m := by
    rintro b m ⟨o, es, ep, e, d, r⟩
    refine ⟨o, es, ep, hidT_get e (untracked e (fun _ z => ?_) fun z => ?_), d, r⟩
    · rw [d] at z
      cases z
    · rw [d] at z
      cases z
  have inBase : K.In (hidT st.heap H) := by
    intro b o e
    refine hidT_get (R.inK b o e) (Option.eq_none_iff_forall_ne_some.mpr fun u z => ?_)
    have nn : H b ≠ none := by rw [z]; exact fun t => nomatch t
    rcases one b nn with eb | ⟨p, hp, eb⟩
    · subst eb
      rw [notK nn] at e
      cases e
    · subst eb
      rw [R.free p hp] at e
      cases e
  obtain ⟨mc, l1, l2⟩ := R.lim
  have md : Mod K mg (hidT st.heap H) := ⟨inBase, toBase R.g, ⟨mb, toBase R.b, R.boot⟩, ⟨mc, toBase l1, l2⟩⟩
  have sys : ∃ o, (hidT st.heap H).get? sysModules = some o := by
    obtain ⟨mm, hm⟩ := R.mods
    obtain ⟨o, _, _, e, _⟩ := toBase hm
    exact ⟨o, e⟩
  have dg : (hidT st.heap H).NoDigits := by
    obtain ⟨mc, l1, l2⟩ := dig
    exact ⟨mc, toBase l1, l2⟩
  have TB : ∀ p ∈ cs, LamX.TabB (hidT st.heap H) mg p.1 p.2 := by
    intro p hp
    have tp := R.tab p hp
    have gne : mainGlobals ≠ p.2 := fun z => by
      obtain ⟨o, es, ep, e, d, _⟩ := R.g
      rw [z, tp] at e
      cases e
      cases d
    refine ⟨?_, ?_, gne⟩
    · obtain ⟨o, us, f1, f2, f3, f4, f5, f6, f7, e, c1, c2, c3, more⟩ := R.head p hp
      refine ⟨o, us, f1, f2, f3, f4, f5, f6, f7, hidT_get e (untracked e (fun _ z => ?_) fun z => ?_), c1, c2, c3, more⟩
      · rw [c2] at z
        cases z
      · rw [c2] at z
        cases z
        cases c3
    · obtain ⟨bm, ob, m1, m2, e, c1, c2, c3⟩ := R.main
      refine ⟨bm, ob, m1, m2, fun z => ?_, fun z => ?_, hidT_get e (untracked e (fun _ z => ?_) fun z => ?_), c1, c2, c3⟩
      · obtain ⟨o, es, ep, e2, d, _⟩ := R.g
        rw [z, e2] at e
        cases e
        rw [d] at c3
        cases c3
      · rw [z, tp] at e
        cases e
        cases c3
      · rw [c3] at z
        cases z
      · rw [c3] at z
        cases z
  have e0 : Env0 P w K mg (hidT st.heap H) callerA [] st H := by
    refine ⟨rfl, md, fun b o e => of_hidT e, Nat.le_of_eq (hidT_size _ _), trivial, fun b hb => ?_, ok, .of_eq gens⟩
    cases hb
  refine codeAny_mono ((F _ inBase md.glob sys dg TB).go callerA [] st H ⟨[.ref a], []⟩ [.ref a] [.ref a] _ _ rfl hr e0 (bind st (.ref a)) (.cons rfl .nil) want) fun r s' got => ?_
  cases r with
  | error e => exact got.elim
  | ok fl =>
    cases fl with
    | next => exact got.elim
    | brk => exact got.elim
    | cont => exact got.elim
    | ret u =>
      obtain ⟨v, H', os, bare, un, ok', rel, q⟩ := got
      have q2 : v = .bl true := q
      subst q2
      have q3 : u = Value.bool true := rel
      subst q3
      have stays : ∀ b o, (∀ p ∈ cs, p.2 ≠ b) → st.heap.get? b = some o → s'.heap.get? b = some o := by
        intro b o nt e
        rcases only b with z | ⟨p, hp, z⟩ | ⟨ob, xs, z⟩
        · refine un.keep b o e z (fun m => ?_) (by simp)
          cases m
        · exact absurd z (nt p hp)
        · have z2 := un.frzs b ob _ z
          obtain ⟨e1, _⟩ := ok b _ z
          obtain ⟨e2, _⟩ := ok' b _ z2
          rw [e1] at e
          cases e
          exact e2
      have grows : ∀ p ∈ cs, ∃ more : Array Value, s'.heap.get? p.2 = some { cls := .none, data := .fields more } := by
        intro p hp
        obtain ⟨more, z⟩ := un.tbls p.2 #[] (hH p hp)
        exact ⟨_, ok' p.2 _ z⟩
      refine ⟨rfl, ⟨fun b o e => ?_, fun b o e => ?_⟩, os, bare⟩
      · by_cases t : ∃ p ∈ cs, p.2 = b
        · obtain ⟨p, hp, rfl⟩ := t
          obtain ⟨more, z⟩ := grows p hp
          rw [R.tab p hp] at e
          cases e
          exact .inr (.inl ⟨((R.head p hp).tab (R.tab p hp)).isCodeTable, rfl, #[], more, rfl, by rw [Array.empty_append]; exact z⟩)
        · exact .inl (stays b o (fun p hp z => t ⟨p, hp, z⟩) e)
      · by_cases t : ∃ p ∈ cs, p.2 = b
        · obtain ⟨p, hp, rfl⟩ := t
          obtain ⟨more, z⟩ := grows p hp
          exact ⟨_, z⟩
        · exact ⟨o, stays b o (fun p hp z => t ⟨p, hp, z⟩) e⟩
theorem endCallTD (R : Rear K mg mb cs st.heap) (dig : st.heap.NoDigits) (gens : st.gens = #[]) (ha : st.heap.get? a = some { cls := .type "list", data := .seq vs.toArray }) (hi : IntsAre vs ns) (hl : ns.length ≤ sizeLine) (hr : Room k callerA)
    (F : ∀ base : Heap, K.In base → base.Ns mainGlobals mg → (∃ o, base.get? sysModules = some o) → base.NoDigits → (∀ p ∈ cs, LamX.TabB base mg p.1 p.2) → FnG P w K mg base CX0 k fa fd [x] sp) (bind : ∀ (s : Shared) (u : Value), BindsTo s fd ⟨[u], []⟩ [(x, u)])
    (want : ∀ H : Hp, (∀ p ∈ cs, H p.2 = some (.tbl #[])) → (∀ b, H b = none ∨ (∃ p ∈ cs, p.2 = b) ∨ ∃ o xs, H b = some (.frz o (.lst xs))) → SqL K H a (ns.map V.int) → sp [.ref a] H (fun v _ => v = .bl true) fun _ _ _ => False) :
    codeAny (model P w) callerA (.call (.ref fa) ⟨[.ref a], []⟩) (fun r s' => r = .ok (.ret (.bool true)) ∧ OldK st.heap s'.heap ∧ s'.os = st.os ∧ AllBare s'.gens) st := by
  have rv := vals_ints hi
  have aT : ¬ ∃ p ∈ cs, p.2 = a := by
    rintro ⟨p, hp, rfl⟩
    rw [R.tab p hp] at ha
    have z := congrArg Obj.data (Option.some.inj ha)
    cases z
  classical
  cases hk : K.lookup a with
  | some o =>
    have e := R.inK a o hk
    rw [ha] at e
    cases e
    have at_ : ∀ b, (fun b => if ∃ p ∈ cs, p.2 = b then some (HO.tbl #[]) else none) b = if ∃ p ∈ cs, p.2 = b then some (HO.tbl #[]) else none := fun _ => rfl
    have seq : ∀ H : Hp, SqL K H a (ns.map V.int) := fun H => .inr ⟨_, vs.toArray, _, hk, rfl, rfl, rfl, by rw [List.size_toArray, hi.length]; exact hl, by simpa using rv⟩
    have onl : ∀ b, (fun b => if ∃ p ∈ cs, p.2 = b then some (HO.tbl #[]) else none) b = none ∨ (∃ p ∈ cs, p.2 = b) ∨ ∃ o xs, (fun b => if ∃ p ∈ cs, p.2 = b then some (HO.tbl #[]) else none) b = some (.frz o (.lst xs)) := fun b => by
      by_cases t : ∃ p ∈ cs, p.2 = b
      · exact .inr (.inl t)
      · exact .inl (if_neg t)
    refine endCoreTD R dig gens ha hr F bind (H := fun b => if ∃ p ∈ cs, p.2 = b then some (HO.tbl #[]) else none) (fun p hp => if_pos ⟨p, hp, rfl⟩) onl (fun b u z => ?_) (fun b z => ?_) (fun z => absurd (if_neg aT) z) (want _ (fun p hp => if_pos ⟨p, hp, rfl⟩) onl (seq _))
    · rw [at_] at z
      split at z
      · rename_i t
        obtain ⟨p, hp, rfl⟩ := t
        cases z
        exact R.tab p hp
      · cases z
    · by_cases t : ∃ p ∈ cs, p.2 = b
      · exact .inr t
      · exact absurd (if_neg t) z
  | none =>
    have at_ : ∀ b, (fun b => if b = a then some (HO.frz { cls := .type "list", data := .seq vs.toArray } (.lst (ns.map V.int))) else if ∃ p ∈ cs, p.2 = b then some (HO.tbl #[]) else none) b = if b = a then some (HO.frz { cls := .type "list", data := .seq vs.toArray } (.lst (ns.map V.int))) else if ∃ p ∈ cs, p.2 = b then some (HO.tbl #[]) else none := fun _ => rfl
    have hHt : ∀ p ∈ cs, (if p.2 = a then some (HO.frz { cls := .type "list", data := .seq vs.toArray } (.lst (ns.map V.int))) else if ∃ q ∈ cs, q.2 = p.2 then some (HO.tbl #[]) else none) = some (HO.tbl #[]) := fun p hp => by
      rw [if_neg (fun z => aT ⟨p, hp, z⟩), if_pos ⟨p, hp, rfl⟩]
    have onl : ∀ b, (fun b => if b = a then some (HO.frz { cls := .type "list", data := .seq vs.toArray } (.lst (ns.map V.int))) else if ∃ p ∈ cs, p.2 = b then some (HO.tbl #[]) else none) b = none ∨ (∃ p ∈ cs, p.2 = b) ∨ ∃ o xs, (fun b => if b = a then some (HO.frz { cls := .type "list", data := .seq vs.toArray } (.lst (ns.map V.int))) else if ∃ p ∈ cs, p.2 = b then some (HO.tbl #[]) else none) b = some (.frz o (.lst xs)) := fun b => by
      by_cases e : b = a
      · exact .inr (.inr ⟨_, _, if_pos e⟩)
      · by_cases t : ∃ p ∈ cs, p.2 = b
        · exact .inr (.inl t)
        · refine .inl ?_
          show (if b = a then _ else _) = none
          rw [if_neg e, if_neg t]
    refine endCoreTD R dig gens ha hr F bind (H := fun b => if b = a then some (HO.frz { cls := .type "list", data := .seq vs.toArray } (.lst (ns.map V.int))) else if ∃ p ∈ cs, p.2 = b then some (HO.tbl #[]) else none) hHt onl (fun b u z => ?_) (fun b z => ?_) (fun _ => hk) (want _ hHt onl (.inl (.inr ⟨_, if_pos rfl⟩)))
    · rw [at_] at z
      by_cases e : b = a
      · rw [if_pos e] at z
        subst e
        cases z
        exact ⟨ha, by rw [List.length_map]; exact hl, vs, _, rv, ha⟩
      · rw [if_neg e] at z
        split at z
        · rename_i t
          obtain ⟨p, hp, rfl⟩ := t
          cases z
          exact R.tab p hp
        · cases z
    · by_cases e : b = a
      · exact .inl e
      · by_cases t : ∃ p ∈ cs, p.2 = b
        · exact .inr t
        · exact absurd (by rw [if_neg e, if_neg t]) z
end
theorem walkTD {l : PySem.W.OpenLaw} {k : Nat} {q : Program} {loose : List Str} {XP : (Str → Option Value) → Heap → Prop} {YP : World → Heap → Prop} {d : DefRec} {K : Params → PySem.W.Frag} {cs : List (Addr × Addr)} {T0 : List (Addr × Str)} {x : Str}
    (hn : l.most = some 63) (hdf : d.params.defaults = []) (hr : Room k callerA) (hY : ∀ (w : World) (h : Heap), YP w h → (K w.params).In h)
    (F : ∀ (w : World) (mean : ExcName → Option Value) (mg mb : Str → Option Value) (fa : Addr) (h : Heap), Top q (PySem.W.looseW q loose) mean mg mb h → YP w h → (K w.params).In h → h.Ns mainGlobals mg → mg d.name = some (.ref fa) →
      Rear (K w.params) mg mb cs h ∧ ∃ fd : FuncData, (∀ (s : Shared) (u : Value), BindsTo s fd ⟨[u], []⟩ [(x, u)]) ∧ ∀ base : Heap, (K w.params).In base → base.Ns mainGlobals mg → (∃ o, base.get? sysModules = some o) → base.NoDigits → (∀ p ∈ cs, LamX.TabB base mg p.1 p.2) → FnT l.prog w (K w.params) mg base k fa fd [x] (sp_lawT T0))
    (nd : (T0.map (·.1)).Nodup) (hT : ∀ p ∈ T0, ∃ c, (c, p.1) ∈ cs) (hC : ∀ p ∈ cs, ∃ q, (p.2, q) ∈ T0) :
    PySem.W.WalkO q loose XP YP l.row.toRowW d [] (fun f vs => PySem.call f vs) := by
  refine Att.attach_call hn hdf ?_
  intro w s₀ s₁ mg mb fa o pm cd doc a vs ns G Y ho hd hcd hmg hobj hints hlen hg
  obtain ⟨R, fd, hb, hF⟩ := F w _ mg mb fa _ G.T Y (hY w _ Y) G.T.g hmg
  exact endCallTD (sp := fun vs H Q _ => UpF (K w.params) (sp_lawT T0) vs H Q EF) R G.T.nodigits hg hobj hints (Nat.le_trans hlen (by rw [sizeLine_eq]; decide)) hr (fun base i n s d t => (hF base i n s d t).cx0) hb fun H hH onl seq => law_wantT hlen nd hT hC hH onl seq

/-! ### a text is walked; in a text -/
def signsT (z : Str) : List T := z.cps.toList.map fun c => T.str ⟨#[c]⟩
theorem src_str {K : PySem.W.Frag} {Z : Addr → Prop} {S : Store} {H : Hp} (z : Str) : SrcOk K Z S H (Its z) (signsT z) := fun Z' S1 H1 hz le ok => by
  refine ⟨fun i t hi => ?_, fun i hi => ?_⟩
  · unfold signsT at hi
    rw [List.getElem?_map] at hi
    obtain ⟨c, hc, rfl⟩ := Option.map_eq_some_iff.mp hi
    rw [Array.getElem?_toList] at hc
    obtain ⟨lt, _⟩ := Array.getElem?_eq_some_iff.mp hc
    refine ⟨lt, fun x H' y => ?_⟩
    obtain ⟨rfl, c', hc', rfl⟩ := y
    rw [hc] at hc'
    cases hc'
    exact ⟨.refl, ok, .str _⟩
  · unfold signsT at hi
    rw [List.length_map, Array.length_toList] at hi
    exact hi
def iStrT (ra : TR) : TRI := fun σ S R RE => ra σ S (fun t S1 => ∃ z, t = .str z ∧ R (signsT z) S1) RE
section
variable {X : Cx} {E : XK} {a : Expr} {ra : TR}
theorem it_str {tg : Expr} (ha : ET X E a ra) : IT X E tg a (iStrT ra) := ⟨pi_weak (pi_str ha.pe) fun sl H Q ⟨⟨Z, σ, S, R, RE, fr, ok, w, po, xo⟩⟩ => by
  refine ⟨_, σ, S, _, RE, fr, ok, w, fun t S1 v H1 k le ok1 rep => ?_, xo⟩
  obtain ⟨z, rfl, k⟩ := k
  cases rep
  exact ⟨_, rfl, po _ S1 _ H1 k le ok1 (src_str z)⟩⟩
def kInS (ng : Bool) : KB := fun x y S R _ => ∃ i j, x = .str i ∧ y = .str j ∧ R (.bl (ng ^^ !(Builtin.Str.occurrences j i 0 j.length 1).isEmpty)) S
theorem cv_ninS : Conv X.K E (kInS true) (fun x y H Q => ∃ i j, x = .str i ∧ y = .str j ∧ Q (.bl (!(!(Builtin.Str.occurrences j i 0 j.length 1).isEmpty))) H) := by
  intro Z x y S v u H R RE Q ok rx ry ⟨i, j, e1, e2, k⟩ po xo
  subst e1 e2
  cases rx; cases ry
  exact ⟨_, _, rfl, rfl, po _ _ _ _ (by simpa using k) .refl ok (.bl _)⟩
end
/-! a text some times over -/
def repS (z : Str) (n : Nat) : Str := ⟨(List.replicate n z.cps).foldl (· ++ ·) #[]⟩
theorem foldl_rep (a : Array Nat) : ∀ (n : Nat) (acc : Array Nat), ((List.replicate n a).foldl (· ++ ·) acc).toList = acc.toList ++ (List.replicate n a.toList).flatten
  | 0, acc => by simp
  | n + 1, acc => by
    rw [List.replicate_succ, List.foldl_cons, foldl_rep a n, List.replicate_succ, List.flatten_cons, Array.toList_append, List.append_assoc]
theorem repS_tl (z : Str) (n : Nat) : (repS z n).cps.toList = (List.replicate n z.cps.toList).flatten := by
  unfold repS
  rw [foldl_rep]
  simp
section
variable {X : Cx} {E : XK}
def kMulS : KB := fun x y S R _ => ∃ z k, x = .str z ∧ y = .int k ∧ 1 < k ∧ k ≤ 4000 ∧ 0 < z.length ∧ z.length ≤ 1000 ∧ R (.str (repS z k.toNat)) S
theorem op_mulS : OpR X (binaryOp .Mult) (fun x y H Q => ∃ z k, x = .str z ∧ y = .int k ∧ 1 < k ∧ k ≤ 4000 ∧ 0 < z.length ∧ z.length ≤ 1000 ∧ Q (.str (repS z k.toNat)) H) := by
  intro pins s σ H x y v u Q I rx ry h
  obtain ⟨z, k, rfl, rfl, k1, k2, z0, z1, q⟩ := h
  obtain ⟨t, rfl⟩ := rx
  obtain ⟨t', rfl⟩ := ry
  have e1 : (k == 1 || z.length == 0) = false := by
    have a : (k == 1) = false := by simpa using (show k ≠ 1 by omega)
    have b : (z.length == 0) = false := by simpa using (show z.length ≠ 0 by omega)
    rw [a, b]; rfl
  have hl : z.length * k.toNat ≤ 4000000 := Nat.le_trans (Nat.mul_le_mul z1 (show k.toNat ≤ 4000 by omega)) (by decide)
  refine PySem.P.mul_str (by have a : decide (k < -(2 ^ 63 : Int)) = false := decide_eq_false (by omega); have b : decide (k ≥ (2 ^ 63 : Int)) = false := decide_eq_false (by omega); rw [a, b]; rfl) (fun _ _ => ?_) (fun _ _ => ?_) ?_
  · have : (1000 : Int) ≤ (2 ^ 63 - 1 : Int) / k := (Int.le_ediv_iff_mul_le (by omega)).mpr (by omega)
    omega
  · exact decide_eq_false (by rw [sizeLine_eq]; omega)
  · rw [if_neg (by omega), if_neg (by rw [e1]; exact Bool.false_ne_true)]
    refine ⟨?_, .str _, H, I.tok _, ⟨_, rfl⟩, q⟩
    show (repS z k.toNat).cps.size ≤ sizeLine
    rw [← Array.length_toList, repS_tl, List.length_flatten, List.map_replicate, List.sum_replicate_nat, Array.length_toList, sizeLine_eq]
    show k.toNat * z.length ≤ _
    rw [Nat.mul_comm]
    omega
theorem cv_mulS : Conv X.K E kMulS (fun x y H Q => ∃ z k, x = .str z ∧ y = .int k ∧ 1 < k ∧ k ≤ 4000 ∧ 0 < z.length ∧ z.length ≤ 1000 ∧ Q (.str (repS z k.toNat)) H) := by
  intro Z x y S v u H R RE Q ok rx ry ⟨z, k, e1, e2, h1, h2, h3, h4, q⟩ po xo
  subst e1 e2
  cases rx; cases ry
  exact ⟨_, _, rfl, rfl, h1, h2, h3, h4, po _ _ _ _ q .refl ok (.str _)⟩
end
theorem occ_one (c : Nat) (j : Str) : (!(Builtin.Str.occurrences j ⟨#[c]⟩ 0 j.length 1).isEmpty) = decide (c ∈ j.cps.toList) := by
  have := SX.in_one j.cps.toList c
  rwa [SX.S_tl] at this

/-! the text -/
abbrev T0 : List (Addr × Str) := [(715, lamQ "_law_read_right"), (729, lamQ "_law_sides_right")]
theorem mem_l_read_right : ((715, lamQ "_law_read_right") : Addr × Str) ∈ T0 := List.mem_cons_self
theorem only_l_read_right : ∀ q ∈ T0, q.1 = 715 → q.2 = lamQ "_law_read_right" := List.forall_mem_cons.mpr ⟨fun _ => rfl, List.forall_mem_cons.mpr ⟨fun z => absurd z (by decide), fun _ m => nomatch m⟩⟩
theorem mem_l_sides_right : ((729, lamQ "_law_sides_right") : Addr × Str) ∈ T0 := List.mem_cons_of_mem _ (List.mem_cons_self)
theorem only_l_sides_right : ∀ q ∈ T0, q.1 = 729 → q.2 = lamQ "_law_sides_right" := List.forall_mem_cons.mpr ⟨fun z => absurd z (by decide), List.forall_mem_cons.mpr ⟨fun _ => rfl, fun _ m => nomatch m⟩⟩
/-! numbers -/
def gcdI (a b : Int) : Int := (Int.gcd a b : Int)
theorem gcdI_step {a b : Int} (hb : 0 < b) : gcdI b (a % b) = gcdI a b := by
  unfold gcdI
  rw [Int.gcd_comm a b, Int.emod_def, Int.mul_comm b, Int.gcd_sub_mul_right_right]
theorem gcdI_zero {a : Int} (ha : 0 < a) : gcdI a 0 = a := by
  unfold gcdI
  rw [Int.gcd_zero_right]
  omega
theorem gcdI_pos {a b : Int} (ha : 0 < a) : 0 < gcdI a b := by
  unfold gcdI
  have := Int.gcd_pos_of_ne_zero_left b (show a ≠ 0 by omega)
  omega
theorem gcdI_le {a b : Int} (ha : 0 < a) : gcdI a b ≤ a := by
  unfold gcdI
  exact Int.le_of_dvd ha (Int.gcd_dvd_left ..)
theorem gcdI_comm (a b : Int) : gcdI a b = gcdI b a := by unfold gcdI; rw [Int.gcd_comm]
theorem gcdI_one {a : Int} : gcdI a 1 = 1 := by
  unfold gcdI
  rw [Int.gcd_one_right]
  rfl
theorem emod_lt {a b : Int} (hb : 0 < b) : 0 ≤ a % b ∧ a % b < b := ⟨Int.emod_nonneg _ (by omega), Int.emod_lt_of_pos _ hb⟩
/-- within n bits, above 0 -/
structure Pn (n : Nat) (a : Int) : Prop where
  pos : 0 < a
  lt : a.natAbs < 2 ^ n
theorem Pn.up {n m : Nat} {a : Int} (h : Pn n a) (le : n ≤ m) : Pn m a := ⟨h.pos, Nat.lt_of_lt_of_le h.lt (Nat.pow_le_pow_right (by decide) le)⟩
theorem Pn.of {n : Nat} {a : Int} (h : 0 < a) (l : a < 2 ^ n) : Pn n a := ⟨h, by
  have e : ((2 ^ n : Nat) : Int) = (2 : Int) ^ n := by norm_cast
  omega⟩
theorem Pn.le {n : Nat} {a b : Int} (h : Pn n b) (p : 0 < a) (l : a ≤ b) : Pn n a := ⟨p, wide_le (by omega) l h.lt⟩
theorem Pn.mul {n m : Nat} {a b : Int} (h : Pn n a) (k : Pn m b) : Pn (n + m) (a * b) := ⟨Int.mul_pos h.pos k.pos, wide_lt h.lt k.lt⟩
theorem Pn.mulW {n m : Nat} {a b : Int} (h : Pn n a) (k : Pn m b) (l : n + m ≤ 1000000 := by decide) (hn : 0 < n := by decide) (hm : 0 < m := by decide) : IntMulOk a b := (wide_mul h.lt k.lt hn hm l).ok
/-- the left one within 64 bits -/
theorem mulL {a b : Int} (h : -(2 ^ 64) < a ∧ a < 2 ^ 64) : IntMulOk a b := CMul.ok (.inl h)
theorem Pn.divW {n : Nat} {b : Int} (h : Pn n b) (x : Int) (l : n ≤ 9000 := by decide) (hn : 0 < n := by decide) : CDivP x b := ⟨h.pos, PyProof.noPylong_of_log2 (wide_div (i := x) h.pos h.lt hn l).2⟩
theorem div_small {b : Int} (h : 0 < b) (l : b < 2 ^ 64) (x : Int) : CDivP x b := (Pn.of (n := 64) h l).divW x
theorem Pn.gcd {n : Nat} {a b : Int} (h : Pn n a) : Pn n (gcdI a b) := h.le (gcdI_pos h.pos) (gcdI_le h.pos)
/-! lowest terms -/
def lwA (a b : Int) : Int := a / gcdI a b
def lwB (a b : Int) : Int := b / gcdI a b
theorem Pn.lwA {n : Nat} {a b : Int} (h : Pn n a) : Pn n (lwA a b) :=
  h.le (Int.ediv_pos_of_pos_of_dvd h.pos (by have := gcdI_pos (b := b) h.pos; omega) (Int.gcd_dvd_left ..)) (Int.ediv_le_self _ (by have := h.pos; omega))
theorem Pn.lwB {n : Nat} {a b : Int} (ha : 0 < a) (h : Pn n b) : Pn n (lwB a b) :=
  h.le (Int.ediv_pos_of_pos_of_dvd h.pos (by have := gcdI_pos (b := b) ha; omega) (Int.gcd_dvd_right ..)) (Int.ediv_le_self _ (by have := h.pos; omega))
theorem gcd_low {a b : Int} (ha : 0 < a) : gcdI (lwA a b) (lwB a b) = 1 := by
  have h := gcdI_pos (b := b) ha
  unfold lwA lwB
  unfold gcdI at h ⊢
  rw [Int.gcd_ediv_gcd_ediv_gcd (by omega)]
  rfl
/-- a fraction in lowest terms, both parts within n bits -/
structure Fr (n : Nat) (x y : Int) : Prop where
  a : Pn n x
  b : Pn n y
  g : gcdI x y = 1
theorem Fr.up {n m : Nat} {a b : Int} (h : Fr n a b) (le : n ≤ m) : Fr m a b := ⟨h.a.up le, h.b.up le, h.g⟩
theorem Fr.low {n : Nat} {a b : Int} (ha : Pn n a) (hb : Pn n b) : Fr n (lwA a b) (lwB a b) := ⟨ha.lwA, hb.lwB ha.pos, gcd_low ha.pos⟩
theorem Fr.lwA {n : Nat} {a b : Int} (h : Fr n a b) : lwA a b = a := by unfold Gd.lwA; rw [h.g, Int.ediv_one]
theorem Fr.lwB {n : Nat} {a b : Int} (h : Fr n a b) : lwB a b = b := by unfold Gd.lwB; rw [h.g, Int.ediv_one]
/-- a tree of it -/
def frT (a b : Int) : T := .tup [.int a, .int b]
/-! while, by an invariant and a measure -/
theorem while_inv {tc : TRB} {rb : TRS} {D : EnT} {σ : Fm} {S : Store} (I : Fm → Store → Prop) (μ : Fm → Store → Nat) (h0 : I σ S)
    (turn : ∀ σ S, I σ S → ∀ N : Fm → Store → Prop, (∀ σ' S', I σ' S' → μ σ' S' < μ σ S → N σ' S') → tc σ S (fun c S1 => if c = true then rb { D with nx := N, ct := N, bk := D.nx } σ S1 else D.nx σ S1) D.ex) : sWhile tc rb D σ S :=
  ⟨fun m σ S => I σ S ∧ μ σ S = m, ⟨_, h0, rfl⟩, fun m σ S ⟨i, e⟩ => turn σ S i _ fun σ' S' i' l => ⟨μ σ' S', by omega, i', rfl⟩⟩
theorem ite_d {c : Prop} [Decidable c] {A B : Prop} (h : c → A) (h' : ¬ c → B) : if (decide c) = true then A else B := by
  by_cases e : c
  · rw [if_pos (decide_eq_true e)]; exact h e
  · rw [if_neg (by simp [e])]; exact h' e
/-- one statement, then the rest -/
theorem sSeq_i {ra rb : TRS} {D : EnT} {σ : Fm} {S : Store} (h : ∀ N : Fm → Store → Prop, (∀ σ' S', rb D σ' S' → N σ' S') → ra { D with nx := N } σ S) : sSeq ra rb D σ S := h _ fun _ _ q => q
theorem sc_common_divisor : FnScope ["one", "other"] ["one", "other"] (defScope s_common_divisor) := ⟨rfl, rfl, rfl, by decide +kernel, rfl, by decide +kernel, by decide +kernel⟩
def sp_common_divisor : SpT := fun ts S R _ => match ts with
  | [.int a, .int b] => 0 < a ∧ 0 ≤ b ∧ R (.int (gcdI a b)) S
  | _ => False
theorem ok_common_divisor {P : Program} {w : World} {K : PySem.W.Frag} {mg : Str → Option Value} {base : Heap} {f : Addr} {fd : FuncData}   (F : Fun K "common_divisor" "common_divisor" s_common_divisor f fd)
    : FnT P w K mg base 1 f fd ["one", "other"] sp_common_divisor := by
  refine okT F sc_common_divisor (by intro ts S R RE h; unfold sp_common_divisor at h; split at h <;> first | rfl | exact h.elim) (fun cdv A out s H E hg hr => (bs_cons (ss_while (passes_of rfl) (tt_cmp op_gt cv_B2n (et_var (pv 1)) et_int (nomark _)) (bs_one (ss_par (i := 0) (j := 1) (by rfl) sc_common_divisor.nd rfl rfl (by decide) rfl rfl (at_cons (et_var (pv 1)) (at_cons (et_op op_mod cv_I2 (et_var (pv 0)) (et_var (pv 1))) at_nil)) (by rfl))))
    (bs_one (ss_ret (et_var (pv 0)))))) ?_
  intro ts S R RE h
  unfold sp_common_divisor at h
  split at h
  · rename_i a b
    obtain ⟨ha, hb, q⟩ := h
    refine while_inv (fun σ S' => S' = S ∧ ∃ x y : Int, σ = [some (.int x), some (.int y)] ∧ 0 < x ∧ 0 ≤ y ∧ gcdI x y = gcdI a b) (fun σ _ => match σ with | [_, some (.int y)] => y.toNat | _ => 0) ⟨rfl, a, b, rfl, ha, hb, rfl⟩ ?_
    rintro σ S' ⟨rfl, x, y, rfl, hx, hy, g⟩ N hN
    simp only [sRet, sPar, rVar, rC, rBin, rTest, aNil, aCons, kI2, kI2n, T.bl.injEq, List.cons.injEq, Option.some.injEq, List.getElem?_cons_zero, List.getElem?_cons_succ, List.set_cons_zero, List.set_cons_succ, exists_eq_left', exists_and_left, and_true, and_assoc]
    refine ite_d (fun c => ?_) (fun c => ?_)
    · have := emod_lt (a := x) c
      exact ⟨c, hN _ _ ⟨rfl, y, _, rfl, c, this.1, (gcdI_step c).trans g⟩ (by show (x % y).toNat < y.toNat; omega)⟩
    · have e : y = 0 := by omega
      subst e
      rw [gcdI_zero hx] at g
      subst g
      exact q
  · exact h.elim
def sp_lowest_terms : SpT := fun ts S R _ => match ts with
  | [.int a, .int b] => Pn 8000 a ∧ 0 < b ∧ R (frT (lwA a b) (lwB a b)) S
  | _ => False
/-! of what kind a value is -/
def kindsT : List String := ["int", "bool", "str", "tuple", "list"]
def isK : T → String → Bool
  | .int _, n => n == "int"
  | .bl _, n => n == "bool" || n == "int"
  | .str _, n => n == "str"
  | .tup _, n => n == "tuple"
  | .lst _, n => n == "list"
  | .scr _, n => n == "list"
  | .cell _, n => n == "list"
  | _, _ => false
/-- a value of which the kind is known -/
def ValT (K : PySem.W.Frag) (S : Store) (x : T) : Prop := ∃ t, TyT K S x t ∧ ∀ n ∈ kindsT, PySem.W.kitOne K t (.type n) = some (isK x n)
theorem kind_of {K : PySem.W.Frag} {S : Store} {x : T} {ty : String} (h : TyT K S x (.type ty)) (e : kindsT.all (fun n => kitB ty n == some (isK x n)) = true) : ValT K S x :=
  ⟨_, h, fun n m => kit_ty (by have := List.all_eq_true.mp e n m; simpa using this)⟩
section
variable {K : PySem.W.Frag} {S : Store}
theorem ValT.non : ValT K S .non := kind_of .non (by decide +kernel)
theorem ValT.bl {b : Bool} : ValT K S (.bl b) := kind_of (.bl b) (by show (kindsT.all fun n => kitB "bool" n == some (isK (.bl true) n)) = true; decide +kernel)
theorem ValT.int {i : Int} : ValT K S (.int i) := kind_of (.int i) (by show (kindsT.all fun n => kitB "int" n == some (isK (.int 0) n)) = true; decide +kernel)
theorem ValT.str {z : Str} : ValT K S (.str z) := kind_of (.str z) (by show (kindsT.all fun n => kitB "str" n == some (isK (.str Str.empty) n)) = true; decide +kernel)
theorem ValT.tup {l : List T} : ValT K S (.tup l) := kind_of (.tup l) (by show (kindsT.all fun n => kitB "tuple" n == some (isK (.tup []) n)) = true; decide +kernel)
theorem ValT.lst {l : List T} : ValT K S (.lst l) := kind_of (.lst l) (by show (kindsT.all fun n => kitB "list" n == some (isK (.lst []) n)) = true; decide +kernel)
theorem ValT.is {x : T} {n : String} (h : ValT K S x) (m : n ∈ kindsT) {R : T → Store → Prop} {RE : XT} (q : R (.bl (isK x n)) S) : kIsi K [x, .ty n] S R RE := by
  obtain ⟨t, ty, k⟩ := h
  exact ⟨x, .ty n, t, .type n, _, rfl, .ty n, ty, k n m, q⟩
end
def isInt : T → Bool
  | .int _ => true
  | _ => false
def isPos : T → Bool
  | .int i => decide (0 < i)
  | _ => false
theorem sc_is_integer : FnScope ["value"] ["value"] (defScope s_is_integer) := ⟨rfl, rfl, rfl, by decide +kernel, rfl, by decide +kernel, by decide +kernel⟩
def sp_is_integer (K : PySem.W.Frag) : SpT := fun ts S R _ => match ts with
  | [x] => ValT K S x ∧ R (.bl (isInt x)) S
  | _ => False
theorem ok_is_integer {P : Program} {w : World} {K : PySem.W.Frag} {mg : Str → Option Value} {base : Heap} {f : Addr} {fd : FuncData}   (F : Fun K "is_integer" "is_integer" s_is_integer f fd)
    (n_isinstance : mg "isinstance" = none)
    (n_bool : mg "bool" = none)
    (n_int : mg "int" = none)
    : FnT P w K mg base 1 f fd ["value"] (sp_is_integer K) := by
  refine okT F sc_is_integer (by intro ts S R RE h; unfold sp_is_integer at h; split at h <;> first | rfl | exact h.elim) (fun cdv A out s H E hg hr => (bs_one (ss_ret (et_and (et_blt call_isiY (cv_isi (K := K)) (by rfl) n_isinstance PyProof.Rows.boot_isinstance (at_cons (et_var (pv 0)) (at_cons (et_blty (by rfl) n_int PyProof.Rows.boot_int) at_nil))) (et_one (et_not (et_blt call_isiY (cv_isi (K := K)) (by rfl) n_isinstance PyProof.Rows.boot_isinstance (at_cons (et_var (pv 0)) (at_cons (et_blty (by rfl) n_bool PyProof.Rows.boot_bool) at_nil))))))))) ?_
  intro ts S R RE h
  unfold sp_is_integer at h
  split at h
  · rename_i x
    obtain ⟨hv, q⟩ := h
    simp only [sRet, rVar, rC, vAnd, vNot, aNil, aCons, rArgs, startT, Option.some.injEq, List.map_cons, List.map_nil, List.length_cons, List.length_nil, List.append_nil, List.getElem?_cons_zero, List.replicate_zero, exists_eq_left', Nat.sub_self, Nat.zero_add]
    refine hv.is (n := "int") (by decide) ?_
    refine ⟨_, rfl, ?_⟩
    cases e : isK x "int" with
    | true =>
      rw [if_pos rfl]
      refine hv.is (n := "bool") (by decide) ?_
      refine ⟨_, rfl, ?_⟩
      have : (!isK x "bool") = isInt x := by cases x <;> first | rfl | (cases e; done)
      rw [this]
      exact q
    | false =>
      have : isInt x = false := by cases x <;> first | rfl | (cases e; done)
      rw [this] at q
      exact q
  · exact h.elim
theorem sc_is_positive : FnScope ["value"] ["value"] (defScope s_is_positive) := ⟨rfl, rfl, rfl, by decide +kernel, rfl, by decide +kernel, by decide +kernel⟩
def sp_is_positive (K : PySem.W.Frag) : SpT := fun ts S R _ => match ts with
  | [x] => ValT K S x ∧ R (.bl (isPos x)) S
  | _ => False
theorem ok_is_positive {P : Program} {w : World} {K : PySem.W.Frag} {mg : Str → Option Value} {base : Heap} {f : Addr} {fd : FuncData} {g_is_integer : Addr} {gd_is_integer : FuncData} (F : Fun K "is_positive" "is_positive" s_is_positive f fd)
    (G_is_integer : FnT P w K mg base 1 g_is_integer gd_is_integer ["value"] (sp_is_integer K))
    (m_is_integer : mg "is_integer" = some (.ref g_is_integer))
    (k_is_integer : PySem.W.keepIn K (.ref g_is_integer) = true)
    (b_is_integer : Binds K gd_is_integer ["value"] [])
    : FnT P w K mg base 2 f fd ["value"] (sp_is_positive K) := by
  refine okT F sc_is_positive (by intro ts S R RE h; unfold sp_is_positive at h; split at h <;> first | rfl | exact h.elim) (fun cdv A out s H E hg hr => (bs_one (ss_ret (et_and (et_callD G_is_integer hg (hr.mono (by decide)) (by rfl) m_is_integer k_is_integer (CallD.all b_is_integer) (passL2N (L2N.takes_of rfl rfl rfl rfl)) (at_cons (et_var (pv 0)) at_nil)) (et_one (et_cmp op_gt cv_B2n (et_var (pv 0)) et_int (nomark _))))))) ?_
  intro ts S R RE h
  unfold sp_is_positive at h
  split at h
  · rename_i x
    obtain ⟨hv, q⟩ := h
    simp only [sp_is_integer, sRet, rVar, rC, rBin, vAnd, aNil, aCons, rCall, kI2n, startT, T.bl.injEq, Option.some.injEq, List.map_cons, List.map_nil, List.length_cons, List.length_nil, List.append_nil, List.getElem?_cons_zero, List.replicate_zero, exists_eq_left', Nat.sub_self, Nat.zero_add]
    refine ⟨hv, ?_⟩
    cases x <;> first | exact q | (simp only [isInt, isPos, rCallOwn, iZipT, kMaxT, rRevT, rDix2, sFrzV, sDrp, rSlC, rDget2, sSeq, sAsg, sDrop, sRet, sRetN, sIf, sNext, sPar, sPar3, sFor, sRaise, sFldT, sNo, rNo, rVar, rFrz, rC, rBin, rTest, bAnd, bOr, bNot, bIf, vAnd, vOr, vNot, rIf, rNeg, aNil, aCons, rTup, rLst, rLstC, rArgs, gNameT, gNilT, gConsT, gTupT, gSubT, iSeq, iRng1T, iRng2T, rLc, rCall, rCallN, rCallS, rFld, rCon, rMake, rMakeN, rMakeP, rMeth, rMethK, rProp, rClsFn, rOpOwn, rSl, oNone, oSome, rFmt, kFmt, rJs, rLidx, rChain, rTru, truT, rStr0, rPart, rSplit, kIntS, gStarT, kStrOwn, kAddC, rDct, kInt1, iEnumT, rMakeStar, rJoin, iZipM, iSeqH, iEnumL, rLc2, rTruC, rLcP, kLenOwn, kBoolOwn, rCMeth, rClsStar, rClsMake, rLz, rRevL, rRev2, rCMethK, rExcV, rMut, kAdd, kI2, kI2n, kMul, kIx, kIn, kLen, kU, kA2, kDm, kStrI, kAll, kSl, kAppend, kExtend, kTuple, kList, lenT, seqOf, bYes, startT, one, pickG, selG, insOf, putT, flatT, Bool.false_xor, Bool.true_xor, List.all_cons, List.all_nil, Bool.and_self, T.int.injEq, T.bl.injEq, T.str.injEq, T.lst.injEq, T.tup.injEq, T.cell.injEq, T.ins.injEq, Cell.lst.injEq, Cell.ins.injEq, Prod.mk.injEq, List.cons.injEq, Option.some.injEq, List.map_cons, List.map_nil, List.length_cons, List.length_nil, List.cons_append, List.nil_append, List.append_nil, List.getElem?_cons_zero, List.getElem?_cons_succ, List.set_cons_zero, List.set_cons_succ, List.replicate_succ, List.replicate_zero, exists_eq_left, exists_eq_left', exists_and_left, and_true, true_and, and_self, and_assoc, Nat.sub_self, Nat.reduceAdd, Nat.reduceSub, Nat.zero_add, put_put, put_same, reduceIte, Bool.false_eq_true, Bool.true_eq_false, Bool.not_true, Bool.not_false, at_0, at_1, at_2, at_3, at_4, at_5, at_6, at_7, ix_1_0, ix_2_0, ix_2_1, ix_3_0, ix_3_1, ix_3_2, ix_4_0, ix_4_1, ix_4_2, ix_4_3] at q ⊢; exact q)
  · exact h.elim
/-! the pool -/
def PoolT (S : Store) (p : Addr) : Prop := ∃ x d c : Int, S p = some (.lst [.int x, .int d, .int c]) ∧ 0 ≤ x ∧ x < 2147483137 ∧ 0 ≤ d
theorem cutT_ints (ns : List Int) (lo hi : Option Int) : ∃ ms : List Int, cutT (ns.map T.int) lo hi = ms.map T.int := by
  refine ⟨(ns.drop (HT.sIx (ns.map T.int).length 0 lo)).take (HT.sIx (ns.map T.int).length (ns.map T.int).length hi - HT.sIx (ns.map T.int).length 0 lo), ?_⟩
  unfold cutT
  rw [List.map_take, List.map_drop]
theorem at_ints {ns : List Int} {k : Int} (h0 : 0 ≤ k) (c : k < (ns.length : Int)) : ∃ z, atI (ns.map T.int) k = some (.int z) := by
  have hn : k.toNat < ns.length := by omega
  have := atI_nat (xs := ns.map T.int) (j := k.toNat) (v := .int ns[k.toNat]) (by rw [List.getElem?_map, List.getElem?_eq_getElem hn]; rfl)
  rw [show ((k.toNat : Nat) : Int) = k by omega] at this
  exact ⟨_, this⟩
/-- the pool at p goes on -/
def PS (S : Store) (p : Addr) (S' : Store) : Prop := ∃ x d c : Int, 0 ≤ x ∧ x < 2147483137 ∧ 0 ≤ d ∧ S' = S.put p (.lst [.int x, .int d, .int c])
theorem PS.pool {S S' : Store} {p : Addr} (h : PS S p S') : PoolT S' p := by
  obtain ⟨x, d, c, h1, h2, h3, rfl⟩ := h
  exact ⟨x, d, c, put_same, h1, h2, h3⟩
theorem PS.trans {S S' S2 : Store} {p : Addr} (h : PS S p S') (k : PS S' p S2) : PS S p S2 := by
  obtain ⟨x, d, c, h1, h2, h3, rfl⟩ := h
  obtain ⟨x', d', c', h1, h2, h3, rfl⟩ := k
  exact ⟨x', d', c', h1, h2, h3, put_put⟩
theorem sc_l_cell : FnScope ["_law_script", "_law_k", "_law_state", "_law_figure"] ["_law_script", "_law_k"] (defScope s_l_cell) := ⟨rfl, rfl, rfl, by decide +kernel, rfl, by decide +kernel, by decide +kernel⟩
def sp_l_cell : SpT := fun ts S R _ => match ts with
  | [.scr ts, .int k] => (∃ ns : List Int, ts = ns.map T.int ∧ ns.length ≤ 63) ∧ 0 ≤ k ∧ k < 2 ^ 60 ∧ ∀ z : Int, R (.int z) S
  | _ => False
theorem ok_l_cell {P : Program} {w : World} {K : PySem.W.Frag} {mg : Str → Option Value} {base : Heap} {f : Addr} {fd : FuncData}   (F : Fun K "_law_cell" "_law_cell" s_l_cell f fd)
    (n_len : mg "len" = none)
    : FnT P w K mg base 1 f fd ["_law_script", "_law_k"] sp_l_cell := by
  refine okT F sc_l_cell (by intro ts S R RE h; unfold sp_l_cell at h; split at h <;> first | rfl | exact h.elim) (fun cdv A out s H E hg hr => (bs_cons (ss_if (tt_cmp op_lt cv_B2n (et_var (pv 1)) (et_blt call_len cv_len (by rfl) n_len PySem.boot_len (at_cons (et_var (pv 0)) at_nil)) (nomark _)) (bs_one (ss_ret (et_ix ix_seq cv_ix (et_var (pv 0)) (et_var (pv 1)) (fun _ _ => rfl)))) bs_nil)
    (bs_cons (ss_set (i := 2) sc_l_cell.nd rfl (by first | exact Or.inl rfl | exact Or.inr rfl) (et_op op_mod cv_I2 (et_op op_mulG cv_mul et_int (et_op op_addG cv_add (et_op op_addG cv_add (et_op op_mulG cv_mul (et_var (pv 1)) (et_var (pv 1))) (et_op op_mulG cv_mul et_int (et_var (pv 1)))) et_int)) et_int))
    (bs_cons (ss_for (passes_of rfl) rfl (it_seq (et_slice (et_var (pv 0)) ot_none (ot_some et_int))) (gt_name (pg_name (i := 3) sc_l_cell.nd rfl (by first | exact Or.inl rfl | exact Or.inr rfl))) (bs_one (ss_set (i := 2) sc_l_cell.nd rfl (by first | exact Or.inl rfl | exact Or.inr rfl) (et_op op_mod cv_I2 (et_op op_addG cv_add (et_op op_mulG cv_mul (et_var (pv 2)) et_int) (et_var (pv 3))) et_int))))
    (bs_one (ss_ret (et_var (pv 2)))))))) ?_
  intro ts S R RE h
  unfold sp_l_cell at h
  split at h
  · rename_i ts k
    obtain ⟨⟨ns, rfl, h63⟩, h0, hk, q⟩ := h
    simp only [sSeq, sAsg, sRet, sIf, sNext, sFor, rVar, rC, rBin, rTest, aNil, aCons, rArgs, gNameT, iSeq, rSl, oNone, oSome, kAdd, kI2, kI2n, kMul, kIx, kLen, kSl, lenT, seqOf, startT, T.int.injEq, T.bl.injEq, List.cons.injEq, Option.some.injEq, List.map_cons, List.map_nil, List.length_cons, List.length_nil, List.cons_append, List.nil_append, List.getElem?_cons_zero, List.getElem?_cons_succ, List.set_cons_zero, List.set_cons_succ, List.replicate_succ, List.replicate_zero, exists_eq_left', exists_and_left, and_true, and_assoc, Nat.reduceAdd, Nat.reduceSub, Nat.zero_add]
    refine ite_d (fun c => ?_) (fun c => ?_)
    · rw [List.length_map] at c
      obtain ⟨z, hz⟩ := at_ints h0 c
      exact ⟨_, hz, q z⟩
    · refine ⟨mulL (by omega), mulL (by decide), mulL (by decide), by decide, ?_⟩
      obtain ⟨ms, em⟩ := cutT_ints ns none (some 3)
      rw [em]
      refine rLoop_inv (fun _ σ S' => S' = S ∧ ∃ (z : Int) (v : Option T), σ = [some (.scr (ns.map T.int)), some (.int k), some (.int z), v] ∧ 0 ≤ z ∧ z < 2147483137) ⟨rfl, _, none, rfl, (emod_lt (by decide)).1, (emod_lt (by decide)).2⟩ ?_ ?_
      · rintro i t σ S' hi ⟨rfl, z, v, rfl, z0, z1⟩ N hN
        rw [List.getElem?_map] at hi
        obtain ⟨y, _, rfl⟩ := Option.map_eq_some_iff.mp hi
        simp only [sAsg, rVar, rC, rBin, gNameT, kAdd, kI2, kMul, Option.some.injEq, List.getElem?_cons_zero, List.getElem?_cons_succ, List.set_cons_zero, List.set_cons_succ, exists_eq_left', and_assoc]
        exact ⟨mulL (by omega), by decide, hN _ _ ⟨rfl, _, _, rfl, (emod_lt (by decide)).1, (emod_lt (by decide)).2⟩⟩
      · rintro σ S' ⟨rfl, z, v, rfl, _⟩
        simp only [sRet, rVar, Option.some.injEq, List.getElem?_cons_zero, List.getElem?_cons_succ, exists_eq_left']
        exact q z
  · exact h.elim
theorem sc_l_pool : FnScope ["_law_figure", "_law_digits"] ["_law_figure"] (defScope s_l_pool) := ⟨rfl, rfl, rfl, by decide +kernel, rfl, by decide +kernel, by decide +kernel⟩
def sp_l_pool : SpT := fun ts S R _ => match ts with
  | [.int z] => ∀ p S', S p = none → PS S p S' → R (.cell p) S'
  | _ => False
theorem ok_l_pool {P : Program} {w : World} {K : PySem.W.Frag} {mg : Str → Option Value} {base : Heap} {f : Addr} {fd : FuncData}   (F : Fun K "_law_pool" "_law_pool" s_l_pool f fd)
    (n_abs : mg "abs" = none)
    : FnT P w K mg base 1 f fd ["_law_figure"] sp_l_pool := by
  refine okT F sc_l_pool (by intro ts S R RE h; unfold sp_l_pool at h; split at h <;> first | rfl | exact h.elim) (fun cdv A out s H E hg hr => (bs_cons (ss_set (i := 1) sc_l_pool.nd rfl (by first | exact Or.inl rfl | exact Or.inr rfl) (et_if (tt_w (tw_or (tt_cmp op_lt cv_B2n (et_var (pv 0)) et_int (nomark _)) (tw_or1 (tt_cmp op_ge cv_B2n (et_var (pv 0)) (et_op op_pow cv_I2 et_int et_int) (nomark _))))) (et_blt call_abs cv_U (by rfl) n_abs PyProof.Rows.boot_abs (at_cons (et_var (pv 0)) at_nil)) et_int))
    (bs_one (ss_ret (et_lstC (at_cons (et_op op_mod cv_I2 (et_var (pv 0)) et_int) (at_cons (et_var (pv 1)) (at_cons et_int at_nil)))))))) ?_
  intro ts S R RE h
  unfold sp_l_pool at h
  split at h
  · rename_i z
    have m := emod_lt (a := z) (b := 2147483137) (by decide)
    simp only [sSeq, sAsg, sRet, rVar, rC, rBin, rTest, bOr, rIf, aNil, aCons, rLstC, rArgs, gNameT, kI2, kI2n, kU, startT, T.int.injEq, T.bl.injEq, List.cons.injEq, Option.some.injEq, List.map_cons, List.map_nil, List.length_cons, List.length_nil, List.cons_append, List.nil_append, List.getElem?_cons_zero, List.getElem?_cons_succ, List.set_cons_zero, List.set_cons_succ, List.replicate_succ, List.replicate_zero, exists_eq_left', and_true, Nat.reduceAdd, Nat.reduceSub, Nat.zero_add, reduceIte]
    refine ite_d (fun c => ⟨by decide, by decide, fun p hp => h p _ hp ⟨_, _, _, m.1, m.2, by split <;> omega, rfl⟩⟩) (fun c => ⟨⟨by decide, by decide, by decide⟩, ite_d (fun c => ⟨by decide, by decide, fun p hp => h p _ hp ⟨_, _, _, m.1, m.2, by split <;> omega, rfl⟩⟩) (fun c => ⟨by decide, by decide, fun p hp => h p _ hp ⟨_, _, _, m.1, m.2, by omega, rfl⟩⟩)⟩)
  · exact h.elim
theorem sc_l_draw : FnScope ["_law_pool_here", "_law_most", "_law_state", "_law_digit"] ["_law_pool_here", "_law_most"] (defScope s_l_draw) := ⟨rfl, rfl, rfl, by decide +kernel, rfl, by decide +kernel, by decide +kernel⟩
def sp_l_draw : SpT := fun ts S R _ => match ts with
  | [.cell p, .int m] => PoolT S p ∧ Pn 8000 m ∧ ∀ r S', 0 ≤ r → r < m → PS S p S' → R (.int r) S'
  | _ => False
theorem ok_l_draw {P : Program} {w : World} {K : PySem.W.Frag} {mg : Str → Option Value} {base : Heap} {f : Addr} {fd : FuncData}   (F : Fun K "_law_draw" "_law_draw" s_l_draw f fd)
    (n_divmod : mg "divmod" = none)
    : FnT P w K mg base 1 f fd ["_law_pool_here", "_law_most"] sp_l_draw := by
  refine okT F sc_l_draw (by intro ts S R RE h; unfold sp_l_draw at h; split at h <;> first | rfl | exact h.elim) (fun cdv A out s H E hg hr => (bs_cons (ss_asg (et_op op_addG cv_add (et_ix ix_seq cv_ix (et_var (pv 0)) et_int (fun _ _ => rfl)) et_int) (gt_sub (et_var (pv 0)) et_int))
    (bs_cons (ss_set (i := 2) sc_l_draw.nd rfl (by first | exact Or.inl rfl | exact Or.inr rfl) (et_ix ix_seq cv_ix (et_var (pv 0)) et_int (fun _ _ => rfl)))
    (bs_cons (ss_asg (et_op op_mod cv_I2 (et_op op_addG cv_add (et_op op_mulG cv_mul (et_var (pv 2)) (et_op op_addG cv_add (et_op op_mod cv_I2 (et_var (pv 2)) et_int) et_int)) (et_op op_mulG cv_mul et_int (et_ix ix_seq cv_ix (et_var (pv 0)) et_int (fun _ _ => rfl)))) et_int) (gt_sub (et_var (pv 0)) et_int))
    (bs_cons (ss_if (tt_cmp op_gt cv_B2n (et_ix ix_seq cv_ix (et_var (pv 0)) et_int (fun _ _ => rfl)) et_int (nomark _)) (bs_cons (ss_asg (et_blt call_divmodW cv_dm (by rfl) n_divmod PyProof.Rows.boot_divmod (at_cons (et_ix ix_seq cv_ix (et_var (pv 0)) et_int (fun _ _ => rfl)) (at_cons (et_var (pv 1)) at_nil))) (gt_tup (n := 2) (by rfl) (gts_cons (gt_sub (et_var (pv 0)) et_int) (gts_cons (gt_name (pg_name (i := 3) sc_l_draw.nd rfl (by first | exact Or.inl rfl | exact Or.inr rfl))) gts_nil))))
    (bs_one (ss_ret (et_var (pv 3))))) bs_nil)
    (bs_one (ss_ret (et_op op_mod cv_I2 (et_op op_fdivP cv_I2 (et_ix ix_seq cv_ix (et_var (pv 0)) et_int (fun _ _ => rfl)) et_int) (et_var (pv 1)))))))))) ?_
  intro ts S R RE h
  unfold sp_l_draw at h
  split at h
  · rename_i p m
    obtain ⟨⟨x, d, c, hp, x0, x1, d0⟩, hm, q⟩ := h
    refine sSeq_i fun N hN => ?_
    simp only [hp, sAsg, rVar, rC, rBin, gSubT, kAdd, kIx, startT, T.int.injEq, T.cell.injEq, Cell.lst.injEq, Option.some.injEq, List.map_cons, List.map_nil, List.length_cons, List.length_nil, List.cons_append, List.nil_append, List.getElem?_cons_zero, List.set_cons_zero, List.set_cons_succ, List.replicate_succ, List.replicate_zero, exists_eq_left', exists_and_left, Nat.reduceAdd, Nat.reduceSub, Nat.zero_add, at_2, ix_3_2]
    refine hN _ _ ?_
    refine sSeq_i fun N hN => ?_
    simp only [sAsg, rVar, rC, rBin, gNameT, kIx, Cell.lst.injEq, Option.some.injEq, List.getElem?_cons_zero, List.set_cons_zero, List.set_cons_succ, exists_eq_left', exists_and_left, put_same, at_0]
    refine hN _ _ ?_
    refine sSeq_i fun N hN => ?_
    simp only [sAsg, rVar, rC, rBin, gSubT, kAdd, kI2, kMul, kIx, T.int.injEq, T.cell.injEq, Cell.lst.injEq, Option.some.injEq, List.length_cons, List.length_nil, List.getElem?_cons_zero, List.getElem?_cons_succ, List.set_cons_zero, exists_eq_left', exists_and_left, and_assoc, Nat.reduceAdd, Nat.zero_add, put_put, put_same, at_2, ix_3_0]
    have hx2 := emod_lt (a := x) (b := 50023) (by decide)
    have hy := emod_lt (a := x * (x % 50023 + 30013) + 80029 * (c + 1)) (b := 2147483137) (by decide)
    refine ⟨by decide, mulL (by omega), mulL (by decide), by decide, hN _ _ ?_⟩
    generalize (x * (x % 50023 + 30013) + 80029 * (c + 1)) % 2147483137 = y at hy ⊢
    refine sSeq_i fun N hN => ?_
    simp only [sSeq, sAsg, sRet, sIf, sNext, rVar, rC, rBin, rTest, aNil, aCons, rArgs, gNameT, gNilT, gConsT, gTupT, gSubT, kI2n, kIx, kDm, T.int.injEq, T.bl.injEq, T.tup.injEq, T.cell.injEq, Cell.lst.injEq, List.cons.injEq, Option.some.injEq, List.length_cons, List.length_nil, List.getElem?_cons_zero, List.getElem?_cons_succ, List.set_cons_zero, List.set_cons_succ, exists_eq_left', exists_and_left, and_true, true_and, and_assoc, Nat.reduceAdd, Nat.zero_add, put_put, put_same, at_1, ix_3_1]
    refine ite_d (fun cc => ⟨hm.divW _, ?_⟩) (fun cc => hN _ _ ?_)
    · exact q _ _ (emod_lt hm.pos).1 (emod_lt hm.pos).2 ⟨_, _, _, hy.1, hy.2, Int.ediv_nonneg d0 (by have := hm.pos; omega), rfl⟩
    · simp only [sRet, rVar, rC, rBin, kI2, kIx, Cell.lst.injEq, Option.some.injEq, List.getElem?_cons_zero, List.getElem?_cons_succ, exists_eq_left', exists_and_left, put_same, at_0]
      exact ⟨div_small (by decide) (by decide) _, hm.pos, q _ _ (emod_lt hm.pos).1 (emod_lt hm.pos).2 ⟨_, _, _, hy.1, hy.2, d0, rfl⟩⟩
  · exact h.elim
theorem sc_l_low : FnScope ["_law_high_part", "_law_low_part", "_law_lead", "_law_rest"] ["_law_high_part", "_law_low_part"] (defScope s_l_low) := ⟨rfl, rfl, rfl, by decide +kernel, rfl, by decide +kernel, by decide +kernel⟩
def sp_l_low : SpT := fun ts S R _ => match ts with
  | [.int a, .int b] => Pn 8000 a ∧ 0 < b ∧ R (frT (lwA a b) (lwB a b)) S
  | _ => False
theorem ok_l_low {P : Program} {w : World} {K : PySem.W.Frag} {mg : Str → Option Value} {base : Heap} {f : Addr} {fd : FuncData}   (F : Fun K "_law_low" "_law_low" s_l_low f fd)
    : FnT P w K mg base 1 f fd ["_law_high_part", "_law_low_part"] sp_l_low := by
  refine okT F sc_l_low (by intro ts S R RE h; unfold sp_l_low at h; split at h <;> first | rfl | exact h.elim) (fun cdv A out s H E hg hr => (bs_cons (ss_par (i := 2) (j := 3) (by rfl) sc_l_low.nd rfl rfl (by decide) rfl rfl (at_cons (et_var (pv 0)) (at_cons (et_var (pv 1)) at_nil)) (by rfl))
    (bs_cons (ss_while (passes_of rfl) (tt_cmp op_gt cv_B2n (et_var (pv 3)) et_int (nomark _)) (bs_one (ss_par (i := 2) (j := 3) (by rfl) sc_l_low.nd rfl rfl (by decide) rfl rfl (at_cons (et_var (pv 3)) (at_cons (et_op op_mod cv_I2 (et_var (pv 2)) (et_var (pv 3))) at_nil)) (by rfl))))
    (bs_one (ss_ret (et_tup (at_cons (et_op op_fdivP cv_I2 (et_var (pv 0)) (et_var (pv 2))) (at_cons (et_op op_fdivP cv_I2 (et_var (pv 1)) (et_var (pv 2))) at_nil)))))))) ?_
  intro ts S R RE h
  unfold sp_l_low at h
  split at h
  · rename_i a b
    obtain ⟨ha, hb, q⟩ := h
    simp only [sSeq, sPar, rVar, aNil, aCons, startT, List.cons.injEq, Option.some.injEq, List.map_cons, List.map_nil, List.length_cons, List.length_nil, List.cons_append, List.nil_append, List.getElem?_cons_zero, List.getElem?_cons_succ, List.set_cons_zero, List.set_cons_succ, List.replicate_succ, List.replicate_zero, exists_eq_left', exists_and_left, and_true, and_assoc, Nat.reduceAdd, Nat.reduceSub, Nat.zero_add]
    refine while_inv (fun σ S' => S' = S ∧ ∃ x y : Int, σ = [some (.int a), some (.int b), some (.int x), some (.int y)] ∧ 0 < x ∧ 0 ≤ y ∧ gcdI x y = gcdI a b) (fun σ _ => match σ with | [_, _, _, some (.int y)] => y.toNat | _ => 0) ⟨rfl, a, b, rfl, ha.pos, by omega, rfl⟩ ?_
    rintro σ S' ⟨rfl, x, y, rfl, hx, hy, g⟩ N hN
    simp only [sRet, sPar, rVar, rC, rBin, rTest, aNil, aCons, rTup, kI2, kI2n, T.bl.injEq, List.cons.injEq, Option.some.injEq, List.length_cons, List.length_nil, List.getElem?_cons_zero, List.getElem?_cons_succ, List.set_cons_zero, List.set_cons_succ, exists_eq_left', exists_and_left, and_true, and_assoc, Nat.reduceAdd, Nat.zero_add]
    refine ite_d (fun c => ?_) (fun c => ?_)
    · have := emod_lt (a := x) c
      exact ⟨c, hN _ _ ⟨rfl, y, _, rfl, c, this.1, (gcdI_step c).trans g⟩ (by show (x % y).toNat < y.toNat; omega)⟩
    · have e : y = 0 := by omega
      subst e
      rw [gcdI_zero hx] at g
      subst g
      exact ⟨ha.gcd.divW _, ha.gcd.divW _, by decide, q⟩
  · exact h.elim
/-! fractions, good arguments only -/
def sgn (l r : Int) : Int := if l < r then -1 else if r < l then 1 else 0
theorem Pn.isPos {n : Nat} {a : Int} (h : Pn n a) : isPos (.int a) = true := decide_eq_true h.pos
theorem eqI {a b : Int} {S : Store} {R : T → Store → Prop} {RE : XT} {ng : Bool} (q : R (.bl (ng ^^ decide (a = b))) S) : kEqG ng (.int a) (.int b) S R RE := .inl ⟨rfl, q⟩
theorem eqI0 {a b : Int} {S : Store} {R : T → Store → Prop} {RE : XT} (q : R (.bl (decide (a = b))) S) : kEqG false (.int a) (.int b) S R RE := eqI (by simpa using q)
theorem eqI1 {a b : Int} {S : Store} {R : T → Store → Prop} {RE : XT} (q : R (.bl (!decide (a = b))) S) : kEqG true (.int a) (.int b) S R RE := eqI (by simpa using q)
/-- all are fractions -/
def FrL (n : Nat) (l : List T) : Prop := ∀ x ∈ l, ∃ a b, x = frT a b ∧ Fr n a b
theorem FrL.one {n : Nat} {a b : Int} (h : Fr n a b) : FrL n [frT a b] := fun x m => by
  rw [List.mem_singleton.mp m]; exact ⟨a, b, rfl, h⟩
theorem FrL.two {n : Nat} {a b c d : Int} (h : Fr n a b) (k : Fr n c d) : FrL n [frT a b, frT c d] := fun x m => by
  rcases List.mem_cons.mp m with rfl | m
  · exact ⟨a, b, rfl, h⟩
  · rw [List.mem_singleton.mp m]; exact ⟨c, d, rfl, k⟩
/-- a value of which all is known that is asked of it -/
structure AnyV (K : PySem.W.Frag) (S : Store) (x : T) : Prop where
  v : ValT K S x
  l : ∀ ts, x = .tup ts → (∀ y ∈ ts, ValT K S y) ∧ ts.length ≤ 100
  n : ∀ a b, x = .tup [.int a, .int b] → 0 < a → 0 < b → Pn 8000 a ∧ Pn 8000 b
def goodF : T → Bool
  | .tup [.int a, .int b] => decide (0 < a) && decide (0 < b) && decide (gcdI a b = 1)
  | _ => false
theorem Fr.good {n : Nat} {a b : Int} (h : Fr n a b) : goodF (frT a b) = true := by
  simp [goodF, frT, h.a.pos, h.b.pos, h.g]
theorem Fr.any {K : PySem.W.Frag} {S : Store} {a b : Int} (h : Fr 8000 a b) : AnyV K S (frT a b) :=
  ⟨.tup, fun ts e => by
    have e := T.tup.inj e
    subst e
    refine ⟨fun y m => ?_, by simp⟩
    simp only [List.mem_cons, List.not_mem_nil, or_false] at m
    rcases m with rfl | rfl <;> exact .int, fun x y e _ _ => by
    have e := T.tup.inj e
    simp only [List.cons.injEq, T.int.injEq, and_true] at e
    obtain ⟨rfl, rfl⟩ := e
    exact ⟨h.a, h.b⟩⟩
theorem goodF_negL {y z : T} (h : isPos y = false) : goodF (.tup [y, z]) = false := by
  cases hg : goodF (.tup [y, z]) with
  | false => rfl
  | true =>
    unfold goodF at hg
    split at hg
    · rename_i a b e
      have e := T.tup.inj e
      simp only [List.cons.injEq, and_true] at e
      obtain ⟨rfl, rfl⟩ := e
      have : decide (0 < a) = false := h
      rw [this] at hg
      simp at hg
    · cases hg
theorem goodF_negR {y z : T} (h : isPos z = false) : goodF (.tup [y, z]) = false := by
  cases hg : goodF (.tup [y, z]) with
  | false => rfl
  | true =>
    unfold goodF at hg
    split at hg
    · rename_i a b e
      have e := T.tup.inj e
      simp only [List.cons.injEq, and_true] at e
      obtain ⟨rfl, rfl⟩ := e
      have : decide (0 < b) = false := h
      rw [this] at hg
      simp at hg
    · cases hg
theorem isPos_int {x : T} (h : isPos x = true) : ∃ a, x = .int a ∧ 0 < a := by
  cases x <;> first | (cases h; done) | skip
  rename_i i
  exact ⟨i, rfl, of_decide_eq_true h⟩
theorem sc_is_fraction : FnScope ["value", "top", "bottom"] ["value"] (defScope s_is_fraction) := ⟨rfl, rfl, rfl, by decide +kernel, rfl, by decide +kernel, by decide +kernel⟩
def sp_is_fraction (K : PySem.W.Frag) : SpT := fun ts S R _ => match ts with
  | [x] => AnyV K S x ∧ R (.bl (goodF x)) S
  | _ => False
theorem ok_is_fraction {P : Program} {w : World} {K : PySem.W.Frag} {mg : Str → Option Value} {base : Heap} {f : Addr} {fd : FuncData} {g_common_divisor g_is_positive : Addr} {gd_common_divisor : FuncData} {gd_is_positive : FuncData} (F : Fun K "is_fraction" "is_fraction" s_is_fraction f fd)
    (n_len : mg "len" = none)
    (n_isinstance : mg "isinstance" = none)
    (n_tuple : mg "tuple" = none)
    (G_common_divisor : FnT P w K mg base 1 g_common_divisor gd_common_divisor ["one", "other"] sp_common_divisor)
    (m_common_divisor : mg "common_divisor" = some (.ref g_common_divisor))
    (k_common_divisor : PySem.W.keepIn K (.ref g_common_divisor) = true)
    (b_common_divisor : Binds K gd_common_divisor ["one", "other"] [])
    (G_is_positive : FnT P w K mg base 2 g_is_positive gd_is_positive ["value"] (sp_is_positive K))
    (m_is_positive : mg "is_positive" = some (.ref g_is_positive))
    (k_is_positive : PySem.W.keepIn K (.ref g_is_positive) = true)
    (b_is_positive : Binds K gd_is_positive ["value"] [])
    : FnT P w K mg base 3 f fd ["value"] (sp_is_fraction K) := by
  refine okT F sc_is_fraction (by intro ts S R RE h; unfold sp_is_fraction at h; split at h <;> first | rfl | exact h.elim) (fun cdv A out s H E hg hr => (bs_cons (ss_if (tt_w (tw_or (tt_not (tt_val (et_blt call_isiY (cv_isi (K := K)) (by rfl) n_isinstance PyProof.Rows.boot_isinstance (at_cons (et_var (pv 0)) (at_cons (et_blty (by rfl) n_tuple PyProof.Rows.boot_tuple) at_nil))))) (tw_or1 (tt_cmp (op_neG hr.units) cv_ne (et_blt call_len cv_len (by rfl) n_len PySem.boot_len (at_cons (et_var (pv 0)) at_nil)) et_int (nomark _))))) (bs_one (ss_ret et_bl)) bs_nil)
    (bs_cons (ss_asg (et_var (pv 0)) (gt_tup (n := 2) (by rfl) (gts_cons (gt_name (pg_name (i := 1) sc_is_fraction.nd rfl (by first | exact Or.inl rfl | exact Or.inr rfl))) (gts_cons (gt_name (pg_name (i := 2) sc_is_fraction.nd rfl (by first | exact Or.inl rfl | exact Or.inr rfl))) gts_nil))))
    (bs_cons (ss_if (tt_w (tw_or (tt_not (tt_val (et_callD G_is_positive hg (hr.mono (by decide)) (by rfl) m_is_positive k_is_positive (CallD.all b_is_positive) (passL2N (L2N.takes_of rfl rfl rfl rfl)) (at_cons (et_var (pv 1)) at_nil)))) (tw_or1 (tt_not (tt_val (et_callD G_is_positive hg (hr.mono (by decide)) (by rfl) m_is_positive k_is_positive (CallD.all b_is_positive) (passL2N (L2N.takes_of rfl rfl rfl rfl)) (at_cons (et_var (pv 2)) at_nil))))))) (bs_one (ss_ret et_bl)) bs_nil)
    (bs_one (ss_ret (et_cmp (op_eqG hr.units) cv_eq (et_callD G_common_divisor hg (hr.mono (by decide)) (by rfl) m_common_divisor k_common_divisor (CallD.all b_common_divisor) (passL2N (L2N.takes_of rfl rfl rfl rfl)) (at_cons (et_var (pv 1)) (at_cons (et_var (pv 2)) at_nil))) et_int (nomark _)))))))) ?_
  intro ts S R RE h
  unfold sp_is_fraction at h
  split at h
  · rename_i x
    obtain ⟨av, q⟩ := h
    refine sSeq_i fun N hN => ?_
    simp only [sRet, sIf, sNext, rVar, rC, rBin, rTest, bOr, bNot, aNil, aCons, rArgs, kLen, lenT, startT, List.cons.injEq, Option.some.injEq, List.map_cons, List.map_nil, List.length_cons, List.length_nil, List.cons_append, List.nil_append, List.getElem?_cons_zero, List.replicate_succ, List.replicate_zero, exists_eq_left', exists_and_left, and_true, Nat.reduceAdd, Nat.reduceSub, Nat.zero_add, reduceIte]
    refine av.v.is (n := "tuple") (by decide) ⟨isK x "tuple", rfl, ?_⟩
    cases ek : isK x "tuple" with
    | false =>
      have g : goodF x = false := by
        cases x <;> first | rfl | (cases ek; done)
      rw [g] at q
      simp only [reduceIte, Bool.not_false]
      exact q
    | true =>
      obtain ⟨l, rfl⟩ : ∃ l, x = .tup l := by
        cases x <;> first | (cases ek; done) | exact ⟨_, rfl⟩
      obtain ⟨vl, ll⟩ := av.l l rfl
      simp only [Option.some.injEq, exists_eq_left', reduceIte, Bool.false_eq_true, Bool.not_true]
      refine eqI ?_
      match l, vl, ll, q, av with
      | [], _, _, q, _ => exact ⟨true, rfl, by rw [if_pos rfl]; exact q⟩
      | [a], _, _, q, _ =>
        have e : goodF (.tup [a]) = false := by unfold goodF; split <;> simp_all
        exact ⟨true, rfl, by rw [if_pos rfl, ← e]; exact q⟩
      | a :: b :: c :: l, _, _, q, _ =>
        have e : goodF (.tup (a :: b :: c :: l)) = false := by unfold goodF; split <;> simp_all
        refine ⟨true, ?_, by rw [if_pos rfl, ← e]; exact q⟩
        have : ¬ ((((a :: b :: c :: l).length : Nat) : Int) = 2) := by simp only [List.length_cons]; omega
        rw [decide_eq_false this]; rfl
      | [y, z], vl, _, q, av =>
        refine ⟨false, rfl, ?_⟩
        have vy := vl y (by simp)
        have vz := vl z (by simp)
        simp only [reduceIte, Bool.false_eq_true]
        refine hN _ _ ?_
        clear hN
        refine sSeq_i fun N hN => ?_
        simp only [sAsg, rVar, gNameT, gNilT, gConsT, gTupT, T.tup.injEq, List.cons.injEq, Option.some.injEq, List.length_cons, List.length_nil, List.getElem?_cons_zero, List.set_cons_zero, List.set_cons_succ, exists_eq_left', exists_and_left, true_and, and_assoc, Nat.reduceAdd, Nat.zero_add]
        refine hN _ _ ?_
        clear hN
        refine sSeq_i fun N hN => ?_
        simp only [sp_is_positive, sRet, sIf, sNext, rVar, rC, rTest, bOr, bNot, aNil, aCons, rCall, T.bl.injEq, Option.some.injEq, List.append_nil, List.getElem?_cons_zero, List.getElem?_cons_succ, exists_eq_left', reduceIte]
        refine ⟨vy, ?_⟩
        cases ey : isPos y with
        | false =>
          rw [goodF_negL ey] at q
          rw [if_pos (by decide)]
          exact q
        | true =>
          rw [if_neg (by decide)]
          refine ⟨vz, ?_⟩
          cases ez : isPos z with
          | false =>
            rw [goodF_negR ez] at q
            rw [if_pos (by decide)]
            exact q
          | true =>
            obtain ⟨a, rfl, a0⟩ := isPos_int ey
            obtain ⟨b, rfl, b0⟩ := isPos_int ez
            obtain ⟨pa, pb⟩ := av.n a b rfl a0 b0
            rw [if_neg (by decide)]
            refine hN _ _ ?_
            simp only [sp_common_divisor, sRet, rVar, rC, rBin, aNil, aCons, rCall, Option.some.injEq, List.append_nil, List.getElem?_cons_zero, List.getElem?_cons_succ, exists_eq_left']
            refine ⟨a0, Int.le_of_lt b0, eqI ?_⟩
            simp only [goodF, a0, b0, decide_true, Bool.true_and] at q
            rw [Bool.false_xor]
            exact q
  · exact h.elim
theorem sc_check_fractions : FnScope ["values", "value"] ["values"] (defScope s_check_fractions) := ⟨rfl, rfl, rfl, by decide +kernel, rfl, by decide +kernel, by decide +kernel⟩
def sp_check_fractions (K : PySem.W.Frag) (C : Addr) : SpT := fun ts S R RE => match ts with
  | [.tup l] => (∀ x ∈ l, AnyV K S x) ∧ (match l.find? (fun x => !goodF x) with | none => R .non S | some x => RE C [("value", x)] S)
  | _ => False
theorem ok_check_fractions {P : Program} {w : World} {K : PySem.W.Frag} {mg : Str → Option Value} {base : Heap} {f : Addr} {fd : FuncData} {g_is_fraction C_InvalidFraction fI_InvalidFraction : Addr} {gd_is_fraction : FuncData} (F : Fun K "check_fractions" "check_fractions" s_check_fractions f fd)
    (G_is_fraction : FnT P w K mg base 3 g_is_fraction gd_is_fraction ["value"] (sp_is_fraction K))
    (m_is_fraction : mg "is_fraction" = some (.ref g_is_fraction))
    (k_is_fraction : PySem.W.keepIn K (.ref g_is_fraction) = true)
    (b_is_fraction : Binds K gd_is_fraction ["value"] [])
    (Z_InvalidFraction : EvTxt K C_InvalidFraction fI_InvalidFraction "InvalidFraction.__init__")
    (m_InvalidFraction : mg "InvalidFraction" = some (.ref C_InvalidFraction))
    : FnT P w K mg base 4 f fd ["values"] (sp_check_fractions K C_InvalidFraction) := by
  refine okT F sc_check_fractions (by intro ts S R RE h; unfold sp_check_fractions at h; split at h <;> first | rfl | exact h.elim) (fun cdv A out s H E hg hr => (bs_one (ss_for (passes_of rfl) rfl (it_seq (et_var (pv 0))) (gt_name (pg_name (i := 1) sc_check_fractions.nd rfl (by first | exact Or.inl rfl | exact Or.inr rfl))) (bs_one (ss_if (tt_not (tt_val (et_callD G_is_fraction hg (hr.mono (by decide)) (by rfl) m_is_fraction k_is_fraction (CallD.all b_is_fraction) (passL2N (L2N.takes_of rfl rfl rfl rfl)) (at_cons (et_var (pv 1)) at_nil)))) (bs_one (ss_raise Z_InvalidFraction rfl m_InvalidFraction hr (L2N.takes_of rfl rfl rfl rfl) (hg := by rfl) (at_cons (et_var (pv 1)) at_nil))) bs_nil))))) ?_
  intro ts S R RE h
  unfold sp_check_fractions at h
  split at h
  · rename_i l
    obtain ⟨av, q⟩ := h
    simp only [sFor, rVar, iSeq, seqOf, startT, Option.some.injEq, List.map_cons, List.map_nil, List.length_cons, List.length_nil, List.cons_append, List.nil_append, List.getElem?_cons_zero, List.replicate_succ, List.replicate_zero, exists_eq_left', Nat.reduceAdd, Nat.reduceSub, Nat.zero_add]
    suffices hh : ∀ (pre us : List T) (v : Option T), l = pre ++ us → pre.find? (fun x => !goodF x) = none → rLoop (gNameT 1) (sIf (bNot (rTest (rCall (sp_is_fraction K) [] (aCons (rVar 1) aNil)))) (sRaise C_InvalidFraction (aCons (rVar 1) aNil)) sNext) { nx := fun _ S' => R .non S', rt := R, ex := RE } us [some (.tup l), v] S from hh [] l none rfl rfl
    intro pre us
    induction us generalizing pre with
    | nil =>
      intro v e fp
      rw [List.append_nil] at e
      subst e
      rw [fp] at q
      simp only [rLoop]
      exact q
    | cons u us ih =>
      intro v e fp
      have au := av u (by rw [e]; simp)
      simp only [rLoop, sp_is_fraction, sIf, sNext, sRaise, rVar, rTest, bNot, aNil, aCons, gNameT, rCall, T.bl.injEq, List.cons.injEq, Option.some.injEq, List.append_nil, List.getElem?_cons_zero, List.getElem?_cons_succ, List.set_cons_zero, List.set_cons_succ, exists_eq_left', and_true]
      refine ⟨au, ?_⟩
      cases eg : goodF u with
      | true =>
        rw [if_neg (by decide)]
        refine ih (pre ++ [u]) _ (by rw [e]; simp) ?_
        rw [List.find?_append, fp]
        simp [eg]
      | false =>
        have ef : l.find? (fun x => !goodF x) = some u := by
          rw [e, List.find?_append, fp]
          simp [eg]
        rw [ef] at q
        rw [if_pos (by decide)]
        exact q
  · exact h.elim
theorem chk_ok {K : PySem.W.Frag} {C : Addr} {l : List T} {S : Store} {R : T → Store → Prop} {RE : XT} (h : FrL 8000 l) (q : R .non S) : sp_check_fractions K C [.tup l] S R RE := by
  refine ⟨fun x m => ?_, ?_⟩
  · obtain ⟨a, b, rfl, f⟩ := h x m
    exact f.any
  · have e : l.find? (fun x => !goodF x) = none := List.find?_eq_none.mpr fun x m => by
      obtain ⟨a, b, rfl, f⟩ := h x m
      simp [f.good]
    rw [e]
    exact q
/-- a side stands for a fraction -/
inductive Side (n : Nat) : T → Int → Int → Prop
  | int {a : Int} (h : Pn n a) : Side n (.int a) a 1
  | fr {a b : Int} (h : Fr n a b) : Side n (frT a b) a b
theorem Side.is {n : Nat} {x : T} {a b : Int} (h : Side n x a b) : Fr n a b := by
  cases h with
  | @int a h => exact ⟨h, ⟨by decide, Nat.lt_of_le_of_lt (by have := h.pos; omega) h.lt⟩, gcdI_one⟩
  | fr h => exact h
theorem ValT.fr {K : PySem.W.Frag} {S : Store} {a b : Int} : ValT K S (frT a b) := .tup
theorem sc_as_fraction : FnScope ["side"] ["side"] (defScope s_as_fraction) := ⟨rfl, rfl, rfl, by decide +kernel, rfl, by decide +kernel, by decide +kernel⟩
def sp_as_fraction (K : PySem.W.Frag) (C : Addr) : SpT := fun ts S R RE => match ts with
  | [x] => (∃ a b, Side 8000 x a b ∧ R (frT a b) S) ∨ (AnyV K S x ∧ isPos x = false ∧ goodF x = false ∧ RE C [("value", x)] S)
  | _ => False
theorem ok_as_fraction {P : Program} {w : World} {K : PySem.W.Frag} {mg : Str → Option Value} {base : Heap} {f : Addr} {fd : FuncData} {g_check_fractions C_InvalidFraction g_is_positive : Addr} {gd_check_fractions : FuncData} {gd_is_positive : FuncData} (F : Fun K "as_fraction" "as_fraction" s_as_fraction f fd)
    (G_check_fractions : FnT P w K mg base 4 g_check_fractions gd_check_fractions ["values"] (sp_check_fractions K C_InvalidFraction))
    (m_check_fractions : mg "check_fractions" = some (.ref g_check_fractions))
    (k_check_fractions : PySem.W.keepIn K (.ref g_check_fractions) = true)
    (b_check_fractions : Binds K gd_check_fractions ["values"] [])
    (G_is_positive : FnT P w K mg base 2 g_is_positive gd_is_positive ["value"] (sp_is_positive K))
    (m_is_positive : mg "is_positive" = some (.ref g_is_positive))
    (k_is_positive : PySem.W.keepIn K (.ref g_is_positive) = true)
    (b_is_positive : Binds K gd_is_positive ["value"] [])
    : FnT P w K mg base 5 f fd ["side"] (sp_as_fraction K C_InvalidFraction) := by
  refine okT F sc_as_fraction (by intro ts S R RE h; unfold sp_as_fraction at h; split at h <;> first | rfl | exact h.elim) (fun cdv A out s H E hg hr => (bs_cons (ss_if (tt_val (et_callD G_is_positive hg (hr.mono (by decide)) (by rfl) m_is_positive k_is_positive (CallD.all b_is_positive) (passL2N (L2N.takes_of rfl rfl rfl rfl)) (at_cons (et_var (pv 0)) at_nil))) (bs_one (ss_ret (et_tup (at_cons (et_var (pv 0)) (at_cons et_int at_nil))))) bs_nil)
    (bs_cons (ss_expr (et_callD G_check_fractions hg (hr.mono (by decide)) (by rfl) m_check_fractions k_check_fractions (CallD.all b_check_fractions) (passL2N (L2N.takes_of rfl rfl rfl rfl)) (at_cons (et_tup (at_cons (et_var (pv 0)) at_nil)) at_nil)))
    (bs_one (ss_ret (et_var (pv 0))))))) ?_
  intro ts S R RE h
  unfold sp_as_fraction at h
  split at h
  · rename_i x
    rcases h with ⟨a, b, sd, q⟩ | ⟨av, np, ng, q⟩
    · refine sSeq_i fun N hN => ?_
      simp only [sp_is_positive, sRet, sIf, sNext, rVar, rC, rTest, aNil, aCons, rTup, rCall, startT, T.bl.injEq, Option.some.injEq, List.map_cons, List.map_nil, List.length_cons, List.length_nil, List.append_nil, List.getElem?_cons_zero, List.replicate_zero, exists_eq_left', Nat.sub_self, Nat.reduceAdd, Nat.zero_add]
      cases sd with
      | int h =>
        refine ⟨.int, ?_⟩
        rw [h.isPos]
        simp only [reduceIte]
        exact ⟨by decide, q⟩
      | fr h =>
        refine ⟨.fr, ?_⟩
        simp only [frT, isPos, reduceIte, Bool.false_eq_true]
        refine hN _ _ ?_
        refine sSeq_i fun N hN => ?_
        simp only [sDrop, rVar, aNil, aCons, rTup, rCall, Option.some.injEq, List.length_cons, List.length_nil, List.append_nil, List.getElem?_cons_zero, exists_eq_left', Nat.zero_add]
        refine ⟨by decide, chk_ok (FrL.one h) (hN _ _ ?_)⟩
        simp only [sRet, rVar, Option.some.injEq, List.getElem?_cons_zero, exists_eq_left']
        exact q
    · refine sSeq_i fun N hN => ?_
      simp only [sp_is_positive, sRet, sIf, sNext, rVar, rC, rTest, aNil, aCons, rTup, rCall, startT, T.bl.injEq, Option.some.injEq, List.map_cons, List.map_nil, List.length_cons, List.length_nil, List.append_nil, List.getElem?_cons_zero, List.replicate_zero, exists_eq_left', Nat.sub_self, Nat.reduceAdd, Nat.zero_add]
      refine ⟨av.v, ?_⟩
      rw [np, if_neg (by decide)]
      refine hN _ _ ?_
      refine sSeq_i fun N hN => ?_
      simp only [sDrop, rVar, aNil, aCons, rTup, rCall, Option.some.injEq, List.length_cons, List.length_nil, List.append_nil, List.getElem?_cons_zero, exists_eq_left', Nat.zero_add]
      refine ⟨by decide, fun y m => ?_, ?_⟩
      · rw [List.mem_singleton.mp m]; exact av
      · simp only [List.find?, ng]
        exact q
  · exact h.elim
def sp_product : SpT := fun ts S R _ => match ts with
  | [.tup [.int a, .int b], .tup [.int c, .int d]] => Fr 3900 a b ∧ Fr 3900 c d ∧ R (frT (lwA (a * c) (b * d)) (lwB (a * c) (b * d))) S
  | _ => False
def sp_quotient : SpT := fun ts S R _ => match ts with
  | [.tup [.int a, .int b], .tup [.int c, .int d]] => Fr 3900 a b ∧ Fr 3900 c d ∧ R (frT (lwA (a * d) (b * c)) (lwB (a * d) (b * c))) S
  | _ => False
def sp_order : SpT := fun ts S R _ => match ts with
  | [.int l, .int r] => R (.int (sgn l r)) S
  | _ => False
def sp_compare : SpT := fun ts S R _ => match ts with
  | [.tup [.int a, .int b], .tup [.int c, .int d]] => Fr 3900 a b ∧ Fr 3900 c d ∧ R (.int (sgn (a * d) (c * b))) S
  | _ => False
open TL (numL tl tl_append tl_num joinL numL_free numL_digits numL_ne numL_val numL_inj)
open NumText (AllDigits digitsVal)
/-! texts of fractions, whatever they are: numbers of up to 2,400 digits -/
abbrev nS (i : Int) : Str := Str.ofString (toString i)
theorem nS_tl {w : Int} (h : 0 ≤ w) : tl (nS w) = numL w.toNat := by
  obtain ⟨n, rfl⟩ := Int.eq_ofNat_of_zero_le h
  exact tl_num n
theorem nS_S {w : Int} (h : 0 ≤ w) : nS w = SX.S (numL w.toNat) := by
  rw [← nS_tl h]
theorem sEmp (a : Str) : Str.empty ++ a = a := by
  show (⟨#[] ++ a.cps⟩ : Str) = a
  rw [Array.empty_append]
theorem num_free {n s : Nat} (h : s < 48 ∨ 57 < s) : s ∉ numL n := numL_free h
theorem sLen0 (a b : Str) : (a ++ b).length = a.length + b.length := by
  show (a.cps ++ b.cps).size = _
  rw [Array.size_append]; rfl
/-- the signs of a positive number -/
structure Canon (l : List Nat) : Prop where
  ne : l ≠ []
  hd : l.head? ≠ some 48
  dig : AllDigits l
theorem chr_nat : ∀ c, c < 58 → 48 ≤ c → (Char.ofNat c).toNat = c := by decide +kernel
theorem canon_back {l : List Nat} (h : Canon l) : numL (digitsVal l) = l ∧ 0 < digitsVal l := by
  obtain ⟨ne, hd, dig⟩ := h
  match l, ne with
  | c :: r, _ =>
  have hc := dig c (List.mem_cons_self ..)
  have h49 : 49 ≤ c := by
    rcases Nat.lt_or_ge c 49 with z | z
    · exact absurd (by simp; omega) hd
    · exact z
  refine ⟨?_, NumText.digitsVal_pos h49⟩
  have e := NumText.toDigits_digitsVal r.length (c :: r) rfl dig (.inr ⟨c, r, rfl, h49⟩)
  unfold numL
  rw [e, List.map_map]
  refine (List.map_congr_left (g := id) fun d m => ?_).trans (List.map_id _)
  have hd := dig d m
  exact chr_nat d (by omega) hd.1
theorem num_head (n : Nat) : 0 < n → (numL n).head? ≠ some 48 := by
  induction n using Nat.strongRecOn with
  | _ n ih =>
    intro h
    by_cases h10 : n < 10
    · rw [TL.numL_lt h10]
      simp
      omega
    · rw [TL.numL_step (by omega)]
      have ne := numL_ne (n / 10)
      have := ih (n / 10) (by omega) (by omega)
      cases hl : numL (n / 10) with
      | nil => exact absurd hl ne
      | cons c r => rw [hl] at this; simpa using this
theorem canon_num {n : Nat} (h : 0 < n) : Canon (numL n) := ⟨numL_ne n, num_head n h, numL_digits n⟩
theorem val_lt : ∀ (l : List Nat) (a : Nat), AllDigits l → l.foldl (fun acc c => acc * 10 + (c - 48)) a < (a + 1) * 10 ^ l.length
  | [], a, _ => by simp
  | c :: l, a, h => by
    have hc := h c (List.mem_cons_self ..)
    have ih := val_lt l (a * 10 + (c - 48)) fun d m => h d (List.mem_cons_of_mem _ m)
    rw [List.foldl_cons, List.length_cons, Nat.pow_succ]
    refine Nat.lt_of_lt_of_le ih ?_
    rw [show (a + 1) * (10 ^ l.length * 10) = ((a + 1) * 10) * 10 ^ l.length by rw [Nat.mul_assoc, Nat.mul_comm (10 ^ l.length) 10]]
    exact Nat.mul_le_mul_right _ (by omega)
theorem ten2400 : (10 : Nat) ^ 2400 ≤ 2 ^ 8000 := by decide +kernel
theorem val_bits {l : List Nat} (h : AllDigits l) (hl : l.length ≤ 2400) : digitsVal l < 2 ^ 8000 := by
  have := val_lt l 0 h
  rw [Nat.zero_add, Nat.one_mul] at this
  exact Nat.lt_of_lt_of_le this (Nat.le_trans (Nat.pow_le_pow_right (by decide) hl) ten2400)
theorem two8000 : (2 : Nat) ^ 8000 ≤ 10 ^ 2409 := by decide +kernel
theorem num_len {n : Nat} (h : n < 2 ^ 8000) : (numL n).length ≤ 2409 := TL.numL_len (by decide) (Nat.lt_of_lt_of_le h two8000)
theorem pn_nat {n : Nat} {a : Int} (h : Pn n a) : ∃ k : Nat, a = k ∧ 0 < k ∧ k < 2 ^ n := by
  have hp := h.pos
  have hl := h.lt
  obtain ⟨k, rfl⟩ := Int.eq_ofNat_of_zero_le (show 0 ≤ a by omega)
  exact ⟨k, rfl, by omega, by simpa using hl⟩
theorem nS_len {a : Int} (h : Pn 8000 a) : (nS a).length ≤ 2409 := by
  obtain ⟨k, rfl, k0, k1⟩ := pn_nat h
  rw [nS_S (by omega), SX.S_len]
  exact num_len k1
/-- is a numeral -/
abbrev isNm (z : Str) : Bool := Txt.isascii z && Txt.isdigit z
theorem dig_is : ∀ c, c < 128 → (Unicode.isDigit c = true ↔ (48 ≤ c ∧ c ≤ 57)) := by decide +kernel
theorem isNm_S {l : List Nat} : isNm (SX.S l) = true ↔ (l ≠ [] ∧ AllDigits l) := by
  have e1 : Txt.isascii (SX.S l) = l.all (fun c => decide (c < 128)) := by
    show (SX.S l).cps.all _ = _
    rw [← Array.all_toList]
  have e2 : Txt.isdigit (SX.S l) = (decide (l.length > 0) && l.all Unicode.isDigit) := by
    show (decide ((SX.S l).length > 0) && (SX.S l).cps.all Unicode.isDigit) = _
    rw [← Array.all_toList, SX.S_len]
  show (Txt.isascii (SX.S l) && Txt.isdigit (SX.S l)) = true ↔ _
  rw [e1, e2]
  simp only [Bool.and_eq_true, List.all_eq_true, decide_eq_true_eq]
  constructor
  · rintro ⟨h1, h2, h3⟩
    exact ⟨fun e => by rw [e] at h2; simp at h2, fun c m => (dig_is c (h1 c m)).mp (h3 c m)⟩
  · rintro ⟨h1, h2⟩
    refine ⟨fun c m => ?_, List.length_pos_iff.mpr h1, fun c m => ?_⟩
    · have := h2 c m; omega
    · have := h2 c m
      exact (dig_is c (by omega)).mpr this
theorem int_dig {l : List Nat} (h : l ≠ [] ∧ AllDigits l) (hl : l.length ≤ 4300) : PySem.intText? (SX.S l) = some ((digitsVal l : Nat) : Int) :=
  SX.int_S (List.all_eq_true.mpr fun c m => by have := h.2 c m; simp; omega) h.1 hl
/-- a fraction's text -/
def frL (a b : Int) : List Nat := if b = 1 then numL a.toNat else numL a.toNat ++ 47 :: numL b.toNat
def frS (a b : Int) : Str := if b = 1 then nS a else (nS a ++ "/") ++ nS b
theorem frS_1 {a : Int} : frS a 1 = nS a := if_pos rfl
theorem frS_n {a b : Int} (h : b ≠ 1) : frS a b = (nS a ++ "/") ++ nS b := if_neg h
theorem slash_S : ("/" : Str) = SX.S [47] := by decide +kernel
theorem frS_S {a b : Int} (ha : 0 ≤ a) (hb : 0 ≤ b) : frS a b = SX.S (frL a b) := by
  unfold frS frL
  split
  · exact nS_S ha
  · rw [nS_S ha, nS_S hb, slash_S, SX.S_cat, SX.S_cat, List.append_assoc]; rfl
theorem frS_len {a b : Int} (f : Fr 8000 a b) : (frS a b).length ≤ 4819 := by
  have l1 := nS_len f.a
  have l2 := nS_len f.b
  have ls : ("/" : Str).length = 1 := by decide
  unfold frS
  split
  · omega
  · rw [sLen0, sLen0, ls]; omega
theorem frL_free {s : Nat} {a b : Int} (h : s < 47 ∨ 57 < s) : s ∉ frL a b := by
  unfold frL
  split
  · exact num_free (by omega)
  · intro m
    rcases List.mem_append.mp m with m | m
    · exact num_free (by omega) m
    · rcases List.mem_cons.mp m with e | m
      · omega
      · exact num_free (by omega) m
/-- the number that a text writes -/
theorem split1 : ∀ (c : Nat) (l : List Nat), c ∉ l ∨ ∃ p q, l = p ++ c :: q ∧ c ∉ p
  | c, [] => .inl (by simp)
  | c, d :: l => by
    by_cases e : d = c
    · subst e
      exact .inr ⟨[], l, rfl, by simp⟩
    · rcases split1 c l with h | ⟨p, q, h1, h2⟩
      · exact .inl (by simp only [List.mem_cons, not_or]; exact ⟨fun z => e z.symm, h⟩)
      · exact .inr ⟨d :: p, q, by rw [h1]; rfl, by simp only [List.mem_cons, not_or]; exact ⟨fun z => e z.symm, h2⟩⟩
theorem cut_inj {c : Nat} : ∀ {p q r s : List Nat}, c ∉ p → c ∉ r → p ++ c :: q = r ++ c :: s → p = r ∧ q = s
  | [], _, [], _, _, _, e => by simpa using e
  | [], _, d :: r, _, _, h2, e => by
    simp only [List.nil_append, List.cons_append, List.cons.injEq] at e
    exact absurd (by rw [← e.1]; simp) h2
  | d :: p, _, [], _, h1, _, e => by
    simp only [List.nil_append, List.cons_append, List.cons.injEq] at e
    exact absurd (by rw [e.1]; simp) h1
  | d :: p, q, d' :: r, s, h1, h2, e => by
    simp only [List.cons_append, List.cons.injEq] at e
    obtain ⟨e1, e2⟩ := e
    simp only [List.mem_cons, not_or] at h1 h2
    obtain ⟨h3, h4⟩ := cut_inj h1.2 h2.2 e2
    exact ⟨by rw [e1, h3], h4⟩
theorem frL_one {l : List Nat} {a b : Int} (f : Fr 8000 a b) (h : 47 ∉ l) (e : SX.S l = frS a b) : b = 1 ∧ l = numL a.toNat ∧ Canon l := by
  have ha := f.a.pos
  have hb := f.b.pos
  rw [frS_S (by omega) (by omega)] at e
  have e := SX.S_inj e
  unfold frL at e
  split at e
  · rename_i hb1
    exact ⟨hb1, e, by rw [e]; exact canon_num (by omega)⟩
  · rw [e] at h
    simp at h
theorem frL_two {p q : List Nat} {a b : Int} (f : Fr 8000 a b) (h : 47 ∉ p) (e : SX.S (p ++ 47 :: q) = frS a b) : b ≠ 1 ∧ p = numL a.toNat ∧ q = numL b.toNat ∧ Canon p ∧ Canon q := by
  have ha := f.a.pos
  have hb := f.b.pos
  rw [frS_S (by omega) (by omega)] at e
  have e := SX.S_inj e
  unfold frL at e
  split at e
  · exact absurd (by rw [← e]; simp) (num_free (n := a.toNat) (s := 47) (.inl (by decide)))
  · rename_i hb1
    obtain ⟨e1, e2⟩ := cut_inj h (num_free (.inl (by decide))) e
    exact ⟨hb1, e1, e2, by rw [e1]; exact canon_num (by omega), by rw [e2]; exact canon_num (by omega)⟩
theorem numL_Z {a : Int} (h : 0 < a) : ((digitsVal (numL a.toNat) : Nat) : Int) = a := by rw [numL_val]; omega
theorem frS_inj {a b c d : Int} (f : Fr 8000 a b) (g : Fr 8000 c d) (e : frS a b = frS c d) : a = c ∧ b = d := by
  have h1 := f.a.pos
  have h2 := f.b.pos
  have h3 := g.a.pos
  have h4 := g.b.pos
  have e' := e
  rw [frS_S (by omega) (by omega)] at e
  unfold frL at e
  split at e
  · rename_i hb
    obtain ⟨k1, k2, _⟩ := frL_one g (num_free (.inl (by decide))) e
    have := numL_inj k2
    exact ⟨by omega, by omega⟩
  · obtain ⟨_, k1, k2, _⟩ := frL_two g (num_free (.inl (by decide))) e
    have := numL_inj k1
    have := numL_inj k2
    exact ⟨by omega, by omega⟩
/-- what a reading of a text is: the fraction with just this text, or none -/
def FindR (z : Str) (R : T → Store → Prop) (S : Store) : Prop := (∃ a b, Fr 8000 a b ∧ z = frS a b ∧ R (frT a b) S) ∨ ((∀ a b, Fr 8000 a b → z ≠ frS a b) ∧ R .non S)
theorem part_slash {z : Str} (hz : z.length ≤ 2400) : ∃ top sl bot, Txt.partition z "/" = (top, sl, bot) ∧ ∀ bt : Str, bt = (if sl = ("" : Str) then ("1" : Str) else bot) →
    ((isNm top = false ∨ isNm bt = false) ∧ (∀ a b, Fr 8000 a b → z ≠ frS a b)) ∨ ∃ n m : Nat, isNm top = true ∧ isNm bt = true ∧ PySem.intText? top = some (n : Int) ∧ top.length ≤ 4300 ∧ PySem.intText? bt = some (m : Int) ∧ bt.length ≤ 4300 ∧ n < 2 ^ 8000 ∧ m < 2 ^ 8000 ∧ ∀ a b, Fr 8000 a b → z = frS a b → a = n ∧ b = m := by
  have ez : z = SX.S z.cps.toList := (SX.S_tl z).symm
  generalize hl : z.cps.toList = l at ez
  have ll : l.length ≤ 2400 := by rw [← hl, Array.length_toList]; exact hz
  subst ez
  rcases split1 47 l with no | ⟨p, q, rfl, np⟩
  · refine ⟨SX.S l, SX.S [], SX.S [], ?_, fun bt hb => ?_⟩
    · rw [slash_S]; exact SX.partition_none (by simp) (SX.par_head_none no)
    · rw [if_pos (by decide +kernel)] at hb
      subst hb
      by_cases hn : l ≠ [] ∧ AllDigits l
      · refine .inr ⟨digitsVal l, 1, isNm_S.mpr hn, by decide +kernel, int_dig hn (by omega), by rw [SX.S_len]; omega, by decide +kernel, by decide, val_bits hn.2 ll, by decide +kernel, fun a b f e => ?_⟩
        obtain ⟨e1, e2, _⟩ := frL_one f no e
        refine ⟨?_, e1⟩
        rw [e2]
        exact (numL_Z f.a.pos).symm
      · refine .inl ⟨.inl ?_, fun a b f e => ?_⟩
        · cases h : isNm (SX.S l) with
          | false => rfl
          | true => exact absurd (isNm_S.mp h) hn
        · obtain ⟨_, _, c⟩ := frL_one f no e
          exact hn ⟨c.ne, c.dig⟩
  · refine ⟨SX.S p, SX.S [47], SX.S q, ?_, fun bt hb => ?_⟩
    · rw [slash_S]; exact SX.partition_some (by simp) (SX.par_head q np)
    · rw [if_neg (by decide +kernel)] at hb
      subst hb
      rw [List.length_append, List.length_cons] at ll
      by_cases hn : (p ≠ [] ∧ AllDigits p) ∧ (q ≠ [] ∧ AllDigits q)
      · refine .inr ⟨digitsVal p, digitsVal q, isNm_S.mpr hn.1, isNm_S.mpr hn.2, int_dig hn.1 (by omega), by rw [SX.S_len]; omega, int_dig hn.2 (by omega), by rw [SX.S_len]; omega, val_bits hn.1.2 (by omega), val_bits hn.2.2 (by omega), fun a b f e => ?_⟩
        obtain ⟨_, e1, e2, _⟩ := frL_two f np e
        refine ⟨?_, ?_⟩
        · rw [e1]; exact (numL_Z f.a.pos).symm
        · rw [e2]; exact (numL_Z f.b.pos).symm
      · refine .inl ⟨?_, fun a b f e => ?_⟩
        · rcases Classical.em (p ≠ [] ∧ AllDigits p) with h1 | h1
          · refine .inr ?_
            cases h : isNm (SX.S q) with
            | false => rfl
            | true => exact absurd ⟨h1, isNm_S.mp h⟩ hn
          · refine .inl ?_
            cases h : isNm (SX.S p) with
            | false => rfl
            | true => exact absurd (isNm_S.mp h) h1
        · obtain ⟨_, _, _, c1, c2⟩ := frL_two f np e
          exact hn ⟨⟨c1.ne, c1.dig⟩, c2.ne, c2.dig⟩
theorem isStr0 {K : PySem.W.Frag} {z : Str} {S : Store} {R : T → Store → Prop} {RE : XT} (q : R (.bl true) S) : kIsi K [.str z, .ty "str"] S R RE := by
  have := ValT.str (K := K) (S := S) (z := z) |>.is (n := "str") (by decide) (R := R) (RE := RE) (by show R (.bl true) S; exact q)
  exact this
theorem eqSt0 {a b : Str} {v ng : Bool} {S : Store} {R : T → Store → Prop} {RE : XT} (e : (ng ^^ decide (a = b)) = v) (q : R (.bl v) S) : kEqG ng (.str a) (.str b) S R RE := .inl ⟨rfl, by show R (.bl (ng ^^ decide (a = b))) S; rw [e]; exact q⟩
theorem big14 {n : Nat} {a : Int} (h : Pn n a) (hn : n ≤ 14000) : a.natAbs < 2 ^ 14000 := Nat.lt_of_lt_of_le h.lt (Nat.pow_le_pow_right (by decide) hn)
theorem sc_format_fraction : FnScope ["number", "top", "bottom"] ["number"] (defScope s_format_fraction) := ⟨rfl, rfl, rfl, by decide +kernel, rfl, by decide +kernel, by decide +kernel⟩
def sp_format_fraction (K : PySem.W.Frag) : SpT := fun ts S R _ => match ts with
  | [x] => ∃ a b, x = frT a b ∧ Fr 8000 a b ∧ R (.str (frS a b)) S
  | _ => False
theorem ok_format_fraction {P : Program} {w : World} {K : PySem.W.Frag} {mg : Str → Option Value} {base : Heap} {f : Addr} {fd : FuncData} {g_check_fractions C_InvalidFraction : Addr} {gd_check_fractions : FuncData} (F : Fun K "format_fraction" "format_fraction" s_format_fraction f fd)
    (G_check_fractions : FnT P w K mg base 4 g_check_fractions gd_check_fractions ["values"] (sp_check_fractions K C_InvalidFraction))
    (m_check_fractions : mg "check_fractions" = some (.ref g_check_fractions))
    (k_check_fractions : PySem.W.keepIn K (.ref g_check_fractions) = true)
    (b_check_fractions : Binds K gd_check_fractions ["values"] [])
    (ND : base.NoDigits)
    : FnT P w K mg base 5 f fd ["number"] (sp_format_fraction K) := by
  refine okT F sc_format_fraction (by intro ts S R RE h; unfold sp_format_fraction at h; split at h <;> first | rfl | exact h.elim) (fun cdv A out s H E hg hr => (bs_cons (ss_expr (et_callD G_check_fractions hg (hr.mono (by decide)) (by rfl) m_check_fractions k_check_fractions (CallD.all b_check_fractions) (passL2N (L2N.takes_of rfl rfl rfl rfl)) (at_cons (et_tup (at_cons (et_var (pv 0)) at_nil)) at_nil)))
    (bs_cons (ss_asg (et_var (pv 0)) (gt_tup (n := 2) (by rfl) (gts_cons (gt_name (pg_name (i := 1) sc_format_fraction.nd rfl (by first | exact Or.inl rfl | exact Or.inr rfl))) (gts_cons (gt_name (pg_name (i := 2) sc_format_fraction.nd rfl (by first | exact Or.inl rfl | exact Or.inr rfl))) gts_nil))))
    (bs_cons (ss_if (tt_cmp (op_eqG hr.units) cv_eq (et_var (pv 2)) et_int (nomark _)) (bs_one (ss_ret (et_joined1 (et_fmtB ND (et_var (pv 1)))))) bs_nil)
    (bs_one (ss_ret (et_joined (EJ.cons (et_fmtB ND (et_var (pv 1))) (EJ.cons et_str (EJ.cons (et_fmtB ND (et_var (pv 2))) EJ.nil)))))))))) ?_
  intro ts S R RE h
  unfold sp_format_fraction at h
  split at h
  · obtain ⟨a, b, rfl, f, q⟩ := h
    refine sSeq_i fun N hN => ?_
    simp only [frT, sDrop, rVar, aNil, aCons, rTup, rCall, startT, Option.some.injEq, List.map_cons, List.map_nil, List.length_cons, List.length_nil, List.cons_append, List.nil_append, List.append_nil, List.getElem?_cons_zero, List.replicate_succ, List.replicate_zero, exists_eq_left', Nat.reduceAdd, Nat.reduceSub, Nat.zero_add]
    refine ⟨by decide, chk_ok (FrL.one f) (hN _ _ ?_)⟩
    refine sSeq_i fun N hN => ?_
    simp only [sAsg, rVar, gNameT, gNilT, gConsT, gTupT, T.tup.injEq, List.cons.injEq, Option.some.injEq, List.length_cons, List.length_nil, List.getElem?_cons_zero, List.set_cons_zero, List.set_cons_succ, exists_eq_left', exists_and_left, true_and, and_assoc, Nat.reduceAdd, Nat.zero_add]
    refine hN _ _ ?_
    refine sSeq_i fun N hN => ?_
    simp only [rFmtB, kFmtB, sRet, sIf, sNext, rVar, rC, rBin, rTest, Option.some.injEq, List.getElem?_cons_zero, List.getElem?_cons_succ, exists_eq_left']
    have lga := big14 f.a (by decide)
    have lgb := big14 f.b (by decide)
    refine eqI0 ⟨_, rfl, ?_⟩
    by_cases hb : b = 1
    · subst hb
      rw [if_pos (by decide)]
      rw [frS_1] at q
      exact ⟨lga, q⟩
    · rw [if_neg (by rw [decide_eq_true_eq]; exact hb)]
      refine hN _ _ ?_
      have la : (Str.ofString (toString a)).length ≤ 2409 := nS_len f.a
      have lb : (Str.ofString (toString b)).length ≤ 2409 := nS_len f.b
      clear lga lgb
      have lga := big14 f.a (by decide)
      have lgb := big14 f.b (by decide)
      rw [frS_n hb] at q
      have ls : ("/" : Str).length = 1 := by decide
      simp only [sEmp, rFmtB, kFmtB, sRet, rVar, rC, rJs, T.str.injEq, Option.some.injEq, List.getElem?_cons_zero, List.getElem?_cons_succ, exists_eq_left']
      refine ⟨lga, ?_, ?_, lgb, ?_, q⟩
      · rw [sizeLine_eq]; exact Nat.le_trans la (by decide)
      · rw [sizeLine_eq, sLen0, ls]; omega
      · rw [sizeLine_eq, sLen0, sLen0, ls]; omega
  · exact h.elim
theorem sc_is_numeral : FnScope ["text"] ["text"] (defScope s_is_numeral) := ⟨rfl, rfl, rfl, by decide +kernel, rfl, by decide +kernel, by decide +kernel⟩
def sp_is_numeral : SpT := fun ts S R _ => match ts with
  | [.str z] => R (.bl (isNm z)) S
  | _ => False
theorem ok_is_numeral {P : Program} {w : World} {K : PySem.W.Frag} {mg : Str → Option Value} {base : Heap} {f : Addr} {fd : FuncData}   (F : Fun K "is_numeral" "is_numeral" s_is_numeral f fd)
    : FnT P w K mg base 1 f fd ["text"] sp_is_numeral := by
  refine okT F sc_is_numeral (by intro ts S R RE h; unfold sp_is_numeral at h; split at h <;> first | rfl | exact h.elim) (fun cdv A out s H E hg hr => (bs_one (ss_ret (et_and (et_isascii (et_var (pv 0))) (et_one (et_isdigit (et_var (pv 0)))))))) ?_
  intro ts S R RE h
  unfold sp_is_numeral at h
  split at h
  · rename_i z
    simp only [sRet, rVar, vAnd, rStr0, startT, T.bl.injEq, T.str.injEq, Option.some.injEq, List.map_cons, List.map_nil, List.length_cons, List.length_nil, List.append_nil, List.getElem?_cons_zero, List.replicate_zero, exists_eq_left', Nat.sub_self, Nat.zero_add]
    unfold isNm at h
    cases e : Txt.isascii z
    · rw [e] at h
      rw [if_neg Bool.false_ne_true]
      exact h
    · rw [e] at h
      rw [if_pos rfl]
      exact h
  · exact h.elim
theorem sc_find_fraction : FnScope ["text", "top", "slash", "bottom", "number"] ["text"] (defScope s_find_fraction) := ⟨rfl, rfl, rfl, by decide +kernel, rfl, by decide +kernel, by decide +kernel⟩
def sp_find_fraction (K : PySem.W.Frag) : SpT := fun ts S R _ => match ts with
  | [x] => (∃ z, x = .str z ∧ z.length ≤ 2400 ∧ FindR z R S) ∨ (ValT K S x ∧ isK x "str" = false ∧ R .non S)
  | _ => False
theorem ok_find_fraction {P : Program} {w : World} {K : PySem.W.Frag} {mg : Str → Option Value} {base : Heap} {f : Addr} {fd : FuncData} {g_format_fraction g_is_fraction g_is_numeral : Addr} {gd_format_fraction : FuncData} {gd_is_fraction : FuncData} {gd_is_numeral : FuncData} (F : Fun K "find_fraction" "find_fraction" s_find_fraction f fd)
    (n_int : mg "int" = none)
    (n_isinstance : mg "isinstance" = none)
    (n_str : mg "str" = none)
    (G_format_fraction : FnT P w K mg base 5 g_format_fraction gd_format_fraction ["number"] (sp_format_fraction K))
    (m_format_fraction : mg "format_fraction" = some (.ref g_format_fraction))
    (k_format_fraction : PySem.W.keepIn K (.ref g_format_fraction) = true)
    (b_format_fraction : Binds K gd_format_fraction ["number"] [])
    (G_is_fraction : FnT P w K mg base 3 g_is_fraction gd_is_fraction ["value"] (sp_is_fraction K))
    (m_is_fraction : mg "is_fraction" = some (.ref g_is_fraction))
    (k_is_fraction : PySem.W.keepIn K (.ref g_is_fraction) = true)
    (b_is_fraction : Binds K gd_is_fraction ["value"] [])
    (G_is_numeral : FnT P w K mg base 1 g_is_numeral gd_is_numeral ["text"] sp_is_numeral)
    (m_is_numeral : mg "is_numeral" = some (.ref g_is_numeral))
    (k_is_numeral : PySem.W.keepIn K (.ref g_is_numeral) = true)
    (b_is_numeral : Binds K gd_is_numeral ["text"] [])
    (ND : base.NoDigits)
    : FnT P w K mg base 6 f fd ["text"] (sp_find_fraction K) := by
  refine okT F sc_find_fraction (by intro ts S R RE h; unfold sp_find_fraction at h; split at h <;> first | rfl | exact h.elim) (fun cdv A out s H E hg hr => (bs_cons (ss_if (tt_not (tt_val (et_blt call_isiY (cv_isi (K := K)) (by rfl) n_isinstance PyProof.Rows.boot_isinstance (at_cons (et_var (pv 0)) (at_cons (et_blty (by rfl) n_str PyProof.Rows.boot_str) at_nil))))) (bs_one (ss_ret et_non)) bs_nil)
    (bs_cons (ss_asg (et_partition (et_var (pv 0)) et_str) (gt_tup (n := 3) (by rfl) (gts_cons (gt_name (pg_name (i := 1) sc_find_fraction.nd rfl (by first | exact Or.inl rfl | exact Or.inr rfl))) (gts_cons (gt_name (pg_name (i := 2) sc_find_fraction.nd rfl (by first | exact Or.inl rfl | exact Or.inr rfl))) (gts_cons (gt_name (pg_name (i := 3) sc_find_fraction.nd rfl (by first | exact Or.inl rfl | exact Or.inr rfl))) gts_nil)))))
    (bs_cons (ss_if (tt_cmp (op_eqG hr.units) cv_eq (et_var (pv 2)) et_str (nomark _)) (bs_one (ss_set (i := 3) sc_find_fraction.nd rfl (by first | exact Or.inl rfl | exact Or.inr rfl) et_str)) bs_nil)
    (bs_cons (ss_if (tt_w (tw_or (tt_not (tt_val (et_callD G_is_numeral hg (hr.mono (by decide)) (by rfl) m_is_numeral k_is_numeral (CallD.all b_is_numeral) (passL2N (L2N.takes_of rfl rfl rfl rfl)) (at_cons (et_var (pv 1)) at_nil)))) (tw_or1 (tt_not (tt_val (et_callD G_is_numeral hg (hr.mono (by decide)) (by rfl) m_is_numeral k_is_numeral (CallD.all b_is_numeral) (passL2N (L2N.takes_of rfl rfl rfl rfl)) (at_cons (et_var (pv 3)) at_nil))))))) (bs_one (ss_ret et_non)) bs_nil)
    (bs_cons (ss_set (i := 4) sc_find_fraction.nd rfl (by first | exact Or.inl rfl | exact Or.inr rfl) (et_tup (at_cons (et_typ (call_int_strB ND) cv_intB (by rfl) n_int PyProof.Rows.boot_int (at_cons (et_var (pv 1)) at_nil)) (at_cons (et_typ (call_int_strB ND) cv_intB (by rfl) n_int PyProof.Rows.boot_int (at_cons (et_var (pv 3)) at_nil)) at_nil))))
    (bs_cons (ss_if (tt_w (tw_or (tt_not (tt_val (et_callD G_is_fraction hg (hr.mono (by decide)) (by rfl) m_is_fraction k_is_fraction (CallD.all b_is_fraction) (passL2N (L2N.takes_of rfl rfl rfl rfl)) (at_cons (et_var (pv 4)) at_nil)))) (tw_or1 (tt_cmp (op_neG hr.units) cv_ne (et_callD G_format_fraction hg (hr.mono (by decide)) (by rfl) m_format_fraction k_format_fraction (CallD.all b_format_fraction) (passL2N (L2N.takes_of rfl rfl rfl rfl)) (at_cons (et_var (pv 4)) at_nil)) (et_var (pv 0)) (nomark _))))) (bs_one (ss_ret et_non)) bs_nil)
    (bs_one (ss_ret (et_var (pv 4))))))))))) ?_
  intro ts S R RE h
  unfold sp_find_fraction at h
  split at h
  · rcases h with ⟨z, rfl, hz, q⟩ | ⟨v, ns, q⟩
    rotate_left
    · refine sSeq_i fun N hN => ?_
      simp only [rCallOwn, iZipT, kMaxT, rRevT, rDix2, sFrzV, sDrp, rSlC, rDget2, sSeq, sAsg, sDrop, sRet, sRetN, sIf, sNext, sPar, sPar3, sFor, sRaise, sFldT, sNo, rNo, rVar, rFrz, rC, rBin, rTest, bAnd, bOr, bNot, bIf, vAnd, vOr, vNot, rIf, rNeg, aNil, aCons, rTup, rLst, rLstC, rArgs, gNameT, gNilT, gConsT, gTupT, gSubT, iSeq, iRng1T, iRng2T, rLc, rCall, rCallN, rCallS, rFld, rCon, rMake, rMakeN, rMakeP, rMeth, rMethK, rProp, rClsFn, rOpOwn, rSl, oNone, oSome, rFmt, kFmt, rJs, rLidx, rChain, rTru, truT, rStr0, rPart, rSplit, kIntS, gStarT, kStrOwn, kAddC, rDct, kInt1, iEnumT, rMakeStar, rJoin, iZipM, iSeqH, iEnumL, rLc2, rTruC, rLcP, kLenOwn, kBoolOwn, rCMeth, rClsStar, rClsMake, rLz, rRevL, rRev2, rCMethK, rExcV, rMut, kAdd, kI2, kI2n, kMul, kIx, kIn, kLen, kU, kA2, kDm, kStrI, kAll, kSl, kAppend, kExtend, kTuple, kList, lenT, seqOf, bYes, startT, one, pickG, selG, insOf, putT, flatT, Bool.false_xor, Bool.true_xor, List.all_cons, List.all_nil, Bool.and_self, T.int.injEq, T.bl.injEq, T.str.injEq, T.lst.injEq, T.tup.injEq, T.cell.injEq, T.ins.injEq, Cell.lst.injEq, Cell.ins.injEq, Prod.mk.injEq, List.cons.injEq, Option.some.injEq, List.map_cons, List.map_nil, List.length_cons, List.length_nil, List.cons_append, List.nil_append, List.append_nil, List.getElem?_cons_zero, List.getElem?_cons_succ, List.set_cons_zero, List.set_cons_succ, List.replicate_succ, List.replicate_zero, exists_eq_left, exists_eq_left', exists_and_left, and_true, true_and, and_self, and_assoc, Nat.sub_self, Nat.reduceAdd, Nat.reduceSub, Nat.zero_add, put_put, put_same, reduceIte, Bool.false_eq_true, Bool.true_eq_false, Bool.not_true, Bool.not_false, at_0, at_1, at_2, at_3, at_4, at_5, at_6, at_7, ix_1_0, ix_2_0, ix_2_1, ix_3_0, ix_3_1, ix_3_2, ix_4_0, ix_4_1, ix_4_2, ix_4_3]
      refine v.is (n := "str") (by decide) ⟨_, rfl, ?_⟩
      rw [ns, if_pos (by decide)]
      exact q
    obtain ⟨top, sl, bot, ep, hp⟩ := part_slash hz
    refine sSeq_i fun N hN => ?_
    simp only [rCallOwn, iZipT, kMaxT, rRevT, rDix2, sFrzV, sDrp, rSlC, rDget2, sSeq, sAsg, sDrop, sRet, sRetN, sIf, sNext, sPar, sPar3, sFor, sRaise, sFldT, sNo, rNo, rVar, rFrz, rC, rBin, rTest, bAnd, bOr, bNot, bIf, vAnd, vOr, vNot, rIf, rNeg, aNil, aCons, rTup, rLst, rLstC, rArgs, gNameT, gNilT, gConsT, gTupT, gSubT, iSeq, iRng1T, iRng2T, rLc, rCall, rCallN, rCallS, rFld, rCon, rMake, rMakeN, rMakeP, rMeth, rMethK, rProp, rClsFn, rOpOwn, rSl, oNone, oSome, rFmt, kFmt, rJs, rLidx, rChain, rTru, truT, rStr0, rPart, rSplit, kIntS, gStarT, kStrOwn, kAddC, rDct, kInt1, iEnumT, rMakeStar, rJoin, iZipM, iSeqH, iEnumL, rLc2, rTruC, rLcP, kLenOwn, kBoolOwn, rCMeth, rClsStar, rClsMake, rLz, rRevL, rRev2, rCMethK, rExcV, rMut, kAdd, kI2, kI2n, kMul, kIx, kIn, kLen, kU, kA2, kDm, kStrI, kAll, kSl, kAppend, kExtend, kTuple, kList, lenT, seqOf, bYes, startT, one, pickG, selG, insOf, putT, flatT, Bool.false_xor, Bool.true_xor, List.all_cons, List.all_nil, Bool.and_self, T.int.injEq, T.bl.injEq, T.str.injEq, T.lst.injEq, T.tup.injEq, T.cell.injEq, T.ins.injEq, Cell.lst.injEq, Cell.ins.injEq, Prod.mk.injEq, List.cons.injEq, Option.some.injEq, List.map_cons, List.map_nil, List.length_cons, List.length_nil, List.cons_append, List.nil_append, List.append_nil, List.getElem?_cons_zero, List.getElem?_cons_succ, List.set_cons_zero, List.set_cons_succ, List.replicate_succ, List.replicate_zero, exists_eq_left, exists_eq_left', exists_and_left, and_true, true_and, and_self, and_assoc, Nat.sub_self, Nat.reduceAdd, Nat.reduceSub, Nat.zero_add, put_put, put_same, reduceIte, Bool.false_eq_true, Bool.true_eq_false, Bool.not_true, Bool.not_false, at_0, at_1, at_2, at_3, at_4, at_5, at_6, at_7, ix_1_0, ix_2_0, ix_2_1, ix_3_0, ix_3_1, ix_3_2, ix_4_0, ix_4_1, ix_4_2, ix_4_3]
    refine isStr0 ⟨true, rfl, ?_⟩
    rw [if_neg (by decide)]
    refine hN _ _ ?_
    clear hN
    refine sSeq_i fun N hN => ?_
    simp only [rCallOwn, iZipT, kMaxT, rRevT, rDix2, sFrzV, sDrp, rSlC, rDget2, sSeq, sAsg, sDrop, sRet, sRetN, sIf, sNext, sPar, sPar3, sFor, sRaise, sFldT, sNo, rNo, rVar, rFrz, rC, rBin, rTest, bAnd, bOr, bNot, bIf, vAnd, vOr, vNot, rIf, rNeg, aNil, aCons, rTup, rLst, rLstC, rArgs, gNameT, gNilT, gConsT, gTupT, gSubT, iSeq, iRng1T, iRng2T, rLc, rCall, rCallN, rCallS, rFld, rCon, rMake, rMakeN, rMakeP, rMeth, rMethK, rProp, rClsFn, rOpOwn, rSl, oNone, oSome, rFmt, kFmt, rJs, rLidx, rChain, rTru, truT, rStr0, rPart, rSplit, kIntS, gStarT, kStrOwn, kAddC, rDct, kInt1, iEnumT, rMakeStar, rJoin, iZipM, iSeqH, iEnumL, rLc2, rTruC, rLcP, kLenOwn, kBoolOwn, rCMeth, rClsStar, rClsMake, rLz, rRevL, rRev2, rCMethK, rExcV, rMut, kAdd, kI2, kI2n, kMul, kIx, kIn, kLen, kU, kA2, kDm, kStrI, kAll, kSl, kAppend, kExtend, kTuple, kList, lenT, seqOf, bYes, startT, one, pickG, selG, insOf, putT, flatT, Bool.false_xor, Bool.true_xor, List.all_cons, List.all_nil, Bool.and_self, T.int.injEq, T.bl.injEq, T.str.injEq, T.lst.injEq, T.tup.injEq, T.cell.injEq, T.ins.injEq, Cell.lst.injEq, Cell.ins.injEq, Prod.mk.injEq, List.cons.injEq, Option.some.injEq, List.map_cons, List.map_nil, List.length_cons, List.length_nil, List.cons_append, List.nil_append, List.append_nil, List.getElem?_cons_zero, List.getElem?_cons_succ, List.set_cons_zero, List.set_cons_succ, List.replicate_succ, List.replicate_zero, exists_eq_left, exists_eq_left', exists_and_left, and_true, true_and, and_self, and_assoc, Nat.sub_self, Nat.reduceAdd, Nat.reduceSub, Nat.zero_add, put_put, put_same, reduceIte, Bool.false_eq_true, Bool.true_eq_false, Bool.not_true, Bool.not_false, at_0, at_1, at_2, at_3, at_4, at_5, at_6, at_7, ix_1_0, ix_2_0, ix_2_1, ix_3_0, ix_3_1, ix_3_2, ix_4_0, ix_4_1, ix_4_2, ix_4_3]
    refine ⟨by decide, by rw [sizeLine_eq]; omega, ?_⟩
    rw [ep]
    refine hN _ _ ?_
    clear hN
    refine sSeq_i fun N hN => ?_
    suffices hh : ∀ bt : Str, bt = (if sl = ("" : Str) then ("1" : Str) else bot) → N [some (.str z), some (.str top), some (.str sl), some (.str bt), none] S by
      simp only [rCallOwn, iZipT, kMaxT, rRevT, rDix2, sFrzV, sDrp, rSlC, rDget2, sSeq, sAsg, sDrop, sRet, sRetN, sIf, sNext, sPar, sPar3, sFor, sRaise, sFldT, sNo, rNo, rVar, rFrz, rC, rBin, rTest, bAnd, bOr, bNot, bIf, vAnd, vOr, vNot, rIf, rNeg, aNil, aCons, rTup, rLst, rLstC, rArgs, gNameT, gNilT, gConsT, gTupT, gSubT, iSeq, iRng1T, iRng2T, rLc, rCall, rCallN, rCallS, rFld, rCon, rMake, rMakeN, rMakeP, rMeth, rMethK, rProp, rClsFn, rOpOwn, rSl, oNone, oSome, rFmt, kFmt, rJs, rLidx, rChain, rTru, truT, rStr0, rPart, rSplit, kIntS, gStarT, kStrOwn, kAddC, rDct, kInt1, iEnumT, rMakeStar, rJoin, iZipM, iSeqH, iEnumL, rLc2, rTruC, rLcP, kLenOwn, kBoolOwn, rCMeth, rClsStar, rClsMake, rLz, rRevL, rRev2, rCMethK, rExcV, rMut, kAdd, kI2, kI2n, kMul, kIx, kIn, kLen, kU, kA2, kDm, kStrI, kAll, kSl, kAppend, kExtend, kTuple, kList, lenT, seqOf, bYes, startT, one, pickG, selG, insOf, putT, flatT, Bool.false_xor, Bool.true_xor, List.all_cons, List.all_nil, Bool.and_self, T.int.injEq, T.bl.injEq, T.str.injEq, T.lst.injEq, T.tup.injEq, T.cell.injEq, T.ins.injEq, Cell.lst.injEq, Cell.ins.injEq, Prod.mk.injEq, List.cons.injEq, Option.some.injEq, List.map_cons, List.map_nil, List.length_cons, List.length_nil, List.cons_append, List.nil_append, List.append_nil, List.getElem?_cons_zero, List.getElem?_cons_succ, List.set_cons_zero, List.set_cons_succ, List.replicate_succ, List.replicate_zero, exists_eq_left, exists_eq_left', exists_and_left, and_true, true_and, and_self, and_assoc, Nat.sub_self, Nat.reduceAdd, Nat.reduceSub, Nat.zero_add, put_put, put_same, reduceIte, Bool.false_eq_true, Bool.true_eq_false, Bool.not_true, Bool.not_false, at_0, at_1, at_2, at_3, at_4, at_5, at_6, at_7, ix_1_0, ix_2_0, ix_2_1, ix_3_0, ix_3_1, ix_3_2, ix_4_0, ix_4_1, ix_4_2, ix_4_3]
      refine eqSt0 (v := decide (sl = ("" : Str))) (by simp) ⟨_, rfl, ?_⟩
      by_cases e : sl = ("" : Str)
      · rw [if_pos (by rw [decide_eq_true e])]
        exact hh _ (by rw [if_pos e])
      · rw [if_neg (by rw [decide_eq_false e]; decide)]
        exact hh _ (by rw [if_neg e])
    intro bt hbt
    refine hN _ _ ?_
    clear hN
    rcases hp bt hbt with ⟨hno, hne⟩ | ⟨n, m, h1, h2, i1, l1, i2, l2, n1, m1, un⟩
    · have q : R .non S := by
        rcases q with ⟨a, b, f, e, _⟩ | ⟨_, q⟩
        · exact absurd e (hne a b f)
        · exact q
      refine sSeq_i fun N hN => ?_
      simp only [sp_is_numeral, rCallOwn, iZipT, kMaxT, rRevT, rDix2, sFrzV, sDrp, rSlC, rDget2, sSeq, sAsg, sDrop, sRet, sRetN, sIf, sNext, sPar, sPar3, sFor, sRaise, sFldT, sNo, rNo, rVar, rFrz, rC, rBin, rTest, bAnd, bOr, bNot, bIf, vAnd, vOr, vNot, rIf, rNeg, aNil, aCons, rTup, rLst, rLstC, rArgs, gNameT, gNilT, gConsT, gTupT, gSubT, iSeq, iRng1T, iRng2T, rLc, rCall, rCallN, rCallS, rFld, rCon, rMake, rMakeN, rMakeP, rMeth, rMethK, rProp, rClsFn, rOpOwn, rSl, oNone, oSome, rFmt, kFmt, rJs, rLidx, rChain, rTru, truT, rStr0, rPart, rSplit, kIntS, gStarT, kStrOwn, kAddC, rDct, kInt1, iEnumT, rMakeStar, rJoin, iZipM, iSeqH, iEnumL, rLc2, rTruC, rLcP, kLenOwn, kBoolOwn, rCMeth, rClsStar, rClsMake, rLz, rRevL, rRev2, rCMethK, rExcV, rMut, kAdd, kI2, kI2n, kMul, kIx, kIn, kLen, kU, kA2, kDm, kStrI, kAll, kSl, kAppend, kExtend, kTuple, kList, lenT, seqOf, bYes, startT, one, pickG, selG, insOf, putT, flatT, Bool.false_xor, Bool.true_xor, List.all_cons, List.all_nil, Bool.and_self, T.int.injEq, T.bl.injEq, T.str.injEq, T.lst.injEq, T.tup.injEq, T.cell.injEq, T.ins.injEq, Cell.lst.injEq, Cell.ins.injEq, Prod.mk.injEq, List.cons.injEq, Option.some.injEq, List.map_cons, List.map_nil, List.length_cons, List.length_nil, List.cons_append, List.nil_append, List.append_nil, List.getElem?_cons_zero, List.getElem?_cons_succ, List.set_cons_zero, List.set_cons_succ, List.replicate_succ, List.replicate_zero, exists_eq_left, exists_eq_left', exists_and_left, and_true, true_and, and_self, and_assoc, Nat.sub_self, Nat.reduceAdd, Nat.reduceSub, Nat.zero_add, put_put, put_same, reduceIte, Bool.false_eq_true, Bool.true_eq_false, Bool.not_true, Bool.not_false, at_0, at_1, at_2, at_3, at_4, at_5, at_6, at_7, ix_1_0, ix_2_0, ix_2_1, ix_3_0, ix_3_1, ix_3_2, ix_4_0, ix_4_1, ix_4_2, ix_4_3]
      rcases Bool.eq_false_or_eq_true (isNm top) with e1 | e1
      · have e2 : isNm bt = false := by
          rcases hno with e | e
          · rw [e1] at e; cases e
          · exact e
        rw [e1, if_neg (by decide), e2, if_pos (by decide)]
        exact q
      · rw [e1, if_pos (by decide)]
        exact q
    · refine sSeq_i fun N hN => ?_
      simp only [sp_is_numeral, h1, h2, rCallOwn, iZipT, kMaxT, rRevT, rDix2, sFrzV, sDrp, rSlC, rDget2, sSeq, sAsg, sDrop, sRet, sRetN, sIf, sNext, sPar, sPar3, sFor, sRaise, sFldT, sNo, rNo, rVar, rFrz, rC, rBin, rTest, bAnd, bOr, bNot, bIf, vAnd, vOr, vNot, rIf, rNeg, aNil, aCons, rTup, rLst, rLstC, rArgs, gNameT, gNilT, gConsT, gTupT, gSubT, iSeq, iRng1T, iRng2T, rLc, rCall, rCallN, rCallS, rFld, rCon, rMake, rMakeN, rMakeP, rMeth, rMethK, rProp, rClsFn, rOpOwn, rSl, oNone, oSome, rFmt, kFmt, rJs, rLidx, rChain, rTru, truT, rStr0, rPart, rSplit, kIntS, gStarT, kStrOwn, kAddC, rDct, kInt1, iEnumT, rMakeStar, rJoin, iZipM, iSeqH, iEnumL, rLc2, rTruC, rLcP, kLenOwn, kBoolOwn, rCMeth, rClsStar, rClsMake, rLz, rRevL, rRev2, rCMethK, rExcV, rMut, kAdd, kI2, kI2n, kMul, kIx, kIn, kLen, kU, kA2, kDm, kStrI, kAll, kSl, kAppend, kExtend, kTuple, kList, lenT, seqOf, bYes, startT, one, pickG, selG, insOf, putT, flatT, Bool.false_xor, Bool.true_xor, List.all_cons, List.all_nil, Bool.and_self, T.int.injEq, T.bl.injEq, T.str.injEq, T.lst.injEq, T.tup.injEq, T.cell.injEq, T.ins.injEq, Cell.lst.injEq, Cell.ins.injEq, Prod.mk.injEq, List.cons.injEq, Option.some.injEq, List.map_cons, List.map_nil, List.length_cons, List.length_nil, List.cons_append, List.nil_append, List.append_nil, List.getElem?_cons_zero, List.getElem?_cons_succ, List.set_cons_zero, List.set_cons_succ, List.replicate_succ, List.replicate_zero, exists_eq_left, exists_eq_left', exists_and_left, and_true, true_and, and_self, and_assoc, Nat.sub_self, Nat.reduceAdd, Nat.reduceSub, Nat.zero_add, put_put, put_same, reduceIte, Bool.false_eq_true, Bool.true_eq_false, Bool.not_true, Bool.not_false, at_0, at_1, at_2, at_3, at_4, at_5, at_6, at_7, ix_1_0, ix_2_0, ix_2_1, ix_3_0, ix_3_1, ix_3_2, ix_4_0, ix_4_1, ix_4_2, ix_4_3]
      refine hN _ _ ?_
      clear hN
      refine sSeq_i fun N hN => ?_
      simp only [kIntB, rCallOwn, iZipT, kMaxT, rRevT, rDix2, sFrzV, sDrp, rSlC, rDget2, sSeq, sAsg, sDrop, sRet, sRetN, sIf, sNext, sPar, sPar3, sFor, sRaise, sFldT, sNo, rNo, rVar, rFrz, rC, rBin, rTest, bAnd, bOr, bNot, bIf, vAnd, vOr, vNot, rIf, rNeg, aNil, aCons, rTup, rLst, rLstC, rArgs, gNameT, gNilT, gConsT, gTupT, gSubT, iSeq, iRng1T, iRng2T, rLc, rCall, rCallN, rCallS, rFld, rCon, rMake, rMakeN, rMakeP, rMeth, rMethK, rProp, rClsFn, rOpOwn, rSl, oNone, oSome, rFmt, kFmt, rJs, rLidx, rChain, rTru, truT, rStr0, rPart, rSplit, kIntS, gStarT, kStrOwn, kAddC, rDct, kInt1, iEnumT, rMakeStar, rJoin, iZipM, iSeqH, iEnumL, rLc2, rTruC, rLcP, kLenOwn, kBoolOwn, rCMeth, rClsStar, rClsMake, rLz, rRevL, rRev2, rCMethK, rExcV, rMut, kAdd, kI2, kI2n, kMul, kIx, kIn, kLen, kU, kA2, kDm, kStrI, kAll, kSl, kAppend, kExtend, kTuple, kList, lenT, seqOf, bYes, startT, one, pickG, selG, insOf, putT, flatT, Bool.false_xor, Bool.true_xor, List.all_cons, List.all_nil, Bool.and_self, T.int.injEq, T.bl.injEq, T.str.injEq, T.lst.injEq, T.tup.injEq, T.cell.injEq, T.ins.injEq, Cell.lst.injEq, Cell.ins.injEq, Prod.mk.injEq, List.cons.injEq, Option.some.injEq, List.map_cons, List.map_nil, List.length_cons, List.length_nil, List.cons_append, List.nil_append, List.append_nil, List.getElem?_cons_zero, List.getElem?_cons_succ, List.set_cons_zero, List.set_cons_succ, List.replicate_succ, List.replicate_zero, exists_eq_left, exists_eq_left', exists_and_left, and_true, true_and, and_self, and_assoc, Nat.sub_self, Nat.reduceAdd, Nat.reduceSub, Nat.zero_add, put_put, put_same, reduceIte, Bool.false_eq_true, Bool.true_eq_false, Bool.not_true, Bool.not_false, at_0, at_1, at_2, at_3, at_4, at_5, at_6, at_7, ix_1_0, ix_2_0, ix_2_1, ix_3_0, ix_3_1, ix_3_2, ix_4_0, ix_4_1, ix_4_2, ix_4_3]
      refine ⟨_, i1, l1, _, i2, l2, by decide, hN _ _ ?_⟩
      clear hN
      have av : AnyV K S (.tup [.int (n : Int), .int (m : Int)]) := ⟨.tup, fun ts e => by
        have e := T.tup.inj e
        subst e
        refine ⟨fun y mm => ?_, by simp⟩
        simp only [List.mem_cons, List.not_mem_nil, or_false] at mm
        rcases mm with rfl | rfl <;> exact .int, fun x y e hx hy => by
        have e := T.tup.inj e
        simp only [List.cons.injEq, T.int.injEq, and_true] at e
        obtain ⟨rfl, rfl⟩ := e
        exact ⟨⟨hx, by simpa using n1⟩, ⟨hy, by simpa using m1⟩⟩⟩
      refine sSeq_i fun N hN => ?_
      simp only [sp_is_fraction, sp_format_fraction, rCallOwn, iZipT, kMaxT, rRevT, rDix2, sFrzV, sDrp, rSlC, rDget2, sSeq, sAsg, sDrop, sRet, sRetN, sIf, sNext, sPar, sPar3, sFor, sRaise, sFldT, sNo, rNo, rVar, rFrz, rC, rBin, rTest, bAnd, bOr, bNot, bIf, vAnd, vOr, vNot, rIf, rNeg, aNil, aCons, rTup, rLst, rLstC, rArgs, gNameT, gNilT, gConsT, gTupT, gSubT, iSeq, iRng1T, iRng2T, rLc, rCall, rCallN, rCallS, rFld, rCon, rMake, rMakeN, rMakeP, rMeth, rMethK, rProp, rClsFn, rOpOwn, rSl, oNone, oSome, rFmt, kFmt, rJs, rLidx, rChain, rTru, truT, rStr0, rPart, rSplit, kIntS, gStarT, kStrOwn, kAddC, rDct, kInt1, iEnumT, rMakeStar, rJoin, iZipM, iSeqH, iEnumL, rLc2, rTruC, rLcP, kLenOwn, kBoolOwn, rCMeth, rClsStar, rClsMake, rLz, rRevL, rRev2, rCMethK, rExcV, rMut, kAdd, kI2, kI2n, kMul, kIx, kIn, kLen, kU, kA2, kDm, kStrI, kAll, kSl, kAppend, kExtend, kTuple, kList, lenT, seqOf, bYes, startT, one, pickG, selG, insOf, putT, flatT, Bool.false_xor, Bool.true_xor, List.all_cons, List.all_nil, Bool.and_self, T.int.injEq, T.bl.injEq, T.str.injEq, T.lst.injEq, T.tup.injEq, T.cell.injEq, T.ins.injEq, Cell.lst.injEq, Cell.ins.injEq, Prod.mk.injEq, List.cons.injEq, Option.some.injEq, List.map_cons, List.map_nil, List.length_cons, List.length_nil, List.cons_append, List.nil_append, List.append_nil, List.getElem?_cons_zero, List.getElem?_cons_succ, List.set_cons_zero, List.set_cons_succ, List.replicate_succ, List.replicate_zero, exists_eq_left, exists_eq_left', exists_and_left, and_true, true_and, and_self, and_assoc, Nat.sub_self, Nat.reduceAdd, Nat.reduceSub, Nat.zero_add, put_put, put_same, reduceIte, Bool.false_eq_true, Bool.true_eq_false, Bool.not_true, Bool.not_false, at_0, at_1, at_2, at_3, at_4, at_5, at_6, at_7, ix_1_0, ix_2_0, ix_2_1, ix_3_0, ix_3_1, ix_3_2, ix_4_0, ix_4_1, ix_4_2, ix_4_3]
      refine ⟨av, ?_⟩
      cases g : goodF (.tup [.int (n : Int), .int (m : Int)]) with
      | false =>
        rw [if_pos (by decide)]
        rcases q with ⟨a, b, f, e, _⟩ | ⟨_, q⟩
        · obtain ⟨rfl, rfl⟩ := un a b f e
          have := f.good
          unfold frT at this
          rw [this] at g
          cases g
        · exact q
      | true =>
        rw [if_neg (by decide)]
        have f : Fr 8000 (n : Int) (m : Int) := by
          simp only [goodF, Bool.and_eq_true, decide_eq_true_eq] at g
          exact ⟨⟨g.1.1, by simpa using n1⟩, ⟨g.1.2, by simpa using m1⟩, g.2⟩
        refine ⟨_, _, rfl, f, ?_⟩
        by_cases ez : z = frS (n : Int) (m : Int)
        · refine eqSt0 (v := false) (by rw [decide_eq_true ez.symm]; rfl) ⟨_, rfl, ?_⟩
          rw [if_neg (by decide)]
          refine hN _ _ ?_
          simp only [rCallOwn, iZipT, kMaxT, rRevT, rDix2, sFrzV, sDrp, rSlC, rDget2, sSeq, sAsg, sDrop, sRet, sRetN, sIf, sNext, sPar, sPar3, sFor, sRaise, sFldT, sNo, rNo, rVar, rFrz, rC, rBin, rTest, bAnd, bOr, bNot, bIf, vAnd, vOr, vNot, rIf, rNeg, aNil, aCons, rTup, rLst, rLstC, rArgs, gNameT, gNilT, gConsT, gTupT, gSubT, iSeq, iRng1T, iRng2T, rLc, rCall, rCallN, rCallS, rFld, rCon, rMake, rMakeN, rMakeP, rMeth, rMethK, rProp, rClsFn, rOpOwn, rSl, oNone, oSome, rFmt, kFmt, rJs, rLidx, rChain, rTru, truT, rStr0, rPart, rSplit, kIntS, gStarT, kStrOwn, kAddC, rDct, kInt1, iEnumT, rMakeStar, rJoin, iZipM, iSeqH, iEnumL, rLc2, rTruC, rLcP, kLenOwn, kBoolOwn, rCMeth, rClsStar, rClsMake, rLz, rRevL, rRev2, rCMethK, rExcV, rMut, kAdd, kI2, kI2n, kMul, kIx, kIn, kLen, kU, kA2, kDm, kStrI, kAll, kSl, kAppend, kExtend, kTuple, kList, lenT, seqOf, bYes, startT, one, pickG, selG, insOf, putT, flatT, Bool.false_xor, Bool.true_xor, List.all_cons, List.all_nil, Bool.and_self, T.int.injEq, T.bl.injEq, T.str.injEq, T.lst.injEq, T.tup.injEq, T.cell.injEq, T.ins.injEq, Cell.lst.injEq, Cell.ins.injEq, Prod.mk.injEq, List.cons.injEq, Option.some.injEq, List.map_cons, List.map_nil, List.length_cons, List.length_nil, List.cons_append, List.nil_append, List.append_nil, List.getElem?_cons_zero, List.getElem?_cons_succ, List.set_cons_zero, List.set_cons_succ, List.replicate_succ, List.replicate_zero, exists_eq_left, exists_eq_left', exists_and_left, and_true, true_and, and_self, and_assoc, Nat.sub_self, Nat.reduceAdd, Nat.reduceSub, Nat.zero_add, put_put, put_same, reduceIte, Bool.false_eq_true, Bool.true_eq_false, Bool.not_true, Bool.not_false, at_0, at_1, at_2, at_3, at_4, at_5, at_6, at_7, ix_1_0, ix_2_0, ix_2_1, ix_3_0, ix_3_1, ix_3_2, ix_4_0, ix_4_1, ix_4_2, ix_4_3]
          rcases q with ⟨a, b, f2, e, q⟩ | ⟨hno, _⟩
          · obtain ⟨rfl, rfl⟩ := un a b f2 e
            exact q
          · exact absurd ez (hno _ _ f)
        · refine eqSt0 (v := true) (by rw [decide_eq_false fun e => ez e.symm]; rfl) ⟨_, rfl, ?_⟩
          rw [if_pos (by decide)]
          rcases q with ⟨a, b, f2, e, q⟩ | ⟨_, q⟩
          · obtain ⟨rfl, rfl⟩ := un a b f2 e
            exact absurd e ez
          · exact q
  · exact h.elim
/-! sizes -/
theorem wh_ne : ¬ (("width" : Str) = "height") := by decide +kernel
def szF (a b c d : Int) : List (Str × T) := [("width", frT a b), ("height", frT c d)]
def szT (C : Addr) (a b c d : Int) : T := .ins C (szF a b c d)
theorem szF_w {a b c d : Int} : (szF a b c d).lookup ("width" : Str) = some (frT a b) := by simp [szF]
theorem szF_h {a b c d : Int} : (szF a b c d).lookup ("height" : Str) = some (frT c d) := by
  have h : (("height" : Str) == "width") = false := by decide +kernel
  simp [szF, List.lookup, h]
/-- a size, all parts within n bits -/
structure Sz (n : Nat) (a b c d : Int) : Prop where
  w : Fr n a b
  h : Fr n c d
theorem Sz.up {n m : Nat} {a b c d : Int} (s : Sz n a b c d) (le : n ≤ m) : Sz m a b c d := ⟨s.w.up le, s.h.up le⟩
/-- the same with the values of a size in place of a C -/
theorem kit_self {K : PySem.W.Frag} {C : Addr} : PySem.W.kitOne K (.ref C) (.ref C) = some true := by
  unfold PySem.W.kitOne
  rw [if_pos (beq_self_eq_true _)]
theorem isSz {K : PySem.W.Frag} {C : Addr} (i : InsC K C) {a b c d : Int} {S : Store} {R : T → Store → Prop} {RE : XT} (q : R (.bl true) S) : kIsi K [szT C a b c d, .st C] S R RE := ⟨szT C a b c d, .st C, .ref C, .ref C, true, rfl, .st C, .ins i, kit_self, q⟩
theorem sc_Size_init : FnScope ["self", "width", "height"] ["self", "width", "height"] (defScope s_Size_init) := ⟨rfl, rfl, rfl, by decide +kernel, rfl, by decide +kernel, by decide +kernel⟩
def sp_Size_init (K : PySem.W.Frag) (C CE : Addr) : SpT := fun ts S R RE => match ts with
  | [.cell u, x, y] => S u = some (.ins C []) ∧ ((∃ a b c d, Side 8000 x a b ∧ Side 8000 y c d ∧ R .non (S.put u (.ins C (szF a b c d)))) ∨ (AnyV K S x ∧ isPos x = false ∧ goodF x = false ∧ RE CE [("value", x)] S) ∨
      (∃ a b, Side 8000 x a b ∧ (∀ S', AnyV K S' y) ∧ isPos y = false ∧ goodF y = false ∧ RE CE [("value", y)] (S.put u (.ins C [("width", frT a b)]))))
  | _ => False
theorem ok_Size_init {P : Program} {w : World} {K : PySem.W.Frag} {mg : Str → Option Value} {base : Heap} {f : Addr} {fd : FuncData} {g_as_fraction C_InvalidFraction C_Size : Addr} {gd_as_fraction : FuncData} (F : Fun K "__init__" "Size.__init__" s_Size_init f fd)
    (G_as_fraction : FnT P w K mg base 5 g_as_fraction gd_as_fraction ["side"] (sp_as_fraction K C_InvalidFraction))
    (m_as_fraction : mg "as_fraction" = some (.ref g_as_fraction))
    (k_as_fraction : PySem.W.keepIn K (.ref g_as_fraction) = true)
    (b_as_fraction : Binds K gd_as_fraction ["side"] [])
    (nf_Size_width : InF K C_Size "width")
    (nf_Size_height : InF K C_Size "height")
    : FnT P w K mg base 6 f fd ["self", "width", "height"] (sp_Size_init K C_Size C_InvalidFraction) := by
  refine okT F sc_Size_init (by intro ts S R RE h; unfold sp_Size_init at h; split at h <;> first | rfl | exact h.elim) (fun cdv A out s H E hg hr => (bs_cons (ss_fldK K rfl (et_var (pv 0)) (et_callD G_as_fraction hg (hr.mono (by decide)) (by rfl) m_as_fraction k_as_fraction (CallD.all b_as_fraction) (passL2N (L2N.takes_of rfl rfl rfl rfl)) (at_cons (et_var (pv 1)) at_nil)))
    (bs_one (ss_fldK K rfl (et_var (pv 0)) (et_callD G_as_fraction hg (hr.mono (by decide)) (by rfl) m_as_fraction k_as_fraction (CallD.all b_as_fraction) (passL2N (L2N.takes_of rfl rfl rfl rfl)) (at_cons (et_var (pv 2)) at_nil)))))) ?_
  intro ts S R RE h
  unfold sp_Size_init at h
  split at h
  · rename_i u x y
    obtain ⟨hu, ⟨a, b, c, d, s1, s2, q⟩ | ⟨av, np, ng, q⟩ | ⟨a, b, s1, av, np, ng, q⟩⟩ := h
    · refine sSeq_i fun N hN => ?_
      simp only [sFldT, rVar, aNil, aCons, rCall, startT, T.cell.injEq, Option.some.injEq, List.map_cons, List.map_nil, List.length_cons, List.length_nil, List.append_nil, List.getElem?_cons_zero, List.getElem?_cons_succ, List.replicate_zero, exists_eq_left', exists_and_left, Nat.sub_self, Nat.reduceAdd, Nat.zero_add]
      refine Or.inl ⟨a, b, s1, C_Size, [], hu, nf_Size_width, by simp, hN _ _ ?_⟩
      simp only [sFldT, rVar, aNil, aCons, rCall, putT, T.cell.injEq, Option.some.injEq, List.append_nil, List.getElem?_cons_zero, List.getElem?_cons_succ, exists_eq_left', exists_and_left]
      refine Or.inl ⟨c, d, s2, C_Size, _, put_same, nf_Size_height, by simp [], ?_⟩
      rw [put_put]
      exact q
    · refine sSeq_i fun N hN => ?_
      simp only [sFldT, rVar, aNil, aCons, rCall, startT, T.cell.injEq, Option.some.injEq, List.map_cons, List.map_nil, List.length_cons, List.length_nil, List.append_nil, List.getElem?_cons_zero, List.getElem?_cons_succ, List.replicate_zero, exists_eq_left', exists_and_left, Nat.sub_self, Nat.reduceAdd, Nat.zero_add]
      exact Or.inr ⟨av, np, ng, q⟩
    · refine sSeq_i fun N hN => ?_
      simp only [sFldT, rVar, aNil, aCons, rCall, startT, T.cell.injEq, Option.some.injEq, List.map_cons, List.map_nil, List.length_cons, List.length_nil, List.append_nil, List.getElem?_cons_zero, List.getElem?_cons_succ, List.replicate_zero, exists_eq_left', exists_and_left, Nat.sub_self, Nat.reduceAdd, Nat.zero_add]
      refine Or.inl ⟨a, b, s1, C_Size, [], hu, nf_Size_width, by simp, hN _ _ ?_⟩
      simp only [sFldT, rVar, aNil, aCons, rCall, putT, T.cell.injEq, Option.some.injEq, List.append_nil, List.getElem?_cons_zero, List.getElem?_cons_succ, exists_eq_left', exists_and_left]
      exact Or.inr ⟨av _, np, ng, q⟩
  · exact h.elim
theorem Side.up {n m : Nat} {x : T} {a b : Int} (h : Side n x a b) (le : n ≤ m) : Side m x a b := by
  cases h with
  | int h => exact .int (h.up le)
  | fr h => exact .fr (h.up le)
theorem mk_size {K : PySem.W.Frag} {C CE : Addr} {x y : T} {a b c d : Int} {S : Store} {R : T → Store → Prop} {RE : XT} (s1 : Side 8000 x a b) (s2 : Side 8000 y c d) (q : R (szT C a b c d) S) :
    ∀ u, S u = none → sp_Size_init K C CE [.cell u, x, y] (S.put u (.ins C [])) (fun z S2 => z = .non ∧ ∃ gs, S2 u = some (.ins C gs) ∧ R (.ins C gs) (S2.drop u)) RE := fun u hu =>
  ⟨put_same, .inl ⟨a, b, c, d, s1, s2, rfl, _, put_same, by rw [put_put, put_drop hu]; exact q⟩⟩
/-- max(2, min(k, len(script))), as the two ways of writing it give it -/
theorem range_le {n k : Int} (h : 0 ≤ n ∧ n ≤ 63) (hk : 0 ≤ k ∧ k ≤ 63) : 0 ≤ (if (if n < k then n else k) > 2 then (if n < k then n else k) else 2) ∧ (if (if n < k then n else k) > 2 then (if n < k then n else k) else 2) ≤ 100 := by
  split <;> split <;> omega
/-- two sides -/
structure S4 where
  a : Int
  b : Int
  c : Int
  d : Int
def S4.t (C : Addr) (s : S4) : T := szT C s.a s.b s.c s.d
def S4.by (s : S4) (f : Int × Int) : S4 := ⟨lwA (s.a * f.1) (s.b * f.2), lwB (s.a * f.1) (s.b * f.2), lwA (s.c * f.1) (s.d * f.2), lwB (s.c * f.1) (s.d * f.2)⟩
def S4.ok (n : Nat) (s : S4) : Prop := Sz n s.a s.b s.c s.d
def S4.swap (s : S4) : S4 := ⟨s.c, s.d, s.a, s.b⟩
theorem fr11 {n : Nat} (h : 1 ≤ n := by decide) : Fr n 1 1 := ⟨⟨by decide, Nat.lt_of_lt_of_le (by decide : (1 : Nat) < 2 ^ 1) (Nat.pow_le_pow_right (by decide) h)⟩, ⟨by decide, Nat.lt_of_lt_of_le (by decide : (1 : Nat) < 2 ^ 1) (Nat.pow_le_pow_right (by decide) h)⟩, by decide⟩
/-! the law's own numbers -/
def d4T (s : S4) : T := .tup [frT s.a s.b, frT s.c s.d]
theorem Fr.of {n : Nat} {a : Int} (h : Pn n a) (hn : 1 ≤ n := by decide) : Fr n a 1 := ⟨h, (fr11 hn).b, gcdI_one⟩
theorem Fr.inv {n : Nat} {a : Int} (h : Pn n a) (hn : 1 ≤ n := by decide) : Fr n 1 a := ⟨(fr11 hn).b, h, by rw [gcdI_comm]; exact gcdI_one⟩
theorem sc_l_mul : FnScope ["_law_lead", "_law_more"] ["_law_lead", "_law_more"] (defScope s_l_mul) := ⟨rfl, rfl, rfl, by decide +kernel, rfl, by decide +kernel, by decide +kernel⟩
def sp_l_mul : SpT := fun ts S R _ => match ts with
  | [.tup [.int a, .int b], .tup [.int c, .int d]] => Pn 3900 a ∧ Pn 3900 b ∧ Pn 3900 c ∧ Pn 3900 d ∧ R (frT (lwA (a * c) (b * d)) (lwB (a * c) (b * d))) S
  | _ => False
theorem ok_l_mul {P : Program} {w : World} {K : PySem.W.Frag} {mg : Str → Option Value} {base : Heap} {f : Addr} {fd : FuncData} {g_l_low : Addr} {gd_l_low : FuncData} (F : Fun K "_law_mul" "_law_mul" s_l_mul f fd)
    (G_l_low : FnT P w K mg base 1 g_l_low gd_l_low ["_law_high_part", "_law_low_part"] sp_l_low)
    (m_l_low : mg "_law_low" = some (.ref g_l_low))
    (k_l_low : PySem.W.keepIn K (.ref g_l_low) = true)
    (b_l_low : Binds K gd_l_low ["_law_high_part", "_law_low_part"] [])
    : FnT P w K mg base 2 f fd ["_law_lead", "_law_more"] sp_l_mul := by
  refine okT F sc_l_mul (by intro ts S R RE h; unfold sp_l_mul at h; split at h <;> first | rfl | exact h.elim) (fun cdv A out s H E hg hr => (bs_one (ss_ret (et_callD G_l_low hg (hr.mono (by decide)) (by rfl) m_l_low k_l_low (CallD.all b_l_low) (passL2N (L2N.takes_of rfl rfl rfl rfl)) (at_cons (et_op op_mulG cv_mul (et_ix ix_seq cv_ix (et_var (pv 0)) et_int (fun _ _ => rfl)) (et_ix ix_seq cv_ix (et_var (pv 1)) et_int (fun _ _ => rfl))) (at_cons (et_op op_mulG cv_mul (et_ix ix_seq cv_ix (et_var (pv 0)) et_int (fun _ _ => rfl)) (et_ix ix_seq cv_ix (et_var (pv 1)) et_int (fun _ _ => rfl))) at_nil)))))) ?_
  intro ts S R RE h
  unfold sp_l_mul at h
  split at h
  · rename_i a b c d
    obtain ⟨ha, hb, hc, hd, q⟩ := h
    simp only [sp_l_low, sRet, rVar, rC, rBin, aNil, aCons, rCall, kMul, kIx, startT, Option.some.injEq, List.map_cons, List.map_nil, List.length_cons, List.length_nil, List.append_nil, List.getElem?_cons_zero, List.getElem?_cons_succ, List.replicate_zero, exists_eq_left', exists_and_left, and_assoc, Nat.sub_self, Nat.reduceAdd, Nat.zero_add, at_0, at_1]
    exact ⟨ha.mulW hc, hb.mulW hd, (ha.mul hc).up (by decide), (hb.mul hd).pos, q⟩
  · exact h.elim
theorem sc_l_part : FnScope ["_law_pool_here", "_law_great", "_law_way", "_law_most"] ["_law_pool_here", "_law_great"] (defScope s_l_part) := ⟨rfl, rfl, rfl, by decide +kernel, rfl, by decide +kernel, by decide +kernel⟩
def sp_l_part : SpT := fun ts S R _ => match ts with
  | [.cell p, .bl g] => PoolT S p ∧ ∀ a b S', Fr 70 a b → PS S p S' → R (frT a b) S'
  | _ => False
theorem ok_l_part {P : Program} {w : World} {K : PySem.W.Frag} {mg : Str → Option Value} {base : Heap} {f : Addr} {fd : FuncData} {g_l_low g_l_draw : Addr} {gd_l_low : FuncData} {gd_l_draw : FuncData} (F : Fun K "_law_part" "_law_part" s_l_part f fd)
    (G_l_low : FnT P w K mg base 1 g_l_low gd_l_low ["_law_high_part", "_law_low_part"] sp_l_low)
    (m_l_low : mg "_law_low" = some (.ref g_l_low))
    (k_l_low : PySem.W.keepIn K (.ref g_l_low) = true)
    (b_l_low : Binds K gd_l_low ["_law_high_part", "_law_low_part"] [])
    (G_l_draw : FnT P w K mg base 1 g_l_draw gd_l_draw ["_law_pool_here", "_law_most"] sp_l_draw)
    (m_l_draw : mg "_law_draw" = some (.ref g_l_draw))
    (k_l_draw : PySem.W.keepIn K (.ref g_l_draw) = true)
    (b_l_draw : Binds K gd_l_draw ["_law_pool_here", "_law_most"] [])
    : FnT P w K mg base 2 f fd ["_law_pool_here", "_law_great"] sp_l_part := by
  refine okT F sc_l_part (by intro ts S R RE h; unfold sp_l_part at h; split at h <;> first | rfl | exact h.elim) (fun cdv A out s H E hg hr => (bs_cons (ss_set (i := 2) sc_l_part.nd rfl (by first | exact Or.inl rfl | exact Or.inr rfl) (et_callD G_l_draw hg (hr.mono (by decide)) (by rfl) m_l_draw k_l_draw (CallD.all b_l_draw) (passL2N (L2N.takes_of rfl rfl rfl rfl)) (at_cons (et_var (pv 0)) (at_cons et_int at_nil))))
    (bs_cons (ss_if (tt_cmp op_lt cv_B2n (et_var (pv 2)) et_int (nomark _)) (bs_one (ss_ret (et_tup (at_cons (et_op op_addG cv_add et_int (et_callD G_l_draw hg (hr.mono (by decide)) (by rfl) m_l_draw k_l_draw (CallD.all b_l_draw) (passL2N (L2N.takes_of rfl rfl rfl rfl)) (at_cons (et_var (pv 0)) (at_cons (et_ix ix_seq cv_ix (et_lst (at_cons et_int (at_cons et_int at_nil))) (et_var (pv 2)) (fun _ _ => rfl)) at_nil)))) (at_cons et_int at_nil))))) bs_nil)
    (bs_cons (ss_set (i := 3) sc_l_part.nd rfl (by first | exact Or.inl rfl | exact Or.inr rfl) (et_ix ix_seq cv_ix (et_lst (at_cons et_int (at_cons et_int (at_cons (et_op op_pow cv_I2 et_int et_int) (at_cons (et_if (tt_val (et_var (pv 1))) (et_op op_pow cv_I2 et_int et_int) et_int) at_nil))))) (et_op op_sub cv_I2n (et_var (pv 2)) et_int) (fun _ _ => rfl)))
    (bs_one (ss_ret (et_callD G_l_low hg (hr.mono (by decide)) (by rfl) m_l_low k_l_low (CallD.all b_l_low) (passL2N (L2N.takes_of rfl rfl rfl rfl)) (at_cons (et_op op_addG cv_add et_int (et_callD G_l_draw hg (hr.mono (by decide)) (by rfl) m_l_draw k_l_draw (CallD.all b_l_draw) (passL2N (L2N.takes_of rfl rfl rfl rfl)) (at_cons (et_var (pv 0)) (at_cons (et_var (pv 3)) at_nil)))) (at_cons (et_op op_addG cv_add et_int (et_callD G_l_draw hg (hr.mono (by decide)) (by rfl) m_l_draw k_l_draw (CallD.all b_l_draw) (passL2N (L2N.takes_of rfl rfl rfl rfl)) (at_cons (et_var (pv 0)) (at_cons (et_var (pv 3)) at_nil)))) at_nil))))))))) ?_
  intro ts S R RE h
  unfold sp_l_part at h
  split at h
  · rename_i p g
    obtain ⟨hp, q⟩ := h
    refine sSeq_i fun N hN => ?_
    simp only [sp_l_draw, sAsg, rVar, rC, aNil, aCons, gNameT, rCall, startT, Option.some.injEq, List.map_cons, List.map_nil, List.length_cons, List.length_nil, List.cons_append, List.nil_append, List.append_nil, List.getElem?_cons_zero, List.set_cons_zero, List.set_cons_succ, List.replicate_succ, List.replicate_zero, exists_eq_left', Nat.reduceAdd, Nat.reduceSub, Nat.zero_add]
    refine ⟨hp, Pn.of (by decide) (by decide), fun r S1 r0 r1 p1 => hN _ _ ?_⟩
    refine sSeq_i fun N hN => ?_
    simp only [sRet, sIf, sNext, rVar, rC, rBin, rTest, aNil, aCons, rTup, rLst, rCall, kAdd, kI2n, kIx, T.bl.injEq, Option.some.injEq, List.length_cons, List.length_nil, List.append_nil, List.getElem?_cons_zero, List.getElem?_cons_succ, exists_eq_left', exists_and_left, Nat.reduceAdd, Nat.zero_add]
    refine ite_d (fun c => ?_) (fun c => hN _ _ ?_)
    · have hr : r = 0 ∨ r = 1 := by omega
      have fin : ∀ m : Int, Pn 60 m → sp_l_draw [.cell p, .int m] S1 (fun x S1 => kAdd (.int 1) x S1 (fun x S1 => [x, T.int 1].length ≤ sizeLine ∧ R (.tup [x, .int 1]) S1) RE) RE := fun m hm =>
        ⟨p1.pool, hm.up (by decide), fun z S2 z0 z1 p2 => ⟨by show 2 ≤ sizeLine; decide, q (1 + z) 1 S2 (Fr.of (Pn.le (n := 70) (hm.up (by decide)) (by omega) (by omega))) (p1.trans p2)⟩⟩
      rcases hr with rfl | rfl
      · simp only [Option.some.injEq, exists_eq_left', at_0]
        exact ⟨by decide, fin 12 (Pn.of (by decide) (by decide))⟩
      · simp only [Option.some.injEq, exists_eq_left', at_1]
        exact ⟨by decide, fin 2000 (Pn.of (by decide) (by decide))⟩
    · have hr : r = 2 ∨ r = 3 ∨ r = 4 ∨ r = 5 := by omega
      have go : ∀ v : Option T, ∀ m : Int, Pn 68 m → sRet (rCall sp_l_low [] (aCons (rBin kAdd (rC (T.int 1)) (rCall sp_l_draw [] (aCons (rVar 0) (aCons (rVar 3) aNil)))) (aCons (rBin kAdd (rC (T.int 1)) (rCall sp_l_draw [] (aCons (rVar 0) (aCons (rVar 3) aNil)))) aNil)))
          { nx := fun _ S' => R .non S', rt := R, ex := RE } [some (.cell p), some (.bl g), some (.int r), some (.int m)] S1 := by
        intro v m hm
        simp only [sp_l_draw, sp_l_low, sRet, rVar, rC, rBin, aNil, aCons, rCall, kAdd, Option.some.injEq, List.append_nil, List.getElem?_cons_zero, List.getElem?_cons_succ, exists_eq_left']
        refine ⟨p1.pool, hm.up (by decide), fun z S2 z0 z1 p2 => ⟨p2.pool, hm.up (by decide), fun y S3 y0 y1 p3 => ?_⟩⟩
        have pz : Pn 70 (1 + z) := Pn.le (hm.up (by decide)) (by omega) (by omega)
        have py : Pn 70 (1 + y) := Pn.le (hm.up (by decide)) (by omega) (by omega)
        exact ⟨pz.up (by decide), py.pos, q _ _ _ (Fr.low pz py) ((p1.trans p2).trans p3)⟩
      have p20 : Pn 68 (10 ^ 20) := Pn.of (by decide) (by decide)
      have p6 : Pn 68 (10 ^ 6) := Pn.of (by decide) (by decide)
      refine sSeq_i fun N hN => ?_
      simp only [sAsg, rVar, rC, rBin, rTest, rIf, aNil, aCons, rLst, gNameT, kI2, kI2n, kIx, T.bl.injEq, Option.some.injEq, List.length_cons, List.length_nil, List.getElem?_cons_zero, List.getElem?_cons_succ, List.set_cons_zero, List.set_cons_succ, exists_eq_left', Nat.reduceAdd, Nat.zero_add]
      refine ⟨⟨by decide, by decide, by decide⟩, ?_⟩
      cases g with
      | true =>
        simp only [reduceIte]
        refine ⟨⟨by decide, by decide, by decide⟩, by decide, ?_⟩
        rcases hr with rfl | rfl | rfl | rfl
        · simp only [Int.reduceSub, Option.some.injEq, exists_eq_left', at_0]
          exact hN _ _ (go none 12 (Pn.of (by decide) (by decide)))
        · simp only [Int.reduceSub, Option.some.injEq, exists_eq_left', at_1]
          exact hN _ _ (go none 60 (Pn.of (by decide) (by decide)))
        · simp only [Int.reduceSub, Option.some.injEq, exists_eq_left', at_2]
          exact hN _ _ (go none _ p6)
        · simp only [Int.reduceSub, Option.some.injEq, exists_eq_left', at_3]
          exact hN _ _ (go none _ p20)
      | false =>
        simp only [reduceIte, Bool.false_eq_true]
        refine ⟨by decide, ?_⟩
        rcases hr with rfl | rfl | rfl | rfl
        · simp only [Int.reduceSub, Option.some.injEq, exists_eq_left', at_0]
          exact hN _ _ (go none 12 (Pn.of (by decide) (by decide)))
        · simp only [Int.reduceSub, Option.some.injEq, exists_eq_left', at_1]
          exact hN _ _ (go none 60 (Pn.of (by decide) (by decide)))
        · simp only [Int.reduceSub, Option.some.injEq, exists_eq_left', at_2]
          exact hN _ _ (go none _ p6)
        · simp only [Int.reduceSub, Option.some.injEq, exists_eq_left', at_3]
          exact hN _ _ (go none 90 (Pn.of (by decide) (by decide)))
  · exact h.elim
/-! small data: what repr shows of it is short -/
theorem two_ten : (2 : Nat) ^ 1900 < 10 ^ 600 := by decide +kernel
theorem intlen {i : Int} (h : i.natAbs < 2 ^ 1900) : (Str.ofString (toString i)).length ≤ 601 := by
  rw [PySem.ofString_length]
  exact PySem.int_text_length_le10 (k := 600) (by decide) (Nat.lt_trans h two_ten)
structure SmL (k n : Nat) (ts : List T) : Prop where
  ex : ∃ ds, T.datL ts = some ds ∧ PyData.showableAll ds = true ∧ PyData.hasDictAll ds = false ∧ PyData.depthAll ds ≤ k ∧ ((PyData.shownAll ds).map (·.length)).sum + 2 * ds.length ≤ n
theorem SmT.up {j k n m : Nat} {d : T} (h : SmT j n d) (le2 : j ≤ k) (le : n ≤ m) : SmT k m d := let ⟨d, a, b, c, e, f⟩ := h.ex; ⟨d, a, b, c, Nat.le_trans e le2, Nat.le_trans f le⟩
theorem SmL.nil {k : Nat} : SmL k 0 [] := ⟨[], by rw [T.datL], by simp only [PyData.showableAll], by simp only [PyData.hasDictAll], by simp only [PyData.depthAll]; omega, by rw [PyData.shownAll_nil]; exact Nat.le_refl _⟩
theorem SmL.cons {k n m : Nat} {t : T} {ts : List T} (h : SmT k n t) (q : SmL k m ts) : SmL k (n + m + 2) (t :: ts) := by
  obtain ⟨d, e1, sh, nd, dp, ln⟩ := h.ex
  obtain ⟨ds, e2, sh2, nd2, dp2, ln2⟩ := q.ex
  refine ⟨d :: ds, by rw [T.datL, e1, e2], by simp only [PyData.showableAll, sh, sh2, Bool.and_self], by simp only [PyData.hasDictAll, nd, nd2, Bool.or_self], ?_, ?_⟩
  · simp only [PyData.depthAll]
    omega
  · rw [PyData.shownAll_cons]
    simp only [List.map_cons, List.sum_cons, List.length_cons]
    omega
theorem SmT.lst {k n : Nat} {ts : List T} (h : SmL k n ts) : SmT (k + 1) (n + 3) (.lst ts) := by
  obtain ⟨ds, e, sh, nd, dp, ln⟩ := h.ex
  refine ⟨.list ds, by rw [T.dat, e]; rfl, by simp only [PyData.showable, sh], by simp only [PyData.hasDict, nd], ?_, ?_⟩
  · simp only [PyData.depth]
    omega
  · have h2 := listText_len_le (PyData.shownAll ds)
    rw [PyData.shownAll_length] at h2
    simp only [PyData.shown]
    omega
theorem SmT.tup {k n : Nat} {ts : List T} (h : SmL k n ts) : SmT (k + 1) (n + 3) (.tup ts) := by
  obtain ⟨ds, e, sh, nd, dp, ln⟩ := h.ex
  refine ⟨.tuple ds, by rw [T.dat, e]; rfl, by simp only [PyData.showable, sh], by simp only [PyData.hasDict, nd], ?_, ?_⟩
  · simp only [PyData.depth]
    omega
  · have h2 := tupleText_len_le (PyData.shownAll ds)
    rw [PyData.shownAll_length] at h2
    simp only [PyData.shown]
    omega
theorem SmT.int {i : Int} (h : i.natAbs < 2 ^ 1900) : SmT 1 601 (.int i) := by
  have l : i.natAbs.log2 < 1900 := PySem.Flt.log2_lt_of (by decide) h
  refine ⟨.int i, by rw [T.dat], ?_, by simp only [PyData.hasDict], by simp only [PyData.depth]; omega, ?_⟩
  · have := PyData.showableAll_ints [i] (fun n m => by rw [List.mem_singleton.mp m]; omega)
    simpa only [List.map_cons, List.map_nil, PyData.showableAll, Bool.and_true] using this
  · rw [PyData.shown_int]
    exact intlen h
theorem SmT.bool (b : Bool) : SmT 1 5 (.bl b) := by
  refine ⟨.bool b, by rw [T.dat], by simp only [PyData.showable], by simp only [PyData.hasDict], by simp only [PyData.depth]; omega, ?_⟩
  rw [PyData.shown_bool]
  cases b <;> decide
theorem SmT.fr {a b : Int} (h : Pn 1900 a) (k : Pn 1900 b) : SmT 2 1300 (frT a b) := (SmT.tup ((SmL.cons (SmT.int h.lt) (SmL.cons (SmT.int k.lt) SmL.nil)))).up (by decide) (by decide)
theorem S4.up {s : S4} {n m : Nat} (o : s.ok n) (h : n ≤ m) : s.ok m := Sz.up o h
theorem sc_l_sides : FnScope ["_law_pool_here", "_law_great", "_law_lead", "_law_way"] ["_law_pool_here", "_law_great"] (defScope s_l_sides) := ⟨rfl, rfl, rfl, by decide +kernel, rfl, by decide +kernel, by decide +kernel⟩
def sp_l_sides : SpT := fun ts S R _ => match ts with
  | [.cell p, .bl g] => PoolT S p ∧ ∀ (s : S4) S', s.ok 100 → PS S p S' → R (d4T s) S'
  | _ => False
theorem ok_l_sides {P : Program} {w : World} {K : PySem.W.Frag} {mg : Str → Option Value} {base : Heap} {f : Addr} {fd : FuncData} {g_l_part g_l_mul g_l_low g_l_draw : Addr} {gd_l_part : FuncData} {gd_l_mul : FuncData} {gd_l_low : FuncData} {gd_l_draw : FuncData} (F : Fun K "_law_sides" "_law_sides" s_l_sides f fd)
    (G_l_part : FnT P w K mg base 2 g_l_part gd_l_part ["_law_pool_here", "_law_great"] sp_l_part)
    (m_l_part : mg "_law_part" = some (.ref g_l_part))
    (k_l_part : PySem.W.keepIn K (.ref g_l_part) = true)
    (b_l_part : Binds K gd_l_part ["_law_pool_here", "_law_great"] [])
    (G_l_mul : FnT P w K mg base 2 g_l_mul gd_l_mul ["_law_lead", "_law_more"] sp_l_mul)
    (m_l_mul : mg "_law_mul" = some (.ref g_l_mul))
    (k_l_mul : PySem.W.keepIn K (.ref g_l_mul) = true)
    (b_l_mul : Binds K gd_l_mul ["_law_lead", "_law_more"] [])
    (G_l_low : FnT P w K mg base 1 g_l_low gd_l_low ["_law_high_part", "_law_low_part"] sp_l_low)
    (m_l_low : mg "_law_low" = some (.ref g_l_low))
    (k_l_low : PySem.W.keepIn K (.ref g_l_low) = true)
    (b_l_low : Binds K gd_l_low ["_law_high_part", "_law_low_part"] [])
    (G_l_draw : FnT P w K mg base 1 g_l_draw gd_l_draw ["_law_pool_here", "_law_most"] sp_l_draw)
    (m_l_draw : mg "_law_draw" = some (.ref g_l_draw))
    (k_l_draw : PySem.W.keepIn K (.ref g_l_draw) = true)
    (b_l_draw : Binds K gd_l_draw ["_law_pool_here", "_law_most"] [])
    : FnT P w K mg base 3 f fd ["_law_pool_here", "_law_great"] sp_l_sides := by
  refine okT F sc_l_sides (by intro ts S R RE h; unfold sp_l_sides at h; split at h <;> first | rfl | exact h.elim) (fun cdv A out s H E hg hr => (bs_cons (ss_par (i := 2) (j := 3) (by rfl) sc_l_sides.nd rfl rfl (by decide) rfl rfl (at_cons (et_callD G_l_part hg (hr.mono (by decide)) (by rfl) m_l_part k_l_part (CallD.all b_l_part) (passL2N (L2N.takes_of rfl rfl rfl rfl)) (at_cons (et_var (pv 0)) (at_cons (et_var (pv 1)) at_nil))) (at_cons (et_callD G_l_draw hg (hr.mono (by decide)) (by rfl) m_l_draw k_l_draw (CallD.all b_l_draw) (passL2N (L2N.takes_of rfl rfl rfl rfl)) (at_cons (et_var (pv 0)) (at_cons et_int at_nil))) at_nil)) (by rfl))
    (bs_cons (ss_if (tt_cmp (op_eqG hr.units) cv_eq (et_var (pv 3)) et_int (nomark _)) (bs_one (ss_ret (et_tup (at_cons (et_var (pv 2)) (at_cons (et_var (pv 2)) at_nil))))) bs_nil)
    (bs_cons (ss_if (tt_cmp (op_eqG hr.units) cv_eq (et_var (pv 3)) et_int (nomark _)) (bs_one (ss_ret (et_tup (at_cons (et_callD G_l_mul hg (hr.mono (by decide)) (by rfl) m_l_mul k_l_mul (CallD.all b_l_mul) (passL2N (L2N.takes_of rfl rfl rfl rfl)) (at_cons (et_var (pv 2)) (at_cons (et_callD G_l_low hg (hr.mono (by decide)) (by rfl) m_l_low k_l_low (CallD.all b_l_low) (passL2N (L2N.takes_of rfl rfl rfl rfl)) (at_cons (et_op op_addG cv_add et_int (et_callD G_l_draw hg (hr.mono (by decide)) (by rfl) m_l_draw k_l_draw (CallD.all b_l_draw) (passL2N (L2N.takes_of rfl rfl rfl rfl)) (at_cons (et_var (pv 0)) (at_cons et_int at_nil)))) (at_cons (et_op op_addG cv_add et_int (et_callD G_l_draw hg (hr.mono (by decide)) (by rfl) m_l_draw k_l_draw (CallD.all b_l_draw) (passL2N (L2N.takes_of rfl rfl rfl rfl)) (at_cons (et_var (pv 0)) (at_cons et_int at_nil)))) at_nil))) at_nil))) (at_cons (et_var (pv 2)) at_nil))))) bs_nil)
    (bs_one (ss_ret (et_tup (at_cons (et_var (pv 2)) (at_cons (et_callD G_l_part hg (hr.mono (by decide)) (by rfl) m_l_part k_l_part (CallD.all b_l_part) (passL2N (L2N.takes_of rfl rfl rfl rfl)) (at_cons (et_var (pv 0)) (at_cons (et_var (pv 1)) at_nil))) at_nil))))))))) ?_
  intro ts S R RE h
  unfold sp_l_sides at h
  split at h
  · rename_i p g
    obtain ⟨hp, q⟩ := h
    refine sSeq_i fun N hN => ?_
    simp only [sp_l_part, rCallOwn, iZipT, kMaxT, rRevT, rDix2, sFrzV, sDrp, rSlC, rDget2, sSeq, sAsg, sDrop, sRet, sRetN, sIf, sNext, sPar, sPar3, sFor, sRaise, sFldT, sNo, rNo, rVar, rFrz, rC, rBin, rTest, bAnd, bOr, bNot, bIf, vAnd, vOr, vNot, rIf, rNeg, aNil, aCons, rTup, rLst, rLstC, rArgs, gNameT, gNilT, gConsT, gTupT, gSubT, iSeq, iRng1T, iRng2T, rLc, rCall, rCallN, rCallS, rFld, rCon, rMake, rMakeN, rMakeP, rMeth, rMethK, rProp, rClsFn, rOpOwn, rSl, oNone, oSome, rFmt, kFmt, rJs, rLidx, rChain, rTru, truT, rStr0, rPart, rSplit, kIntS, gStarT, kStrOwn, kAddC, rDct, kInt1, iEnumT, rMakeStar, rJoin, iZipM, iSeqH, iEnumL, rLc2, rTruC, rLcP, kLenOwn, kBoolOwn, rCMeth, rClsStar, rClsMake, rLz, rRevL, rRev2, rCMethK, rExcV, rMut, kAdd, kI2, kI2n, kMul, kIx, kIn, kLen, kU, kA2, kDm, kStrI, kAll, kSl, kAppend, kExtend, kTuple, kList, lenT, seqOf, bYes, startT, one, pickG, selG, insOf, putT, flatT, Bool.false_xor, Bool.true_xor, List.all_cons, List.all_nil, Bool.and_self, T.int.injEq, T.bl.injEq, T.str.injEq, T.lst.injEq, T.tup.injEq, T.cell.injEq, T.ins.injEq, Cell.lst.injEq, Cell.ins.injEq, Prod.mk.injEq, List.cons.injEq, Option.some.injEq, List.map_cons, List.map_nil, List.length_cons, List.length_nil, List.cons_append, List.nil_append, List.append_nil, List.getElem?_cons_zero, List.getElem?_cons_succ, List.set_cons_zero, List.set_cons_succ, List.replicate_succ, List.replicate_zero, exists_eq_left, exists_eq_left', exists_and_left, and_true, true_and, and_self, and_assoc, Nat.sub_self, Nat.reduceAdd, Nat.reduceSub, Nat.zero_add, put_put, put_same, reduceIte, Bool.false_eq_true, Bool.true_eq_false, Bool.not_true, Bool.not_false, at_0, at_1, at_2, at_3, at_4, at_5, at_6, at_7, ix_1_0, ix_2_0, ix_2_1, ix_3_0, ix_3_1, ix_3_2, ix_4_0, ix_4_1, ix_4_2, ix_4_3]
    refine ⟨hp, fun a b S1 f1 p1 => ?_⟩
    simp only [sp_l_draw, rCallOwn, iZipT, kMaxT, rRevT, rDix2, sFrzV, sDrp, rSlC, rDget2, sSeq, sAsg, sDrop, sRet, sRetN, sIf, sNext, sPar, sPar3, sFor, sRaise, sFldT, sNo, rNo, rVar, rFrz, rC, rBin, rTest, bAnd, bOr, bNot, bIf, vAnd, vOr, vNot, rIf, rNeg, aNil, aCons, rTup, rLst, rLstC, rArgs, gNameT, gNilT, gConsT, gTupT, gSubT, iSeq, iRng1T, iRng2T, rLc, rCall, rCallN, rCallS, rFld, rCon, rMake, rMakeN, rMakeP, rMeth, rMethK, rProp, rClsFn, rOpOwn, rSl, oNone, oSome, rFmt, kFmt, rJs, rLidx, rChain, rTru, truT, rStr0, rPart, rSplit, kIntS, gStarT, kStrOwn, kAddC, rDct, kInt1, iEnumT, rMakeStar, rJoin, iZipM, iSeqH, iEnumL, rLc2, rTruC, rLcP, kLenOwn, kBoolOwn, rCMeth, rClsStar, rClsMake, rLz, rRevL, rRev2, rCMethK, rExcV, rMut, kAdd, kI2, kI2n, kMul, kIx, kIn, kLen, kU, kA2, kDm, kStrI, kAll, kSl, kAppend, kExtend, kTuple, kList, lenT, seqOf, bYes, startT, one, pickG, selG, insOf, putT, flatT, Bool.false_xor, Bool.true_xor, List.all_cons, List.all_nil, Bool.and_self, T.int.injEq, T.bl.injEq, T.str.injEq, T.lst.injEq, T.tup.injEq, T.cell.injEq, T.ins.injEq, Cell.lst.injEq, Cell.ins.injEq, Prod.mk.injEq, List.cons.injEq, Option.some.injEq, List.map_cons, List.map_nil, List.length_cons, List.length_nil, List.cons_append, List.nil_append, List.append_nil, List.getElem?_cons_zero, List.getElem?_cons_succ, List.set_cons_zero, List.set_cons_succ, List.replicate_succ, List.replicate_zero, exists_eq_left, exists_eq_left', exists_and_left, and_true, true_and, and_self, and_assoc, Nat.sub_self, Nat.reduceAdd, Nat.reduceSub, Nat.zero_add, put_put, put_same, reduceIte, Bool.false_eq_true, Bool.true_eq_false, Bool.not_true, Bool.not_false, at_0, at_1, at_2, at_3, at_4, at_5, at_6, at_7, ix_1_0, ix_2_0, ix_2_1, ix_3_0, ix_3_1, ix_3_2, ix_4_0, ix_4_1, ix_4_2, ix_4_3]
    refine ⟨p1.pool, Pn.of (by decide) (by decide), fun r S2 r0 r1 p2 => hN _ _ ?_⟩
    have p12 := p1.trans p2
    refine sSeq_i fun N hN => ?_
    simp only [rCallOwn, iZipT, kMaxT, rRevT, rDix2, sFrzV, sDrp, rSlC, rDget2, sSeq, sAsg, sDrop, sRet, sRetN, sIf, sNext, sPar, sPar3, sFor, sRaise, sFldT, sNo, rNo, rVar, rFrz, rC, rBin, rTest, bAnd, bOr, bNot, bIf, vAnd, vOr, vNot, rIf, rNeg, aNil, aCons, rTup, rLst, rLstC, rArgs, gNameT, gNilT, gConsT, gTupT, gSubT, iSeq, iRng1T, iRng2T, rLc, rCall, rCallN, rCallS, rFld, rCon, rMake, rMakeN, rMakeP, rMeth, rMethK, rProp, rClsFn, rOpOwn, rSl, oNone, oSome, rFmt, kFmt, rJs, rLidx, rChain, rTru, truT, rStr0, rPart, rSplit, kIntS, gStarT, kStrOwn, kAddC, rDct, kInt1, iEnumT, rMakeStar, rJoin, iZipM, iSeqH, iEnumL, rLc2, rTruC, rLcP, kLenOwn, kBoolOwn, rCMeth, rClsStar, rClsMake, rLz, rRevL, rRev2, rCMethK, rExcV, rMut, kAdd, kI2, kI2n, kMul, kIx, kIn, kLen, kU, kA2, kDm, kStrI, kAll, kSl, kAppend, kExtend, kTuple, kList, lenT, seqOf, bYes, startT, one, pickG, selG, insOf, putT, flatT, Bool.false_xor, Bool.true_xor, List.all_cons, List.all_nil, Bool.and_self, T.int.injEq, T.bl.injEq, T.str.injEq, T.lst.injEq, T.tup.injEq, T.cell.injEq, T.ins.injEq, Cell.lst.injEq, Cell.ins.injEq, Prod.mk.injEq, List.cons.injEq, Option.some.injEq, List.map_cons, List.map_nil, List.length_cons, List.length_nil, List.cons_append, List.nil_append, List.append_nil, List.getElem?_cons_zero, List.getElem?_cons_succ, List.set_cons_zero, List.set_cons_succ, List.replicate_succ, List.replicate_zero, exists_eq_left, exists_eq_left', exists_and_left, and_true, true_and, and_self, and_assoc, Nat.sub_self, Nat.reduceAdd, Nat.reduceSub, Nat.zero_add, put_put, put_same, reduceIte, Bool.false_eq_true, Bool.true_eq_false, Bool.not_true, Bool.not_false, at_0, at_1, at_2, at_3, at_4, at_5, at_6, at_7, ix_1_0, ix_2_0, ix_2_1, ix_3_0, ix_3_1, ix_3_2, ix_4_0, ix_4_1, ix_4_2, ix_4_3]
    refine eqI0 ⟨_, rfl, ?_⟩
    refine ite_d (fun c => ?_) (fun c => hN _ _ ?_)
    · exact ⟨by decide, q ⟨a, b, a, b⟩ _ ⟨f1.up (by decide), f1.up (by decide)⟩ p12⟩
    · refine sSeq_i fun N hN => ?_
      simp only [rCallOwn, iZipT, kMaxT, rRevT, rDix2, sFrzV, sDrp, rSlC, rDget2, sSeq, sAsg, sDrop, sRet, sRetN, sIf, sNext, sPar, sPar3, sFor, sRaise, sFldT, sNo, rNo, rVar, rFrz, rC, rBin, rTest, bAnd, bOr, bNot, bIf, vAnd, vOr, vNot, rIf, rNeg, aNil, aCons, rTup, rLst, rLstC, rArgs, gNameT, gNilT, gConsT, gTupT, gSubT, iSeq, iRng1T, iRng2T, rLc, rCall, rCallN, rCallS, rFld, rCon, rMake, rMakeN, rMakeP, rMeth, rMethK, rProp, rClsFn, rOpOwn, rSl, oNone, oSome, rFmt, kFmt, rJs, rLidx, rChain, rTru, truT, rStr0, rPart, rSplit, kIntS, gStarT, kStrOwn, kAddC, rDct, kInt1, iEnumT, rMakeStar, rJoin, iZipM, iSeqH, iEnumL, rLc2, rTruC, rLcP, kLenOwn, kBoolOwn, rCMeth, rClsStar, rClsMake, rLz, rRevL, rRev2, rCMethK, rExcV, rMut, kAdd, kI2, kI2n, kMul, kIx, kIn, kLen, kU, kA2, kDm, kStrI, kAll, kSl, kAppend, kExtend, kTuple, kList, lenT, seqOf, bYes, startT, one, pickG, selG, insOf, putT, flatT, Bool.false_xor, Bool.true_xor, List.all_cons, List.all_nil, Bool.and_self, T.int.injEq, T.bl.injEq, T.str.injEq, T.lst.injEq, T.tup.injEq, T.cell.injEq, T.ins.injEq, Cell.lst.injEq, Cell.ins.injEq, Prod.mk.injEq, List.cons.injEq, Option.some.injEq, List.map_cons, List.map_nil, List.length_cons, List.length_nil, List.cons_append, List.nil_append, List.append_nil, List.getElem?_cons_zero, List.getElem?_cons_succ, List.set_cons_zero, List.set_cons_succ, List.replicate_succ, List.replicate_zero, exists_eq_left, exists_eq_left', exists_and_left, and_true, true_and, and_self, and_assoc, Nat.sub_self, Nat.reduceAdd, Nat.reduceSub, Nat.zero_add, put_put, put_same, reduceIte, Bool.false_eq_true, Bool.true_eq_false, Bool.not_true, Bool.not_false, at_0, at_1, at_2, at_3, at_4, at_5, at_6, at_7, ix_1_0, ix_2_0, ix_2_1, ix_3_0, ix_3_1, ix_3_2, ix_4_0, ix_4_1, ix_4_2, ix_4_3]
      refine eqI0 ⟨_, rfl, ?_⟩
      refine ite_d (fun c => ?_) (fun c => hN _ _ ?_)
      · simp only [sp_l_draw, rCallOwn, iZipT, kMaxT, rRevT, rDix2, sFrzV, sDrp, rSlC, rDget2, sSeq, sAsg, sDrop, sRet, sRetN, sIf, sNext, sPar, sPar3, sFor, sRaise, sFldT, sNo, rNo, rVar, rFrz, rC, rBin, rTest, bAnd, bOr, bNot, bIf, vAnd, vOr, vNot, rIf, rNeg, aNil, aCons, rTup, rLst, rLstC, rArgs, gNameT, gNilT, gConsT, gTupT, gSubT, iSeq, iRng1T, iRng2T, rLc, rCall, rCallN, rCallS, rFld, rCon, rMake, rMakeN, rMakeP, rMeth, rMethK, rProp, rClsFn, rOpOwn, rSl, oNone, oSome, rFmt, kFmt, rJs, rLidx, rChain, rTru, truT, rStr0, rPart, rSplit, kIntS, gStarT, kStrOwn, kAddC, rDct, kInt1, iEnumT, rMakeStar, rJoin, iZipM, iSeqH, iEnumL, rLc2, rTruC, rLcP, kLenOwn, kBoolOwn, rCMeth, rClsStar, rClsMake, rLz, rRevL, rRev2, rCMethK, rExcV, rMut, kAdd, kI2, kI2n, kMul, kIx, kIn, kLen, kU, kA2, kDm, kStrI, kAll, kSl, kAppend, kExtend, kTuple, kList, lenT, seqOf, bYes, startT, one, pickG, selG, insOf, putT, flatT, Bool.false_xor, Bool.true_xor, List.all_cons, List.all_nil, Bool.and_self, T.int.injEq, T.bl.injEq, T.str.injEq, T.lst.injEq, T.tup.injEq, T.cell.injEq, T.ins.injEq, Cell.lst.injEq, Cell.ins.injEq, Prod.mk.injEq, List.cons.injEq, Option.some.injEq, List.map_cons, List.map_nil, List.length_cons, List.length_nil, List.cons_append, List.nil_append, List.append_nil, List.getElem?_cons_zero, List.getElem?_cons_succ, List.set_cons_zero, List.set_cons_succ, List.replicate_succ, List.replicate_zero, exists_eq_left, exists_eq_left', exists_and_left, and_true, true_and, and_self, and_assoc, Nat.sub_self, Nat.reduceAdd, Nat.reduceSub, Nat.zero_add, put_put, put_same, reduceIte, Bool.false_eq_true, Bool.true_eq_false, Bool.not_true, Bool.not_false, at_0, at_1, at_2, at_3, at_4, at_5, at_6, at_7, ix_1_0, ix_2_0, ix_2_1, ix_3_0, ix_3_1, ix_3_2, ix_4_0, ix_4_1, ix_4_2, ix_4_3]
        refine ⟨p12.pool, Pn.of (by decide) (by decide), fun y S3 y0 y1 p3 => ?_⟩
        refine ⟨p3.pool, Pn.of (by decide) (by decide), fun z S4' z0 z1 p4 => ?_⟩
        have py : Pn 10 (1 + y) := Pn.of (by omega) (by omega)
        have pz : Pn 10 (1 + z) := Pn.of (by omega) (by omega)
        have fl := Fr.low py pz
        simp only [sp_l_low, frT, sp_l_mul, rCallOwn, iZipT, kMaxT, rRevT, rDix2, sFrzV, sDrp, rSlC, rDget2, sSeq, sAsg, sDrop, sRet, sRetN, sIf, sNext, sPar, sPar3, sFor, sRaise, sFldT, sNo, rNo, rVar, rFrz, rC, rBin, rTest, bAnd, bOr, bNot, bIf, vAnd, vOr, vNot, rIf, rNeg, aNil, aCons, rTup, rLst, rLstC, rArgs, gNameT, gNilT, gConsT, gTupT, gSubT, iSeq, iRng1T, iRng2T, rLc, rCall, rCallN, rCallS, rFld, rCon, rMake, rMakeN, rMakeP, rMeth, rMethK, rProp, rClsFn, rOpOwn, rSl, oNone, oSome, rFmt, kFmt, rJs, rLidx, rChain, rTru, truT, rStr0, rPart, rSplit, kIntS, gStarT, kStrOwn, kAddC, rDct, kInt1, iEnumT, rMakeStar, rJoin, iZipM, iSeqH, iEnumL, rLc2, rTruC, rLcP, kLenOwn, kBoolOwn, rCMeth, rClsStar, rClsMake, rLz, rRevL, rRev2, rCMethK, rExcV, rMut, kAdd, kI2, kI2n, kMul, kIx, kIn, kLen, kU, kA2, kDm, kStrI, kAll, kSl, kAppend, kExtend, kTuple, kList, lenT, seqOf, bYes, startT, one, pickG, selG, insOf, putT, flatT, Bool.false_xor, Bool.true_xor, List.all_cons, List.all_nil, Bool.and_self, T.int.injEq, T.bl.injEq, T.str.injEq, T.lst.injEq, T.tup.injEq, T.cell.injEq, T.ins.injEq, Cell.lst.injEq, Cell.ins.injEq, Prod.mk.injEq, List.cons.injEq, Option.some.injEq, List.map_cons, List.map_nil, List.length_cons, List.length_nil, List.cons_append, List.nil_append, List.append_nil, List.getElem?_cons_zero, List.getElem?_cons_succ, List.set_cons_zero, List.set_cons_succ, List.replicate_succ, List.replicate_zero, exists_eq_left, exists_eq_left', exists_and_left, and_true, true_and, and_self, and_assoc, Nat.sub_self, Nat.reduceAdd, Nat.reduceSub, Nat.zero_add, put_put, put_same, reduceIte, Bool.false_eq_true, Bool.true_eq_false, Bool.not_true, Bool.not_false, at_0, at_1, at_2, at_3, at_4, at_5, at_6, at_7, ix_1_0, ix_2_0, ix_2_1, ix_3_0, ix_3_1, ix_3_2, ix_4_0, ix_4_1, ix_4_2, ix_4_3]
        refine ⟨py.up (by decide), pz.pos, f1.a.up (by decide), f1.b.up (by decide), fl.a.up (by decide), fl.b.up (by decide), by decide, ?_⟩
        exact q ⟨_, _, a, b⟩ _ ⟨(Fr.low (f1.a.mul fl.a) (f1.b.mul fl.b)).up (by decide), f1.up (by decide)⟩ ((p12.trans p3).trans p4)
      · simp only [sp_l_part, rCallOwn, iZipT, kMaxT, rRevT, rDix2, sFrzV, sDrp, rSlC, rDget2, sSeq, sAsg, sDrop, sRet, sRetN, sIf, sNext, sPar, sPar3, sFor, sRaise, sFldT, sNo, rNo, rVar, rFrz, rC, rBin, rTest, bAnd, bOr, bNot, bIf, vAnd, vOr, vNot, rIf, rNeg, aNil, aCons, rTup, rLst, rLstC, rArgs, gNameT, gNilT, gConsT, gTupT, gSubT, iSeq, iRng1T, iRng2T, rLc, rCall, rCallN, rCallS, rFld, rCon, rMake, rMakeN, rMakeP, rMeth, rMethK, rProp, rClsFn, rOpOwn, rSl, oNone, oSome, rFmt, kFmt, rJs, rLidx, rChain, rTru, truT, rStr0, rPart, rSplit, kIntS, gStarT, kStrOwn, kAddC, rDct, kInt1, iEnumT, rMakeStar, rJoin, iZipM, iSeqH, iEnumL, rLc2, rTruC, rLcP, kLenOwn, kBoolOwn, rCMeth, rClsStar, rClsMake, rLz, rRevL, rRev2, rCMethK, rExcV, rMut, kAdd, kI2, kI2n, kMul, kIx, kIn, kLen, kU, kA2, kDm, kStrI, kAll, kSl, kAppend, kExtend, kTuple, kList, lenT, seqOf, bYes, startT, one, pickG, selG, insOf, putT, flatT, Bool.false_xor, Bool.true_xor, List.all_cons, List.all_nil, Bool.and_self, T.int.injEq, T.bl.injEq, T.str.injEq, T.lst.injEq, T.tup.injEq, T.cell.injEq, T.ins.injEq, Cell.lst.injEq, Cell.ins.injEq, Prod.mk.injEq, List.cons.injEq, Option.some.injEq, List.map_cons, List.map_nil, List.length_cons, List.length_nil, List.cons_append, List.nil_append, List.append_nil, List.getElem?_cons_zero, List.getElem?_cons_succ, List.set_cons_zero, List.set_cons_succ, List.replicate_succ, List.replicate_zero, exists_eq_left, exists_eq_left', exists_and_left, and_true, true_and, and_self, and_assoc, Nat.sub_self, Nat.reduceAdd, Nat.reduceSub, Nat.zero_add, put_put, put_same, reduceIte, Bool.false_eq_true, Bool.true_eq_false, Bool.not_true, Bool.not_false, at_0, at_1, at_2, at_3, at_4, at_5, at_6, at_7, ix_1_0, ix_2_0, ix_2_1, ix_3_0, ix_3_1, ix_3_2, ix_4_0, ix_4_1, ix_4_2, ix_4_3]
        refine ⟨p12.pool, fun c d S3 f2 p3 => ⟨by decide, ?_⟩⟩
        exact q ⟨a, b, c, d⟩ _ ⟨f1.up (by decide), f2.up (by decide)⟩ (p12.trans p3)
  · exact h.elim
/-! sizes as rationals -/
def rv (a b : Int) : Rat := (a : Rat) / (b : Rat)
open TL (numL)
/-- the text of a size -/
def szS (a b c d : Int) : Str := (frS a b ++ "x") ++ frS c d
theorem ex_S : ("x" : Str) = SX.S [120] := by decide +kernel
theorem szS_S {a b c d : Int} (f : Fr 8000 a b) (g : Fr 8000 c d) : szS a b c d = SX.S (frL a b ++ 120 :: frL c d) := by
  have h1 := f.a.pos
  have h2 := f.b.pos
  have h3 := g.a.pos
  have h4 := g.b.pos
  unfold szS
  rw [frS_S (by omega) (by omega), frS_S (by omega) (by omega), ex_S, SX.S_cat, SX.S_cat, List.append_assoc]
  rfl
theorem szS_len {a b c d : Int} (f : Fr 8000 a b) (g : Fr 8000 c d) : (szS a b c d).length ≤ 9639 := by
  have l1 := frS_len f
  have l2 := frS_len g
  have lx : ("x" : Str).length = 1 := by decide
  unfold szS
  rw [sLen0, sLen0, lx]
  omega
/-- two fractions as data -/
theorem fr_dat {a b : Int} : (frT a b).dat = some (.tuple [.int a, .int b]) := by simp [frT, T.dat, T.datL]
theorem fr_shaped {a b : Int} : SeqAt.shaped (.tuple [.int a, .int b]) = true := by simp [SeqAt.shaped, PyData.canLay0, PyData.canLayAll0, PyData.depth, PyData.depthAll]
theorem eq_fr {a b c d : Int} {ng : Bool} {S : Store} {R : T → Store → Prop} {RE : XT} (q : R (.bl (ng ^^ decide (a = c ∧ b = d))) S) : kEqG ng (frT a b) (frT c d) S R RE := by
  refine .inr ⟨_, _, fr_dat, fr_dat, fr_shaped, fr_shaped, ?_⟩
  have e : PyData.eqv (.tuple [.int a, .int b]) (.tuple [.int c, .int d]) = decide (a = c ∧ b = d) := by
    simp only [PyData.eqv, PyData.eqvAll, Bool.and_true, Bool.decide_and]
    congr 1 <;> exact (beq_eq_decide ..)
  rw [e]
  exact q
def S4.same (s t : S4) : Bool := decide (s.a = t.a ∧ s.b = t.b) && decide (s.c = t.c ∧ s.d = t.d)
def S4.str (s : S4) : Str := szS s.a s.b s.c s.d
theorem S4.str_len {s : S4} (o : s.ok 8000) : s.str.length ≤ 9639 := szS_len o.w o.h
/-- what a reading of a size's text is -/
theorem sz_parts {p q : List Nat} (h : 120 ∉ p) {s : S4} (o : s.ok 8000) (e : SX.S (p ++ 120 :: q) = s.str) : SX.S p = frS s.a s.b ∧ SX.S q = frS s.c s.d := by
  have h1 := o.w.a.pos
  have h2 := o.w.b.pos
  have h3 := o.h.a.pos
  have h4 := o.h.b.pos
  unfold S4.str at e
  rw [szS_S o.w o.h] at e
  obtain ⟨e1, e2⟩ := cut_inj h (frL_free (.inr (by decide))) (SX.S_inj e)
  rw [e1, e2]
  exact ⟨(frS_S (by omega) (by omega)).symm, (frS_S (by omega) (by omega)).symm⟩
theorem sz_join {p q : List Nat} {a b c d : Int} (e1 : SX.S p = frS a b) (e2 : SX.S q = frS c d) : SX.S (p ++ 120 :: q) = szS a b c d := by
  unfold szS
  rw [← e1, ← e2, ex_S, SX.S_cat, SX.S_cat, List.append_assoc]
  rfl
theorem sz_has {l : List Nat} {s : S4} (o : s.ok 8000) (e : SX.S l = s.str) : 120 ∈ l := by
  unfold S4.str at e
  rw [szS_S o.w o.h] at e
  rw [SX.S_inj e]
  simp
def FindZ (C : Addr) (z : Str) (R : T → Store → Prop) (S : Store) (N : Prop) : Prop := (∃ s : S4, s.ok 8000 ∧ z = s.str ∧ R (s.t C) S) ∨ ((∀ s : S4, s.ok 8000 → z ≠ s.str) ∧ N)
theorem sc_Size_str : FnScope ["self"] ["self"] (defScope s_Size_str) := ⟨rfl, rfl, rfl, by decide +kernel, rfl, by decide +kernel, by decide +kernel⟩
def sp_Size_str (C : Addr) : SpT := fun ts S R _ => match ts with
  | [x] => ∃ s : S4, x = s.t C ∧ s.ok 8000 ∧ R (.str s.str) S
  | _ => False
theorem ok_Size_str {P : Program} {w : World} {K : PySem.W.Frag} {mg : Str → Option Value} {base : Heap} {f : Addr} {fd : FuncData} {g_format_fraction C_Size : Addr} {gd_format_fraction : FuncData} (F : Fun K "__str__" "Size.__str__" s_Size_str f fd)
    (G_format_fraction : FnT P w K mg base 5 g_format_fraction gd_format_fraction ["number"] (sp_format_fraction K))
    (m_format_fraction : mg "format_fraction" = some (.ref g_format_fraction))
    (k_format_fraction : PySem.W.keepIn K (.ref g_format_fraction) = true)
    (b_format_fraction : Binds K gd_format_fraction ["number"] [])
    (nf_Size_width : InF K C_Size "width")
    (nf_Size_height : InF K C_Size "height")
    : FnT P w K mg base 6 f fd ["self"] (sp_Size_str C_Size) := by
  refine okT F sc_Size_str (by intro ts S R RE h; unfold sp_Size_str at h; split at h <;> first | rfl | exact h.elim) (fun cdv A out s H E hg hr => (bs_one (ss_ret (et_joined (EJ.cons (et_fmt (et_callD G_format_fraction hg (hr.mono (by decide)) (by rfl) m_format_fraction k_format_fraction (CallD.all b_format_fraction) (passL2N (L2N.takes_of rfl rfl rfl rfl)) (at_cons (et_fldK K rfl (et_var (pv 0))) at_nil))) (EJ.cons et_str (EJ.cons (et_fmt (et_callD G_format_fraction hg (hr.mono (by decide)) (by rfl) m_format_fraction k_format_fraction (CallD.all b_format_fraction) (passL2N (L2N.takes_of rfl rfl rfl rfl)) (at_cons (et_fldK K rfl (et_var (pv 0))) at_nil))) EJ.nil))))))) ?_
  intro ts S R RE h
  unfold sp_Size_str at h
  split at h
  · rename_i x
    obtain ⟨s, rfl, o, q⟩ := h
    have l1 := frS_len o.w
    have l2 := frS_len o.h
    have lx : ("x" : Str).length = 1 := by decide
    unfold S4.t
    simp only [szT, szF_w, szF_h, sp_format_fraction, sEmp, sRet, rVar, rC, aNil, aCons, rCall, rFld, rFmt, kFmt, rJs, startT, insOf, T.str.injEq, Prod.mk.injEq, Option.some.injEq, List.map_cons, List.map_nil, List.length_cons, List.length_nil, List.append_nil, List.getElem?_cons_zero, List.replicate_zero, exists_eq_left', exists_and_left, and_assoc, Nat.sub_self, Nat.zero_add]
    refine ⟨nf_Size_width, _, _, rfl, o.w, ?_⟩
    have e1 : (frS s.a s.b).length ≤ sizeLine := by rw [sizeLine_eq]; omega
    have e2 : (frS s.a s.b ++ "x").length ≤ sizeLine := by rw [sizeLine_eq, sLen0, lx]; omega
    have e3 : ((frS s.a s.b ++ "x") ++ frS s.c s.d).length ≤ sizeLine := by rw [sizeLine_eq, sLen0, sLen0, lx]; omega
    have e4 : (frS s.c s.d).length ≤ sizeLine := by rw [sizeLine_eq]; omega
    exact ⟨e1, e1, e2, nf_Size_height, _, _, rfl, o.h, e4, e3, q⟩
  · exact h.elim
theorem sc_Size_repr : FnScope ["self"] ["self"] (defScope s_Size_repr) := ⟨rfl, rfl, rfl, by decide +kernel, rfl, by decide +kernel, by decide +kernel⟩
/-- the text of a size, as repr shows it -/
def S4.rep (s : S4) : Str := ("Size(" ++ s.str) ++ ")"
def sp_Size_repr (C : Addr) : SpT := fun ts S R _ => match ts with
  | [x] => ∃ s : S4, x = s.t C ∧ s.ok 8000 ∧ R (.str s.rep) S
  | _ => False
theorem ok_Size_repr {P : Program} {w : World} {K : PySem.W.Frag} {mg : Str → Option Value} {base : Heap} {f : Addr} {fd : FuncData} {g_Size_str C_Size : Addr} {gd_Size_str : FuncData} (F : Fun K "__repr__" "Size.__repr__" s_Size_repr f fd)
    (n_str : mg "str" = none)
    (G_Size_str : FnT P w K mg base 6 g_Size_str gd_Size_str ["self"] (sp_Size_str C_Size))
    (b_Size_str : Binds K gd_Size_str ["self"] [])
    (od_Size_str : OwnDef K C_Size "__str__" g_Size_str)
    : FnT P w K mg base 9 f fd ["self"] (sp_Size_repr C_Size) := by
  refine okT F sc_Size_repr (by intro ts S R RE h; unfold sp_Size_repr at h; split at h <;> first | rfl | exact h.elim) (fun cdv A out s H E hg hr => (bs_one (ss_ret (et_joined (EJ.cons et_str (EJ.cons (et_fmt (et_typ (strOwnT (StrD.one od_Size_str G_Size_str (hr.mono (by decide)) b_Size_str) hg) cv_strOwn (by rfl) n_str PyProof.Rows.boot_str (at_cons (et_var (pv 0)) at_nil))) (EJ.cons et_str EJ.nil))))))) ?_
  intro ts S R RE h
  unfold sp_Size_repr at h
  split at h
  · rename_i x
    obtain ⟨s, rfl, o, q⟩ := h
    have l1 := S4.str_len o
    have l2 : ("Size(" : Str).length = 5 := by decide
    have l3 : (")" : Str).length = 1 := by decide
    have e1 : ("Size(" : Str).length ≤ sizeLine := by rw [sizeLine_eq]; omega
    have e2 : ("Size(" ++ s.str).length ≤ sizeLine := by rw [sizeLine_eq, sLen0, l2]; omega
    have e3 : (("Size(" ++ s.str) ++ ")").length ≤ sizeLine := by rw [sizeLine_eq, sLen0, sLen0, l2, l3]; omega
    simp only [sEmp, sp_Size_str, sRet, rVar, rC, aNil, aCons, rArgs, rFmt, kFmt, rJs, kStrOwn, startT, one, insOf, T.str.injEq, List.cons.injEq, Option.some.injEq, List.map_cons, List.map_nil, List.length_cons, List.length_nil, List.append_nil, List.getElem?_cons_zero, List.replicate_zero, exists_eq_left, exists_eq_left', exists_and_left, and_true, and_assoc, Nat.sub_self, Nat.zero_add]
    refine ⟨e1, C_Size, _, rfl, rfl, s, rfl, o, ⟨_, rfl⟩, ?_⟩
    exact ⟨by rw [sizeLine_eq]; omega, e2, e3, q⟩
  · exact h.elim
theorem sc_Size_read : FnScope ["cls", "text", "parts", "width", "height"] ["cls", "text"] (defScope s_Size_read) := ⟨rfl, rfl, rfl, by decide +kernel, rfl, by decide +kernel, by decide +kernel⟩
def sp_Size_read (K : PySem.W.Frag) (C CE : Addr) : SpT := fun ts S R RE => match ts with
  | [.st C', x] => C' = C ∧ ((∃ z, x = .str z ∧ z.length ≤ 2400 ∧ FindZ C z R S (RE CE [("value", x)] S)) ∨ (ValT K S x ∧ isK x "str" = false ∧ RE CE [("value", x)] S))
  | _ => False
theorem ok_Size_read {P : Program} {w : World} {K : PySem.W.Frag} {mg : Str → Option Value} {base : Heap} {f : Addr} {fd : FuncData} {g_Size_init C_Size C_InvalidFraction C_InvalidText fI_InvalidText g_find_fraction : Addr} {gd_Size_init : FuncData} {gd_find_fraction : FuncData} (F : Fun K "read" "Size.read" s_Size_read f fd)
    (n_isinstance : mg "isinstance" = none)
    (n_str : mg "str" = none)
    (G_Size_init : FnT P w K mg base 6 g_Size_init gd_Size_init ["self", "width", "height"] (sp_Size_init K C_Size C_InvalidFraction))
    (b_Size_init : Binds K gd_Size_init ["self", "width", "height"] [])
    (Z_InvalidText : EvTxt K C_InvalidText fI_InvalidText "InvalidText.__init__")
    (m_InvalidText : mg "InvalidText" = some (.ref C_InvalidText))
    (G_find_fraction : FnT P w K mg base 6 g_find_fraction gd_find_fraction ["text"] (sp_find_fraction K))
    (m_find_fraction : mg "find_fraction" = some (.ref g_find_fraction))
    (k_find_fraction : PySem.W.keepIn K (.ref g_find_fraction) = true)
    (b_find_fraction : Binds K gd_find_fraction ["text"] [])
    (M_Size : Mk K C_Size g_Size_init)
    : FnT P w K mg base 8 f fd ["cls", "text"] (sp_Size_read K C_Size C_InvalidText) := by
  refine okT F sc_Size_read (by intro ts S R RE h; unfold sp_Size_read at h; split at h <;> first | rfl | exact h.elim) (fun cdv A out s H E hg hr => (bs_cons (ss_if (tt_not (tt_val (et_blt call_isiY (cv_isi (K := K)) (by rfl) n_isinstance PyProof.Rows.boot_isinstance (at_cons (et_var (pv 1)) (at_cons (et_blty (by rfl) n_str PyProof.Rows.boot_str) at_nil))))) (bs_one (ss_raise Z_InvalidText rfl m_InvalidText hr (L2N.takes_of rfl rfl rfl rfl) (hg := by rfl) (at_cons (et_var (pv 1)) at_nil))) bs_nil)
    (bs_cons (ss_set (i := 2) sc_Size_read.nd rfl (by first | exact Or.inl rfl | exact Or.inr rfl) (et_partition (et_var (pv 1)) et_str))
    (bs_cons (ss_set (i := 3) sc_Size_read.nd rfl (by first | exact Or.inl rfl | exact Or.inr rfl) (et_callD G_find_fraction hg (hr.mono (by decide)) (by rfl) m_find_fraction k_find_fraction (CallD.all b_find_fraction) (passL2N (L2N.takes_of rfl rfl rfl rfl)) (at_cons (et_ix ix_seq cv_ix (et_var (pv 2)) et_int (fun _ _ => rfl)) at_nil)))
    (bs_cons (ss_set (i := 4) sc_Size_read.nd rfl (by first | exact Or.inl rfl | exact Or.inr rfl) (et_callD G_find_fraction hg (hr.mono (by decide)) (by rfl) m_find_fraction k_find_fraction (CallD.all b_find_fraction) (passL2N (L2N.takes_of rfl rfl rfl rfl)) (at_cons (et_ix ix_seq cv_ix (et_var (pv 2)) et_int (fun _ _ => rfl)) at_nil)))
    (bs_cons (ss_if (tt_w (tw_or (tt_cmp op_isN cv_isN (et_var (pv 3)) et_non (nomark _)) (tw_or1 (tt_cmp op_isN cv_isN (et_var (pv 4)) et_non (nomark _))))) (bs_one (ss_raise Z_InvalidText rfl m_InvalidText hr (L2N.takes_of rfl rfl rfl rfl) (hg := by rfl) (at_cons (et_var (pv 1)) at_nil))) bs_nil)
    (bs_one (ss_ret (et_clsMake (i := 0) M_Size G_Size_init hg (hr.mono (by decide)) (by rfl) (by first | exact .inl rfl | exact .inr (.inl rfl)) (CallD.all b_Size_init) (passL2N (L2N.takes_of rfl rfl rfl rfl)) (at_cons (et_var (pv 3)) (at_cons (et_var (pv 4)) at_nil))))))))))) ?_
  intro ts S R RE h
  unfold sp_Size_read at h
  split at h
  · rename_i C' x
    obtain ⟨rfl, ⟨z, rfl, hz, q⟩ | ⟨v, ns, q⟩⟩ := h
    rotate_left
    · refine sSeq_i fun N hN => ?_
      simp only [rCallOwn, iZipT, kMaxT, rRevT, rDix2, sFrzV, sDrp, rSlC, rDget2, sSeq, sAsg, sDrop, sRet, sRetN, sIf, sNext, sPar, sPar3, sFor, sRaise, sFldT, sNo, rNo, rVar, rFrz, rC, rBin, rTest, bAnd, bOr, bNot, bIf, vAnd, vOr, vNot, rIf, rNeg, aNil, aCons, rTup, rLst, rLstC, rArgs, gNameT, gNilT, gConsT, gTupT, gSubT, iSeq, iRng1T, iRng2T, rLc, rCall, rCallN, rCallS, rFld, rCon, rMake, rMakeN, rMakeP, rMeth, rMethK, rProp, rClsFn, rOpOwn, rSl, oNone, oSome, rFmt, kFmt, rJs, rLidx, rChain, rTru, truT, rStr0, rPart, rSplit, kIntS, gStarT, kStrOwn, kAddC, rDct, kInt1, iEnumT, rMakeStar, rJoin, iZipM, iSeqH, iEnumL, rLc2, rTruC, rLcP, kLenOwn, kBoolOwn, rCMeth, rClsStar, rClsMake, rLz, rRevL, rRev2, rCMethK, rExcV, rMut, kAdd, kI2, kI2n, kMul, kIx, kIn, kLen, kU, kA2, kDm, kStrI, kAll, kSl, kAppend, kExtend, kTuple, kList, lenT, seqOf, bYes, startT, one, pickG, selG, insOf, putT, flatT, Bool.false_xor, Bool.true_xor, List.all_cons, List.all_nil, Bool.and_self, T.int.injEq, T.bl.injEq, T.str.injEq, T.lst.injEq, T.tup.injEq, T.cell.injEq, T.ins.injEq, Cell.lst.injEq, Cell.ins.injEq, Prod.mk.injEq, List.cons.injEq, Option.some.injEq, List.map_cons, List.map_nil, List.length_cons, List.length_nil, List.cons_append, List.nil_append, List.append_nil, List.getElem?_cons_zero, List.getElem?_cons_succ, List.set_cons_zero, List.set_cons_succ, List.replicate_succ, List.replicate_zero, exists_eq_left, exists_eq_left', exists_and_left, and_true, true_and, and_self, and_assoc, Nat.sub_self, Nat.reduceAdd, Nat.reduceSub, Nat.zero_add, put_put, put_same, reduceIte, Bool.false_eq_true, Bool.true_eq_false, Bool.not_true, Bool.not_false, at_0, at_1, at_2, at_3, at_4, at_5, at_6, at_7, ix_1_0, ix_2_0, ix_2_1, ix_3_0, ix_3_1, ix_3_2, ix_4_0, ix_4_1, ix_4_2, ix_4_3]
      refine v.is (n := "str") (by decide) ⟨_, rfl, ?_⟩
      rw [ns, if_pos (by decide)]
      exact q
    have ez : z = SX.S z.cps.toList := (SX.S_tl z).symm
    generalize hl : z.cps.toList = l at ez
    subst ez
    rw [SX.S_len] at hz
    have ls : (SX.S l).length ≤ sizeLine := by rw [SX.S_len, sizeLine_eq]; omega
    refine sSeq_i fun N hN => ?_
    simp only [rCallOwn, iZipT, kMaxT, rRevT, rDix2, sFrzV, sDrp, rSlC, rDget2, sSeq, sAsg, sDrop, sRet, sRetN, sIf, sNext, sPar, sPar3, sFor, sRaise, sFldT, sNo, rNo, rVar, rFrz, rC, rBin, rTest, bAnd, bOr, bNot, bIf, vAnd, vOr, vNot, rIf, rNeg, aNil, aCons, rTup, rLst, rLstC, rArgs, gNameT, gNilT, gConsT, gTupT, gSubT, iSeq, iRng1T, iRng2T, rLc, rCall, rCallN, rCallS, rFld, rCon, rMake, rMakeN, rMakeP, rMeth, rMethK, rProp, rClsFn, rOpOwn, rSl, oNone, oSome, rFmt, kFmt, rJs, rLidx, rChain, rTru, truT, rStr0, rPart, rSplit, kIntS, gStarT, kStrOwn, kAddC, rDct, kInt1, iEnumT, rMakeStar, rJoin, iZipM, iSeqH, iEnumL, rLc2, rTruC, rLcP, kLenOwn, kBoolOwn, rCMeth, rClsStar, rClsMake, rLz, rRevL, rRev2, rCMethK, rExcV, rMut, kAdd, kI2, kI2n, kMul, kIx, kIn, kLen, kU, kA2, kDm, kStrI, kAll, kSl, kAppend, kExtend, kTuple, kList, lenT, seqOf, bYes, startT, one, pickG, selG, insOf, putT, flatT, Bool.false_xor, Bool.true_xor, List.all_cons, List.all_nil, Bool.and_self, T.int.injEq, T.bl.injEq, T.str.injEq, T.lst.injEq, T.tup.injEq, T.cell.injEq, T.ins.injEq, Cell.lst.injEq, Cell.ins.injEq, Prod.mk.injEq, List.cons.injEq, Option.some.injEq, List.map_cons, List.map_nil, List.length_cons, List.length_nil, List.cons_append, List.nil_append, List.append_nil, List.getElem?_cons_zero, List.getElem?_cons_succ, List.set_cons_zero, List.set_cons_succ, List.replicate_succ, List.replicate_zero, exists_eq_left, exists_eq_left', exists_and_left, and_true, true_and, and_self, and_assoc, Nat.sub_self, Nat.reduceAdd, Nat.reduceSub, Nat.zero_add, put_put, put_same, reduceIte, Bool.false_eq_true, Bool.true_eq_false, Bool.not_true, Bool.not_false, at_0, at_1, at_2, at_3, at_4, at_5, at_6, at_7, ix_1_0, ix_2_0, ix_2_1, ix_3_0, ix_3_1, ix_3_2, ix_4_0, ix_4_1, ix_4_2, ix_4_3]
    refine isStr0 ⟨true, rfl, ?_⟩
    rw [if_neg (by decide)]
    refine hN _ _ ?_
    clear hN
    refine sSeq_i fun N hN => ?_
    simp only [rCallOwn, iZipT, kMaxT, rRevT, rDix2, sFrzV, sDrp, rSlC, rDget2, sSeq, sAsg, sDrop, sRet, sRetN, sIf, sNext, sPar, sPar3, sFor, sRaise, sFldT, sNo, rNo, rVar, rFrz, rC, rBin, rTest, bAnd, bOr, bNot, bIf, vAnd, vOr, vNot, rIf, rNeg, aNil, aCons, rTup, rLst, rLstC, rArgs, gNameT, gNilT, gConsT, gTupT, gSubT, iSeq, iRng1T, iRng2T, rLc, rCall, rCallN, rCallS, rFld, rCon, rMake, rMakeN, rMakeP, rMeth, rMethK, rProp, rClsFn, rOpOwn, rSl, oNone, oSome, rFmt, kFmt, rJs, rLidx, rChain, rTru, truT, rStr0, rPart, rSplit, kIntS, gStarT, kStrOwn, kAddC, rDct, kInt1, iEnumT, rMakeStar, rJoin, iZipM, iSeqH, iEnumL, rLc2, rTruC, rLcP, kLenOwn, kBoolOwn, rCMeth, rClsStar, rClsMake, rLz, rRevL, rRev2, rCMethK, rExcV, rMut, kAdd, kI2, kI2n, kMul, kIx, kIn, kLen, kU, kA2, kDm, kStrI, kAll, kSl, kAppend, kExtend, kTuple, kList, lenT, seqOf, bYes, startT, one, pickG, selG, insOf, putT, flatT, Bool.false_xor, Bool.true_xor, List.all_cons, List.all_nil, Bool.and_self, T.int.injEq, T.bl.injEq, T.str.injEq, T.lst.injEq, T.tup.injEq, T.cell.injEq, T.ins.injEq, Cell.lst.injEq, Cell.ins.injEq, Prod.mk.injEq, List.cons.injEq, Option.some.injEq, List.map_cons, List.map_nil, List.length_cons, List.length_nil, List.cons_append, List.nil_append, List.append_nil, List.getElem?_cons_zero, List.getElem?_cons_succ, List.set_cons_zero, List.set_cons_succ, List.replicate_succ, List.replicate_zero, exists_eq_left, exists_eq_left', exists_and_left, and_true, true_and, and_self, and_assoc, Nat.sub_self, Nat.reduceAdd, Nat.reduceSub, Nat.zero_add, put_put, put_same, reduceIte, Bool.false_eq_true, Bool.true_eq_false, Bool.not_true, Bool.not_false, at_0, at_1, at_2, at_3, at_4, at_5, at_6, at_7, ix_1_0, ix_2_0, ix_2_1, ix_3_0, ix_3_1, ix_3_2, ix_4_0, ix_4_1, ix_4_2, ix_4_3]
    refine ⟨by decide, ls, ?_⟩
    rcases split1 120 l with no | ⟨p, r, rfl, np⟩
    · rw [show Txt.partition (SX.S l) "x" = (SX.S l, SX.S [], SX.S []) by rw [ex_S]; exact SX.partition_none (by simp) (SX.par_head_none no)]
      refine hN _ _ ?_
      clear hN
      have q : RE C_InvalidText [("value", .str (SX.S l))] S := by
        rcases q with ⟨s, o, e, _⟩ | ⟨_, q⟩
        · exact absurd (sz_has o e) no
        · exact q
      have none_ : ∀ R' : T → Store → Prop, R' .non S → FindR (SX.S []) R' S := fun R' k => .inr ⟨fun a b f e => by
        have h1 := f.a.pos
        have h2 := f.b.pos
        rw [frS_S (by omega) (by omega)] at e
        have := SX.S_inj e
        unfold frL at this
        split at this
        · exact TL.numL_ne _ this.symm
        · simp at this, k⟩
      refine sSeq_i fun N hN => ?_
      simp only [sp_find_fraction, rCallOwn, iZipT, kMaxT, rRevT, rDix2, sFrzV, sDrp, rSlC, rDget2, sSeq, sAsg, sDrop, sRet, sRetN, sIf, sNext, sPar, sPar3, sFor, sRaise, sFldT, sNo, rNo, rVar, rFrz, rC, rBin, rTest, bAnd, bOr, bNot, bIf, vAnd, vOr, vNot, rIf, rNeg, aNil, aCons, rTup, rLst, rLstC, rArgs, gNameT, gNilT, gConsT, gTupT, gSubT, iSeq, iRng1T, iRng2T, rLc, rCall, rCallN, rCallS, rFld, rCon, rMake, rMakeN, rMakeP, rMeth, rMethK, rProp, rClsFn, rOpOwn, rSl, oNone, oSome, rFmt, kFmt, rJs, rLidx, rChain, rTru, truT, rStr0, rPart, rSplit, kIntS, gStarT, kStrOwn, kAddC, rDct, kInt1, iEnumT, rMakeStar, rJoin, iZipM, iSeqH, iEnumL, rLc2, rTruC, rLcP, kLenOwn, kBoolOwn, rCMeth, rClsStar, rClsMake, rLz, rRevL, rRev2, rCMethK, rExcV, rMut, kAdd, kI2, kI2n, kMul, kIx, kIn, kLen, kU, kA2, kDm, kStrI, kAll, kSl, kAppend, kExtend, kTuple, kList, lenT, seqOf, bYes, startT, one, pickG, selG, insOf, putT, flatT, Bool.false_xor, Bool.true_xor, List.all_cons, List.all_nil, Bool.and_self, T.int.injEq, T.bl.injEq, T.str.injEq, T.lst.injEq, T.tup.injEq, T.cell.injEq, T.ins.injEq, Cell.lst.injEq, Cell.ins.injEq, Prod.mk.injEq, List.cons.injEq, Option.some.injEq, List.map_cons, List.map_nil, List.length_cons, List.length_nil, List.cons_append, List.nil_append, List.append_nil, List.getElem?_cons_zero, List.getElem?_cons_succ, List.set_cons_zero, List.set_cons_succ, List.replicate_succ, List.replicate_zero, exists_eq_left, exists_eq_left', exists_and_left, and_true, true_and, and_self, and_assoc, Nat.sub_self, Nat.reduceAdd, Nat.reduceSub, Nat.zero_add, put_put, put_same, reduceIte, Bool.false_eq_true, Bool.true_eq_false, Bool.not_true, Bool.not_false, at_0, at_1, at_2, at_3, at_4, at_5, at_6, at_7, ix_1_0, ix_2_0, ix_2_1, ix_3_0, ix_3_1, ix_3_2, ix_4_0, ix_4_1, ix_4_2, ix_4_3]
      have two : ∀ R' : T → Store → Prop, (∀ t, R' t S) → FindR (SX.S l) R' S := fun R' k => by
        by_cases w : ∃ a b, Fr 8000 a b ∧ SX.S l = frS a b
        · obtain ⟨a, b, f, e⟩ := w
          exact .inl ⟨a, b, f, e, k _⟩
        · exact .inr ⟨fun a b f e => w ⟨a, b, f, e⟩, k _⟩
      refine .inl ⟨by rw [SX.S_len]; exact hz, two _ fun t => hN _ _ ?_⟩
      clear hN
      refine sSeq_i fun N hN => ?_
      simp only [sp_find_fraction, rCallOwn, iZipT, kMaxT, rRevT, rDix2, sFrzV, sDrp, rSlC, rDget2, sSeq, sAsg, sDrop, sRet, sRetN, sIf, sNext, sPar, sPar3, sFor, sRaise, sFldT, sNo, rNo, rVar, rFrz, rC, rBin, rTest, bAnd, bOr, bNot, bIf, vAnd, vOr, vNot, rIf, rNeg, aNil, aCons, rTup, rLst, rLstC, rArgs, gNameT, gNilT, gConsT, gTupT, gSubT, iSeq, iRng1T, iRng2T, rLc, rCall, rCallN, rCallS, rFld, rCon, rMake, rMakeN, rMakeP, rMeth, rMethK, rProp, rClsFn, rOpOwn, rSl, oNone, oSome, rFmt, kFmt, rJs, rLidx, rChain, rTru, truT, rStr0, rPart, rSplit, kIntS, gStarT, kStrOwn, kAddC, rDct, kInt1, iEnumT, rMakeStar, rJoin, iZipM, iSeqH, iEnumL, rLc2, rTruC, rLcP, kLenOwn, kBoolOwn, rCMeth, rClsStar, rClsMake, rLz, rRevL, rRev2, rCMethK, rExcV, rMut, kAdd, kI2, kI2n, kMul, kIx, kIn, kLen, kU, kA2, kDm, kStrI, kAll, kSl, kAppend, kExtend, kTuple, kList, lenT, seqOf, bYes, startT, one, pickG, selG, insOf, putT, flatT, Bool.false_xor, Bool.true_xor, List.all_cons, List.all_nil, Bool.and_self, T.int.injEq, T.bl.injEq, T.str.injEq, T.lst.injEq, T.tup.injEq, T.cell.injEq, T.ins.injEq, Cell.lst.injEq, Cell.ins.injEq, Prod.mk.injEq, List.cons.injEq, Option.some.injEq, List.map_cons, List.map_nil, List.length_cons, List.length_nil, List.cons_append, List.nil_append, List.append_nil, List.getElem?_cons_zero, List.getElem?_cons_succ, List.set_cons_zero, List.set_cons_succ, List.replicate_succ, List.replicate_zero, exists_eq_left, exists_eq_left', exists_and_left, and_true, true_and, and_self, and_assoc, Nat.sub_self, Nat.reduceAdd, Nat.reduceSub, Nat.zero_add, put_put, put_same, reduceIte, Bool.false_eq_true, Bool.true_eq_false, Bool.not_true, Bool.not_false, at_0, at_1, at_2, at_3, at_4, at_5, at_6, at_7, ix_1_0, ix_2_0, ix_2_1, ix_3_0, ix_3_1, ix_3_2, ix_4_0, ix_4_1, ix_4_2, ix_4_3]
      refine .inl ⟨by decide, none_ _ (hN _ _ ?_)⟩
      clear hN
      refine sSeq_i fun N hN => ?_
      simp only [rCallOwn, iZipT, kMaxT, rRevT, rDix2, sFrzV, sDrp, rSlC, rDget2, sSeq, sAsg, sDrop, sRet, sRetN, sIf, sNext, sPar, sPar3, sFor, sRaise, sFldT, sNo, rNo, rVar, rFrz, rC, rBin, rTest, bAnd, bOr, bNot, bIf, vAnd, vOr, vNot, rIf, rNeg, aNil, aCons, rTup, rLst, rLstC, rArgs, gNameT, gNilT, gConsT, gTupT, gSubT, iSeq, iRng1T, iRng2T, rLc, rCall, rCallN, rCallS, rFld, rCon, rMake, rMakeN, rMakeP, rMeth, rMethK, rProp, rClsFn, rOpOwn, rSl, oNone, oSome, rFmt, kFmt, rJs, rLidx, rChain, rTru, truT, rStr0, rPart, rSplit, kIntS, gStarT, kStrOwn, kAddC, rDct, kInt1, iEnumT, rMakeStar, rJoin, iZipM, iSeqH, iEnumL, rLc2, rTruC, rLcP, kLenOwn, kBoolOwn, rCMeth, rClsStar, rClsMake, rLz, rRevL, rRev2, rCMethK, rExcV, rMut, kAdd, kI2, kI2n, kMul, kIx, kIn, kLen, kU, kA2, kDm, kStrI, kAll, kSl, kAppend, kExtend, kTuple, kList, lenT, seqOf, bYes, startT, one, pickG, selG, insOf, putT, flatT, Bool.false_xor, Bool.true_xor, List.all_cons, List.all_nil, Bool.and_self, T.int.injEq, T.bl.injEq, T.str.injEq, T.lst.injEq, T.tup.injEq, T.cell.injEq, T.ins.injEq, Cell.lst.injEq, Cell.ins.injEq, Prod.mk.injEq, List.cons.injEq, Option.some.injEq, List.map_cons, List.map_nil, List.length_cons, List.length_nil, List.cons_append, List.nil_append, List.append_nil, List.getElem?_cons_zero, List.getElem?_cons_succ, List.set_cons_zero, List.set_cons_succ, List.replicate_succ, List.replicate_zero, exists_eq_left, exists_eq_left', exists_and_left, and_true, true_and, and_self, and_assoc, Nat.sub_self, Nat.reduceAdd, Nat.reduceSub, Nat.zero_add, put_put, put_same, reduceIte, Bool.false_eq_true, Bool.true_eq_false, Bool.not_true, Bool.not_false, at_0, at_1, at_2, at_3, at_4, at_5, at_6, at_7, ix_1_0, ix_2_0, ix_2_1, ix_3_0, ix_3_1, ix_3_2, ix_4_0, ix_4_1, ix_4_2, ix_4_3]
      refine ⟨rfl, _, rfl, ?_⟩
      cases e : isNon t
      · rw [if_neg (by decide)]
        exact ⟨rfl, _, rfl, q⟩
      · rw [if_pos (by decide)]
        exact q
    · rw [show Txt.partition (SX.S (p ++ 120 :: r)) "x" = (SX.S p, SX.S [120], SX.S r) by rw [ex_S]; exact SX.partition_some (by simp) (SX.par_head r np)]
      rw [List.length_append, List.length_cons] at hz
      refine hN _ _ ?_
      clear hN
      have find : ∀ (m : List Nat) (R' : T → Store → Prop), (∀ a b, Fr 8000 a b → SX.S m = frS a b → R' (frT a b) S) → ((∀ a b, Fr 8000 a b → SX.S m ≠ frS a b) → R' .non S) → FindR (SX.S m) R' S := fun m R' k1 k2 => by
        by_cases w : ∃ a b, Fr 8000 a b ∧ SX.S m = frS a b
        · obtain ⟨a, b, f, e⟩ := w
          exact .inl ⟨a, b, f, e, k1 a b f e⟩
        · exact .inr ⟨fun a b f e => w ⟨a, b, f, e⟩, k2 fun a b f e => w ⟨a, b, f, e⟩⟩
      refine sSeq_i fun N hN => ?_
      simp only [sp_find_fraction, rCallOwn, iZipT, kMaxT, rRevT, rDix2, sFrzV, sDrp, rSlC, rDget2, sSeq, sAsg, sDrop, sRet, sRetN, sIf, sNext, sPar, sPar3, sFor, sRaise, sFldT, sNo, rNo, rVar, rFrz, rC, rBin, rTest, bAnd, bOr, bNot, bIf, vAnd, vOr, vNot, rIf, rNeg, aNil, aCons, rTup, rLst, rLstC, rArgs, gNameT, gNilT, gConsT, gTupT, gSubT, iSeq, iRng1T, iRng2T, rLc, rCall, rCallN, rCallS, rFld, rCon, rMake, rMakeN, rMakeP, rMeth, rMethK, rProp, rClsFn, rOpOwn, rSl, oNone, oSome, rFmt, kFmt, rJs, rLidx, rChain, rTru, truT, rStr0, rPart, rSplit, kIntS, gStarT, kStrOwn, kAddC, rDct, kInt1, iEnumT, rMakeStar, rJoin, iZipM, iSeqH, iEnumL, rLc2, rTruC, rLcP, kLenOwn, kBoolOwn, rCMeth, rClsStar, rClsMake, rLz, rRevL, rRev2, rCMethK, rExcV, rMut, kAdd, kI2, kI2n, kMul, kIx, kIn, kLen, kU, kA2, kDm, kStrI, kAll, kSl, kAppend, kExtend, kTuple, kList, lenT, seqOf, bYes, startT, one, pickG, selG, insOf, putT, flatT, Bool.false_xor, Bool.true_xor, List.all_cons, List.all_nil, Bool.and_self, T.int.injEq, T.bl.injEq, T.str.injEq, T.lst.injEq, T.tup.injEq, T.cell.injEq, T.ins.injEq, Cell.lst.injEq, Cell.ins.injEq, Prod.mk.injEq, List.cons.injEq, Option.some.injEq, List.map_cons, List.map_nil, List.length_cons, List.length_nil, List.cons_append, List.nil_append, List.append_nil, List.getElem?_cons_zero, List.getElem?_cons_succ, List.set_cons_zero, List.set_cons_succ, List.replicate_succ, List.replicate_zero, exists_eq_left, exists_eq_left', exists_and_left, and_true, true_and, and_self, and_assoc, Nat.sub_self, Nat.reduceAdd, Nat.reduceSub, Nat.zero_add, put_put, put_same, reduceIte, Bool.false_eq_true, Bool.true_eq_false, Bool.not_true, Bool.not_false, at_0, at_1, at_2, at_3, at_4, at_5, at_6, at_7, ix_1_0, ix_2_0, ix_2_1, ix_3_0, ix_3_1, ix_3_2, ix_4_0, ix_4_1, ix_4_2, ix_4_3]
      refine .inl ⟨by rw [SX.S_len]; omega, find p _ (fun a b f e1 => hN _ _ ?_) fun no => hN _ _ ?_⟩
      · clear hN
        refine sSeq_i fun N hN => ?_
        simp only [sp_find_fraction, rCallOwn, iZipT, kMaxT, rRevT, rDix2, sFrzV, sDrp, rSlC, rDget2, sSeq, sAsg, sDrop, sRet, sRetN, sIf, sNext, sPar, sPar3, sFor, sRaise, sFldT, sNo, rNo, rVar, rFrz, rC, rBin, rTest, bAnd, bOr, bNot, bIf, vAnd, vOr, vNot, rIf, rNeg, aNil, aCons, rTup, rLst, rLstC, rArgs, gNameT, gNilT, gConsT, gTupT, gSubT, iSeq, iRng1T, iRng2T, rLc, rCall, rCallN, rCallS, rFld, rCon, rMake, rMakeN, rMakeP, rMeth, rMethK, rProp, rClsFn, rOpOwn, rSl, oNone, oSome, rFmt, kFmt, rJs, rLidx, rChain, rTru, truT, rStr0, rPart, rSplit, kIntS, gStarT, kStrOwn, kAddC, rDct, kInt1, iEnumT, rMakeStar, rJoin, iZipM, iSeqH, iEnumL, rLc2, rTruC, rLcP, kLenOwn, kBoolOwn, rCMeth, rClsStar, rClsMake, rLz, rRevL, rRev2, rCMethK, rExcV, rMut, kAdd, kI2, kI2n, kMul, kIx, kIn, kLen, kU, kA2, kDm, kStrI, kAll, kSl, kAppend, kExtend, kTuple, kList, lenT, seqOf, bYes, startT, one, pickG, selG, insOf, putT, flatT, Bool.false_xor, Bool.true_xor, List.all_cons, List.all_nil, Bool.and_self, T.int.injEq, T.bl.injEq, T.str.injEq, T.lst.injEq, T.tup.injEq, T.cell.injEq, T.ins.injEq, Cell.lst.injEq, Cell.ins.injEq, Prod.mk.injEq, List.cons.injEq, Option.some.injEq, List.map_cons, List.map_nil, List.length_cons, List.length_nil, List.cons_append, List.nil_append, List.append_nil, List.getElem?_cons_zero, List.getElem?_cons_succ, List.set_cons_zero, List.set_cons_succ, List.replicate_succ, List.replicate_zero, exists_eq_left, exists_eq_left', exists_and_left, and_true, true_and, and_self, and_assoc, Nat.sub_self, Nat.reduceAdd, Nat.reduceSub, Nat.zero_add, put_put, put_same, reduceIte, Bool.false_eq_true, Bool.true_eq_false, Bool.not_true, Bool.not_false, at_0, at_1, at_2, at_3, at_4, at_5, at_6, at_7, ix_1_0, ix_2_0, ix_2_1, ix_3_0, ix_3_1, ix_3_2, ix_4_0, ix_4_1, ix_4_2, ix_4_3]
        refine .inl ⟨by rw [SX.S_len]; omega, find r _ (fun c d g e2 => hN _ _ ?_) fun no => hN _ _ ?_⟩
        · clear hN
          refine sSeq_i fun N hN => ?_
          simp only [rCallOwn, iZipT, kMaxT, rRevT, rDix2, sFrzV, sDrp, rSlC, rDget2, sSeq, sAsg, sDrop, sRet, sRetN, sIf, sNext, sPar, sPar3, sFor, sRaise, sFldT, sNo, rNo, rVar, rFrz, rC, rBin, rTest, bAnd, bOr, bNot, bIf, vAnd, vOr, vNot, rIf, rNeg, aNil, aCons, rTup, rLst, rLstC, rArgs, gNameT, gNilT, gConsT, gTupT, gSubT, iSeq, iRng1T, iRng2T, rLc, rCall, rCallN, rCallS, rFld, rCon, rMake, rMakeN, rMakeP, rMeth, rMethK, rProp, rClsFn, rOpOwn, rSl, oNone, oSome, rFmt, kFmt, rJs, rLidx, rChain, rTru, truT, rStr0, rPart, rSplit, kIntS, gStarT, kStrOwn, kAddC, rDct, kInt1, iEnumT, rMakeStar, rJoin, iZipM, iSeqH, iEnumL, rLc2, rTruC, rLcP, kLenOwn, kBoolOwn, rCMeth, rClsStar, rClsMake, rLz, rRevL, rRev2, rCMethK, rExcV, rMut, kAdd, kI2, kI2n, kMul, kIx, kIn, kLen, kU, kA2, kDm, kStrI, kAll, kSl, kAppend, kExtend, kTuple, kList, lenT, seqOf, bYes, startT, one, pickG, selG, insOf, putT, flatT, Bool.false_xor, Bool.true_xor, List.all_cons, List.all_nil, Bool.and_self, T.int.injEq, T.bl.injEq, T.str.injEq, T.lst.injEq, T.tup.injEq, T.cell.injEq, T.ins.injEq, Cell.lst.injEq, Cell.ins.injEq, Prod.mk.injEq, List.cons.injEq, Option.some.injEq, List.map_cons, List.map_nil, List.length_cons, List.length_nil, List.cons_append, List.nil_append, List.append_nil, List.getElem?_cons_zero, List.getElem?_cons_succ, List.set_cons_zero, List.set_cons_succ, List.replicate_succ, List.replicate_zero, exists_eq_left, exists_eq_left', exists_and_left, and_true, true_and, and_self, and_assoc, Nat.sub_self, Nat.reduceAdd, Nat.reduceSub, Nat.zero_add, put_put, put_same, reduceIte, Bool.false_eq_true, Bool.true_eq_false, Bool.not_true, Bool.not_false, at_0, at_1, at_2, at_3, at_4, at_5, at_6, at_7, ix_1_0, ix_2_0, ix_2_1, ix_3_0, ix_3_1, ix_3_2, ix_4_0, ix_4_1, ix_4_2, ix_4_3]
          refine ⟨rfl, false, rfl, ?_⟩
          rw [if_neg Bool.false_ne_true]
          refine ⟨rfl, false, rfl, ?_⟩
          rw [if_neg Bool.false_ne_true]
          refine hN _ _ ?_
          simp only [rCallOwn, iZipT, kMaxT, rRevT, rDix2, sFrzV, sDrp, rSlC, rDget2, sSeq, sAsg, sDrop, sRet, sRetN, sIf, sNext, sPar, sPar3, sFor, sRaise, sFldT, sNo, rNo, rVar, rFrz, rC, rBin, rTest, bAnd, bOr, bNot, bIf, vAnd, vOr, vNot, rIf, rNeg, aNil, aCons, rTup, rLst, rLstC, rArgs, gNameT, gNilT, gConsT, gTupT, gSubT, iSeq, iRng1T, iRng2T, rLc, rCall, rCallN, rCallS, rFld, rCon, rMake, rMakeN, rMakeP, rMeth, rMethK, rProp, rClsFn, rOpOwn, rSl, oNone, oSome, rFmt, kFmt, rJs, rLidx, rChain, rTru, truT, rStr0, rPart, rSplit, kIntS, gStarT, kStrOwn, kAddC, rDct, kInt1, iEnumT, rMakeStar, rJoin, iZipM, iSeqH, iEnumL, rLc2, rTruC, rLcP, kLenOwn, kBoolOwn, rCMeth, rClsStar, rClsMake, rLz, rRevL, rRev2, rCMethK, rExcV, rMut, kAdd, kI2, kI2n, kMul, kIx, kIn, kLen, kU, kA2, kDm, kStrI, kAll, kSl, kAppend, kExtend, kTuple, kList, lenT, seqOf, bYes, startT, one, pickG, selG, insOf, putT, flatT, Bool.false_xor, Bool.true_xor, List.all_cons, List.all_nil, Bool.and_self, T.int.injEq, T.bl.injEq, T.str.injEq, T.lst.injEq, T.tup.injEq, T.cell.injEq, T.ins.injEq, Cell.lst.injEq, Cell.ins.injEq, Prod.mk.injEq, List.cons.injEq, Option.some.injEq, List.map_cons, List.map_nil, List.length_cons, List.length_nil, List.cons_append, List.nil_append, List.append_nil, List.getElem?_cons_zero, List.getElem?_cons_succ, List.set_cons_zero, List.set_cons_succ, List.replicate_succ, List.replicate_zero, exists_eq_left, exists_eq_left', exists_and_left, and_true, true_and, and_self, and_assoc, Nat.sub_self, Nat.reduceAdd, Nat.reduceSub, Nat.zero_add, put_put, put_same, reduceIte, Bool.false_eq_true, Bool.true_eq_false, Bool.not_true, Bool.not_false, at_0, at_1, at_2, at_3, at_4, at_5, at_6, at_7, ix_1_0, ix_2_0, ix_2_1, ix_3_0, ix_3_1, ix_3_2, ix_4_0, ix_4_1, ix_4_2, ix_4_3]
          refine mk_size (.fr f) (.fr g) ?_
          have ej : SX.S (p ++ 120 :: r) = szS a b c d := sz_join e1 e2
          rcases q with ⟨s, o, e, q⟩ | ⟨no, _⟩
          · obtain ⟨h1, h2⟩ := sz_parts np o e
            have u1 := frS_inj f o.w (e1.symm.trans h1)
            have u2 := frS_inj g o.h (e2.symm.trans h2)
            obtain ⟨sa, sb, sc, sd⟩ := s
            obtain ⟨rfl, rfl⟩ := u1
            obtain ⟨rfl, rfl⟩ := u2
            exact q
          · exact absurd ej (no ⟨a, b, c, d⟩ ⟨f, g⟩)
        · clear hN
          refine sSeq_i fun N hN => ?_
          simp only [rCallOwn, iZipT, kMaxT, rRevT, rDix2, sFrzV, sDrp, rSlC, rDget2, sSeq, sAsg, sDrop, sRet, sRetN, sIf, sNext, sPar, sPar3, sFor, sRaise, sFldT, sNo, rNo, rVar, rFrz, rC, rBin, rTest, bAnd, bOr, bNot, bIf, vAnd, vOr, vNot, rIf, rNeg, aNil, aCons, rTup, rLst, rLstC, rArgs, gNameT, gNilT, gConsT, gTupT, gSubT, iSeq, iRng1T, iRng2T, rLc, rCall, rCallN, rCallS, rFld, rCon, rMake, rMakeN, rMakeP, rMeth, rMethK, rProp, rClsFn, rOpOwn, rSl, oNone, oSome, rFmt, kFmt, rJs, rLidx, rChain, rTru, truT, rStr0, rPart, rSplit, kIntS, gStarT, kStrOwn, kAddC, rDct, kInt1, iEnumT, rMakeStar, rJoin, iZipM, iSeqH, iEnumL, rLc2, rTruC, rLcP, kLenOwn, kBoolOwn, rCMeth, rClsStar, rClsMake, rLz, rRevL, rRev2, rCMethK, rExcV, rMut, kAdd, kI2, kI2n, kMul, kIx, kIn, kLen, kU, kA2, kDm, kStrI, kAll, kSl, kAppend, kExtend, kTuple, kList, lenT, seqOf, bYes, startT, one, pickG, selG, insOf, putT, flatT, Bool.false_xor, Bool.true_xor, List.all_cons, List.all_nil, Bool.and_self, T.int.injEq, T.bl.injEq, T.str.injEq, T.lst.injEq, T.tup.injEq, T.cell.injEq, T.ins.injEq, Cell.lst.injEq, Cell.ins.injEq, Prod.mk.injEq, List.cons.injEq, Option.some.injEq, List.map_cons, List.map_nil, List.length_cons, List.length_nil, List.cons_append, List.nil_append, List.append_nil, List.getElem?_cons_zero, List.getElem?_cons_succ, List.set_cons_zero, List.set_cons_succ, List.replicate_succ, List.replicate_zero, exists_eq_left, exists_eq_left', exists_and_left, and_true, true_and, and_self, and_assoc, Nat.sub_self, Nat.reduceAdd, Nat.reduceSub, Nat.zero_add, put_put, put_same, reduceIte, Bool.false_eq_true, Bool.true_eq_false, Bool.not_true, Bool.not_false, at_0, at_1, at_2, at_3, at_4, at_5, at_6, at_7, ix_1_0, ix_2_0, ix_2_1, ix_3_0, ix_3_1, ix_3_2, ix_4_0, ix_4_1, ix_4_2, ix_4_3]
          refine ⟨rfl, false, rfl, ?_⟩
          rw [if_neg Bool.false_ne_true]
          refine ⟨rfl, true, rfl, ?_⟩
          rw [if_pos rfl]
          rcases q with ⟨s, o, e, _⟩ | ⟨_, q⟩
          · exact absurd (sz_parts np o e).2 (no _ _ o.h)
          · exact q
      · clear hN
        have q : RE C_InvalidText [("value", .str (SX.S (p ++ 120 :: r)))] S := by
          rcases q with ⟨s, o, e, _⟩ | ⟨_, q⟩
          · exact absurd (sz_parts np o e).1 (no _ _ o.w)
          · exact q
        refine sSeq_i fun N hN => ?_
        simp only [sp_find_fraction, rCallOwn, iZipT, kMaxT, rRevT, rDix2, sFrzV, sDrp, rSlC, rDget2, sSeq, sAsg, sDrop, sRet, sRetN, sIf, sNext, sPar, sPar3, sFor, sRaise, sFldT, sNo, rNo, rVar, rFrz, rC, rBin, rTest, bAnd, bOr, bNot, bIf, vAnd, vOr, vNot, rIf, rNeg, aNil, aCons, rTup, rLst, rLstC, rArgs, gNameT, gNilT, gConsT, gTupT, gSubT, iSeq, iRng1T, iRng2T, rLc, rCall, rCallN, rCallS, rFld, rCon, rMake, rMakeN, rMakeP, rMeth, rMethK, rProp, rClsFn, rOpOwn, rSl, oNone, oSome, rFmt, kFmt, rJs, rLidx, rChain, rTru, truT, rStr0, rPart, rSplit, kIntS, gStarT, kStrOwn, kAddC, rDct, kInt1, iEnumT, rMakeStar, rJoin, iZipM, iSeqH, iEnumL, rLc2, rTruC, rLcP, kLenOwn, kBoolOwn, rCMeth, rClsStar, rClsMake, rLz, rRevL, rRev2, rCMethK, rExcV, rMut, kAdd, kI2, kI2n, kMul, kIx, kIn, kLen, kU, kA2, kDm, kStrI, kAll, kSl, kAppend, kExtend, kTuple, kList, lenT, seqOf, bYes, startT, one, pickG, selG, insOf, putT, flatT, Bool.false_xor, Bool.true_xor, List.all_cons, List.all_nil, Bool.and_self, T.int.injEq, T.bl.injEq, T.str.injEq, T.lst.injEq, T.tup.injEq, T.cell.injEq, T.ins.injEq, Cell.lst.injEq, Cell.ins.injEq, Prod.mk.injEq, List.cons.injEq, Option.some.injEq, List.map_cons, List.map_nil, List.length_cons, List.length_nil, List.cons_append, List.nil_append, List.append_nil, List.getElem?_cons_zero, List.getElem?_cons_succ, List.set_cons_zero, List.set_cons_succ, List.replicate_succ, List.replicate_zero, exists_eq_left, exists_eq_left', exists_and_left, and_true, true_and, and_self, and_assoc, Nat.sub_self, Nat.reduceAdd, Nat.reduceSub, Nat.zero_add, put_put, put_same, reduceIte, Bool.false_eq_true, Bool.true_eq_false, Bool.not_true, Bool.not_false, at_0, at_1, at_2, at_3, at_4, at_5, at_6, at_7, ix_1_0, ix_2_0, ix_2_1, ix_3_0, ix_3_1, ix_3_2, ix_4_0, ix_4_1, ix_4_2, ix_4_3]
        refine .inl ⟨by rw [SX.S_len]; omega, find r _ (fun c d g e2 => hN _ _ ?_) fun no => hN _ _ ?_⟩
        · clear hN
          refine sSeq_i fun N hN => ?_
          simp only [rCallOwn, iZipT, kMaxT, rRevT, rDix2, sFrzV, sDrp, rSlC, rDget2, sSeq, sAsg, sDrop, sRet, sRetN, sIf, sNext, sPar, sPar3, sFor, sRaise, sFldT, sNo, rNo, rVar, rFrz, rC, rBin, rTest, bAnd, bOr, bNot, bIf, vAnd, vOr, vNot, rIf, rNeg, aNil, aCons, rTup, rLst, rLstC, rArgs, gNameT, gNilT, gConsT, gTupT, gSubT, iSeq, iRng1T, iRng2T, rLc, rCall, rCallN, rCallS, rFld, rCon, rMake, rMakeN, rMakeP, rMeth, rMethK, rProp, rClsFn, rOpOwn, rSl, oNone, oSome, rFmt, kFmt, rJs, rLidx, rChain, rTru, truT, rStr0, rPart, rSplit, kIntS, gStarT, kStrOwn, kAddC, rDct, kInt1, iEnumT, rMakeStar, rJoin, iZipM, iSeqH, iEnumL, rLc2, rTruC, rLcP, kLenOwn, kBoolOwn, rCMeth, rClsStar, rClsMake, rLz, rRevL, rRev2, rCMethK, rExcV, rMut, kAdd, kI2, kI2n, kMul, kIx, kIn, kLen, kU, kA2, kDm, kStrI, kAll, kSl, kAppend, kExtend, kTuple, kList, lenT, seqOf, bYes, startT, one, pickG, selG, insOf, putT, flatT, Bool.false_xor, Bool.true_xor, List.all_cons, List.all_nil, Bool.and_self, T.int.injEq, T.bl.injEq, T.str.injEq, T.lst.injEq, T.tup.injEq, T.cell.injEq, T.ins.injEq, Cell.lst.injEq, Cell.ins.injEq, Prod.mk.injEq, List.cons.injEq, Option.some.injEq, List.map_cons, List.map_nil, List.length_cons, List.length_nil, List.cons_append, List.nil_append, List.append_nil, List.getElem?_cons_zero, List.getElem?_cons_succ, List.set_cons_zero, List.set_cons_succ, List.replicate_succ, List.replicate_zero, exists_eq_left, exists_eq_left', exists_and_left, and_true, true_and, and_self, and_assoc, Nat.sub_self, Nat.reduceAdd, Nat.reduceSub, Nat.zero_add, put_put, put_same, reduceIte, Bool.false_eq_true, Bool.true_eq_false, Bool.not_true, Bool.not_false, at_0, at_1, at_2, at_3, at_4, at_5, at_6, at_7, ix_1_0, ix_2_0, ix_2_1, ix_3_0, ix_3_1, ix_3_2, ix_4_0, ix_4_1, ix_4_2, ix_4_3]
          exact ⟨rfl, true, rfl, q⟩
        · clear hN
          refine sSeq_i fun N hN => ?_
          simp only [rCallOwn, iZipT, kMaxT, rRevT, rDix2, sFrzV, sDrp, rSlC, rDget2, sSeq, sAsg, sDrop, sRet, sRetN, sIf, sNext, sPar, sPar3, sFor, sRaise, sFldT, sNo, rNo, rVar, rFrz, rC, rBin, rTest, bAnd, bOr, bNot, bIf, vAnd, vOr, vNot, rIf, rNeg, aNil, aCons, rTup, rLst, rLstC, rArgs, gNameT, gNilT, gConsT, gTupT, gSubT, iSeq, iRng1T, iRng2T, rLc, rCall, rCallN, rCallS, rFld, rCon, rMake, rMakeN, rMakeP, rMeth, rMethK, rProp, rClsFn, rOpOwn, rSl, oNone, oSome, rFmt, kFmt, rJs, rLidx, rChain, rTru, truT, rStr0, rPart, rSplit, kIntS, gStarT, kStrOwn, kAddC, rDct, kInt1, iEnumT, rMakeStar, rJoin, iZipM, iSeqH, iEnumL, rLc2, rTruC, rLcP, kLenOwn, kBoolOwn, rCMeth, rClsStar, rClsMake, rLz, rRevL, rRev2, rCMethK, rExcV, rMut, kAdd, kI2, kI2n, kMul, kIx, kIn, kLen, kU, kA2, kDm, kStrI, kAll, kSl, kAppend, kExtend, kTuple, kList, lenT, seqOf, bYes, startT, one, pickG, selG, insOf, putT, flatT, Bool.false_xor, Bool.true_xor, List.all_cons, List.all_nil, Bool.and_self, T.int.injEq, T.bl.injEq, T.str.injEq, T.lst.injEq, T.tup.injEq, T.cell.injEq, T.ins.injEq, Cell.lst.injEq, Cell.ins.injEq, Prod.mk.injEq, List.cons.injEq, Option.some.injEq, List.map_cons, List.map_nil, List.length_cons, List.length_nil, List.cons_append, List.nil_append, List.append_nil, List.getElem?_cons_zero, List.getElem?_cons_succ, List.set_cons_zero, List.set_cons_succ, List.replicate_succ, List.replicate_zero, exists_eq_left, exists_eq_left', exists_and_left, and_true, true_and, and_self, and_assoc, Nat.sub_self, Nat.reduceAdd, Nat.reduceSub, Nat.zero_add, put_put, put_same, reduceIte, Bool.false_eq_true, Bool.true_eq_false, Bool.not_true, Bool.not_false, at_0, at_1, at_2, at_3, at_4, at_5, at_6, at_7, ix_1_0, ix_2_0, ix_2_1, ix_3_0, ix_3_1, ix_3_2, ix_4_0, ix_4_1, ix_4_2, ix_4_3]
          exact ⟨rfl, true, rfl, q⟩
  · exact h.elim
/-! what repr of a Size runs, while an error is handled -/
theorem okP_is_integer {P : Program} {w : World} {K : PySem.W.Frag} {mg : Str → Option Value} {base : Heap} {f : Addr} {fd : FuncData}   (F : Fun K "is_integer" "is_integer" s_is_integer f fd)
    (n_isinstance : mg "isinstance" = none)
    (n_bool : mg "bool" = none)
    (n_int : mg "int" = none)
    : FnPT P w K mg base 1 f fd ["value"] (sp_is_integer K) := by
  refine okPT F sc_is_integer (by intro ts S R RE h; unfold sp_is_integer at h; split at h <;> first | rfl | exact h.elim) (fun cdv A out s H E p hg hot hr => (bs_one (ss_ret (et_and (et_blt call_isiY (cv_isi (K := K)) (by rfl) n_isinstance PyProof.Rows.boot_isinstance (at_cons (et_var (pv 0)) (at_cons (et_blty (by rfl) n_int PyProof.Rows.boot_int) at_nil))) (et_one (et_not (et_blt call_isiY (cv_isi (K := K)) (by rfl) n_isinstance PyProof.Rows.boot_isinstance (at_cons (et_var (pv 0)) (at_cons (et_blty (by rfl) n_bool PyProof.Rows.boot_bool) at_nil))))))))) ?_
  intro ts S R RE h
  unfold sp_is_integer at h
  split at h
  · rename_i x
    obtain ⟨hv, q⟩ := h
    simp only [sRet, rVar, rC, vAnd, vNot, aNil, aCons, rArgs, startT, Option.some.injEq, List.map_cons, List.map_nil, List.length_cons, List.length_nil, List.append_nil, List.getElem?_cons_zero, List.replicate_zero, exists_eq_left', Nat.sub_self, Nat.zero_add]
    refine hv.is (n := "int") (by decide) ?_
    refine ⟨_, rfl, ?_⟩
    cases e : isK x "int" with
    | true =>
      rw [if_pos rfl]
      refine hv.is (n := "bool") (by decide) ?_
      refine ⟨_, rfl, ?_⟩
      have : (!isK x "bool") = isInt x := by cases x <;> first | rfl | (cases e; done)
      rw [this]
      exact q
    | false =>
      have : isInt x = false := by cases x <;> first | rfl | (cases e; done)
      rw [this] at q
      exact q
  · exact h.elim
theorem okP_is_positive {P : Program} {w : World} {K : PySem.W.Frag} {mg : Str → Option Value} {base : Heap} {f : Addr} {fd : FuncData} {g_is_integer : Addr} {gd_is_integer : FuncData} (F : Fun K "is_positive" "is_positive" s_is_positive f fd)
    (P_is_integer : FnPT P w K mg base 1 g_is_integer gd_is_integer ["value"] (sp_is_integer K))
    (m_is_integer : mg "is_integer" = some (.ref g_is_integer))
    (k_is_integer : PySem.W.keepIn K (.ref g_is_integer) = true)
    (b_is_integer : Binds K gd_is_integer ["value"] [])
    : FnPT P w K mg base 2 f fd ["value"] (sp_is_positive K) := by
  refine okPT F sc_is_positive (by intro ts S R RE h; unfold sp_is_positive at h; split at h <;> first | rfl | exact h.elim) (fun cdv A out s H E p hg hot hr => (bs_one (ss_ret (et_and (et_callH P_is_integer hg (hr.mono (by decide)) hot List.mem_cons_self (by rfl) m_is_integer k_is_integer b_is_integer (at_cons (et_var (pv 0)) at_nil)) (et_one (et_cmp op_gt cv_B2n (et_var (pv 0)) et_int (nomark _))))))) ?_
  intro ts S R RE h
  unfold sp_is_positive at h
  split at h
  · rename_i x
    obtain ⟨hv, q⟩ := h
    simp only [sp_is_integer, sRet, rVar, rC, rBin, vAnd, aNil, aCons, rCall, kI2n, startT, T.bl.injEq, Option.some.injEq, List.map_cons, List.map_nil, List.length_cons, List.length_nil, List.append_nil, List.getElem?_cons_zero, List.replicate_zero, exists_eq_left', Nat.sub_self, Nat.zero_add]
    refine ⟨hv, ?_⟩
    cases x <;> first | exact q | (simp only [isInt, isPos, rCallOwn, iZipT, kMaxT, rRevT, rDix2, sFrzV, sDrp, rSlC, rDget2, sSeq, sAsg, sDrop, sRet, sRetN, sIf, sNext, sPar, sPar3, sFor, sRaise, sFldT, sNo, rNo, rVar, rFrz, rC, rBin, rTest, bAnd, bOr, bNot, bIf, vAnd, vOr, vNot, rIf, rNeg, aNil, aCons, rTup, rLst, rLstC, rArgs, gNameT, gNilT, gConsT, gTupT, gSubT, iSeq, iRng1T, iRng2T, rLc, rCall, rCallN, rCallS, rFld, rCon, rMake, rMakeN, rMakeP, rMeth, rMethK, rProp, rClsFn, rOpOwn, rSl, oNone, oSome, rFmt, kFmt, rJs, rLidx, rChain, rTru, truT, rStr0, rPart, rSplit, kIntS, gStarT, kStrOwn, kAddC, rDct, kInt1, iEnumT, rMakeStar, rJoin, iZipM, iSeqH, iEnumL, rLc2, rTruC, rLcP, kLenOwn, kBoolOwn, rCMeth, rClsStar, rClsMake, rLz, rRevL, rRev2, rCMethK, rExcV, rMut, kAdd, kI2, kI2n, kMul, kIx, kIn, kLen, kU, kA2, kDm, kStrI, kAll, kSl, kAppend, kExtend, kTuple, kList, lenT, seqOf, bYes, startT, one, pickG, selG, insOf, putT, flatT, Bool.false_xor, Bool.true_xor, List.all_cons, List.all_nil, Bool.and_self, T.int.injEq, T.bl.injEq, T.str.injEq, T.lst.injEq, T.tup.injEq, T.cell.injEq, T.ins.injEq, Cell.lst.injEq, Cell.ins.injEq, Prod.mk.injEq, List.cons.injEq, Option.some.injEq, List.map_cons, List.map_nil, List.length_cons, List.length_nil, List.cons_append, List.nil_append, List.append_nil, List.getElem?_cons_zero, List.getElem?_cons_succ, List.set_cons_zero, List.set_cons_succ, List.replicate_succ, List.replicate_zero, exists_eq_left, exists_eq_left', exists_and_left, and_true, true_and, and_self, and_assoc, Nat.sub_self, Nat.reduceAdd, Nat.reduceSub, Nat.zero_add, put_put, put_same, reduceIte, Bool.false_eq_true, Bool.true_eq_false, Bool.not_true, Bool.not_false, at_0, at_1, at_2, at_3, at_4, at_5, at_6, at_7, ix_1_0, ix_2_0, ix_2_1, ix_3_0, ix_3_1, ix_3_2, ix_4_0, ix_4_1, ix_4_2, ix_4_3] at q ⊢; exact q)
  · exact h.elim
theorem okP_common_divisor {P : Program} {w : World} {K : PySem.W.Frag} {mg : Str → Option Value} {base : Heap} {f : Addr} {fd : FuncData}   (F : Fun K "common_divisor" "common_divisor" s_common_divisor f fd)
    : FnPT P w K mg base 1 f fd ["one", "other"] sp_common_divisor := by
  refine okPT F sc_common_divisor (by intro ts S R RE h; unfold sp_common_divisor at h; split at h <;> first | rfl | exact h.elim) (fun cdv A out s H E p hg hot hr => (bs_cons (ss_while PassesOwn.never (tt_cmp op_gt cv_B2n (et_var (pv 1)) et_int (nomark _)) (bs_one (ss_parH (i := 0) (j := 1) ⟨p, hot, List.mem_cons_self⟩ sc_common_divisor.nd rfl rfl (by decide) rfl rfl (at_cons (et_var (pv 1)) (at_cons (et_op op_mod cv_I2 (et_var (pv 0)) (et_var (pv 1))) at_nil)) (by rfl))))
    (bs_one (ss_ret (et_var (pv 0)))))) ?_
  intro ts S R RE h
  unfold sp_common_divisor at h
  split at h
  · rename_i a b
    obtain ⟨ha, hb, q⟩ := h
    refine while_inv (fun σ S' => S' = S ∧ ∃ x y : Int, σ = [some (.int x), some (.int y)] ∧ 0 < x ∧ 0 ≤ y ∧ gcdI x y = gcdI a b) (fun σ _ => match σ with | [_, some (.int y)] => y.toNat | _ => 0) ⟨rfl, a, b, rfl, ha, hb, rfl⟩ ?_
    rintro σ S' ⟨rfl, x, y, rfl, hx, hy, g⟩ N hN
    simp only [sRet, sPar, rVar, rC, rBin, rTest, aNil, aCons, kI2, kI2n, T.bl.injEq, List.cons.injEq, Option.some.injEq, List.getElem?_cons_zero, List.getElem?_cons_succ, List.set_cons_zero, List.set_cons_succ, exists_eq_left', exists_and_left, and_true, and_assoc]
    refine ite_d (fun c => ?_) (fun c => ?_)
    · have := emod_lt (a := x) c
      exact ⟨c, hN _ _ ⟨rfl, y, _, rfl, c, this.1, (gcdI_step c).trans g⟩ (by show (x % y).toNat < y.toNat; omega)⟩
    · have e : y = 0 := by omega
      subst e
      rw [gcdI_zero hx] at g
      subst g
      exact q
  · exact h.elim
theorem okP_is_fraction {P : Program} {w : World} {K : PySem.W.Frag} {mg : Str → Option Value} {base : Heap} {f : Addr} {fd : FuncData} {g_common_divisor g_is_positive : Addr} {gd_common_divisor : FuncData} {gd_is_positive : FuncData} (F : Fun K "is_fraction" "is_fraction" s_is_fraction f fd)
    (n_len : mg "len" = none)
    (n_isinstance : mg "isinstance" = none)
    (n_tuple : mg "tuple" = none)
    (P_common_divisor : FnPT P w K mg base 1 g_common_divisor gd_common_divisor ["one", "other"] sp_common_divisor)
    (m_common_divisor : mg "common_divisor" = some (.ref g_common_divisor))
    (k_common_divisor : PySem.W.keepIn K (.ref g_common_divisor) = true)
    (b_common_divisor : Binds K gd_common_divisor ["one", "other"] [])
    (P_is_positive : FnPT P w K mg base 2 g_is_positive gd_is_positive ["value"] (sp_is_positive K))
    (m_is_positive : mg "is_positive" = some (.ref g_is_positive))
    (k_is_positive : PySem.W.keepIn K (.ref g_is_positive) = true)
    (b_is_positive : Binds K gd_is_positive ["value"] [])
    : FnPT P w K mg base 3 f fd ["value"] (sp_is_fraction K) := by
  refine okPT F sc_is_fraction (by intro ts S R RE h; unfold sp_is_fraction at h; split at h <;> first | rfl | exact h.elim) (fun cdv A out s H E p hg hot hr => (bs_cons (ss_if (tt_w (tw_or (tt_not (tt_val (et_blt call_isiY (cv_isi (K := K)) (by rfl) n_isinstance PyProof.Rows.boot_isinstance (at_cons (et_var (pv 0)) (at_cons (et_blty (by rfl) n_tuple PyProof.Rows.boot_tuple) at_nil))))) (tw_or1 (tt_cmp (op_neG hr.units) cv_ne (et_blt call_len cv_len (by rfl) n_len PySem.boot_len (at_cons (et_var (pv 0)) at_nil)) et_int (nomark _))))) (bs_one (ss_ret et_bl)) bs_nil)
    (bs_cons (ss_asg (et_var (pv 0)) (gt_tupH (n := 2) ⟨p, hot, List.mem_cons_self⟩ (gts_cons (gt_name (pg_name (i := 1) sc_is_fraction.nd rfl (by first | exact Or.inl rfl | exact Or.inr rfl))) (gts_cons (gt_name (pg_name (i := 2) sc_is_fraction.nd rfl (by first | exact Or.inl rfl | exact Or.inr rfl))) gts_nil))))
    (bs_cons (ss_if (tt_w (tw_or (tt_not (tt_val (et_callH P_is_positive hg (hr.mono (by decide)) hot List.mem_cons_self (by rfl) m_is_positive k_is_positive b_is_positive (at_cons (et_var (pv 1)) at_nil)))) (tw_or1 (tt_not (tt_val (et_callH P_is_positive hg (hr.mono (by decide)) hot List.mem_cons_self (by rfl) m_is_positive k_is_positive b_is_positive (at_cons (et_var (pv 2)) at_nil))))))) (bs_one (ss_ret et_bl)) bs_nil)
    (bs_one (ss_ret (et_cmp (op_eqG hr.units) cv_eq (et_callH P_common_divisor hg (hr.mono (by decide)) hot List.mem_cons_self (by rfl) m_common_divisor k_common_divisor b_common_divisor (at_cons (et_var (pv 1)) (at_cons (et_var (pv 2)) at_nil))) et_int (nomark _)))))))) ?_
  intro ts S R RE h
  unfold sp_is_fraction at h
  split at h
  · rename_i x
    obtain ⟨av, q⟩ := h
    refine sSeq_i fun N hN => ?_
    simp only [sRet, sIf, sNext, rVar, rC, rBin, rTest, bOr, bNot, aNil, aCons, rArgs, kLen, lenT, startT, List.cons.injEq, Option.some.injEq, List.map_cons, List.map_nil, List.length_cons, List.length_nil, List.cons_append, List.nil_append, List.getElem?_cons_zero, List.replicate_succ, List.replicate_zero, exists_eq_left', exists_and_left, and_true, Nat.reduceAdd, Nat.reduceSub, Nat.zero_add, reduceIte]
    refine av.v.is (n := "tuple") (by decide) ⟨isK x "tuple", rfl, ?_⟩
    cases ek : isK x "tuple" with
    | false =>
      have g : goodF x = false := by
        cases x <;> first | rfl | (cases ek; done)
      rw [g] at q
      simp only [reduceIte, Bool.not_false]
      exact q
    | true =>
      obtain ⟨l, rfl⟩ : ∃ l, x = .tup l := by
        cases x <;> first | (cases ek; done) | exact ⟨_, rfl⟩
      obtain ⟨vl, ll⟩ := av.l l rfl
      simp only [Option.some.injEq, exists_eq_left', reduceIte, Bool.false_eq_true, Bool.not_true]
      refine eqI ?_
      match l, vl, ll, q, av with
      | [], _, _, q, _ => exact ⟨true, rfl, by rw [if_pos rfl]; exact q⟩
      | [a], _, _, q, _ =>
        have e : goodF (.tup [a]) = false := by unfold goodF; split <;> simp_all
        exact ⟨true, rfl, by rw [if_pos rfl, ← e]; exact q⟩
      | a :: b :: c :: l, _, _, q, _ =>
        have e : goodF (.tup (a :: b :: c :: l)) = false := by unfold goodF; split <;> simp_all
        refine ⟨true, ?_, by rw [if_pos rfl, ← e]; exact q⟩
        have : ¬ ((((a :: b :: c :: l).length : Nat) : Int) = 2) := by simp only [List.length_cons]; omega
        rw [decide_eq_false this]; rfl
      | [y, z], vl, _, q, av =>
        refine ⟨false, rfl, ?_⟩
        have vy := vl y (by simp)
        have vz := vl z (by simp)
        simp only [reduceIte, Bool.false_eq_true]
        refine hN _ _ ?_
        clear hN
        refine sSeq_i fun N hN => ?_
        simp only [sAsg, rVar, gNameT, gNilT, gConsT, gTupT, T.tup.injEq, List.cons.injEq, Option.some.injEq, List.length_cons, List.length_nil, List.getElem?_cons_zero, List.set_cons_zero, List.set_cons_succ, exists_eq_left', exists_and_left, true_and, and_assoc, Nat.reduceAdd, Nat.zero_add]
        refine hN _ _ ?_
        clear hN
        refine sSeq_i fun N hN => ?_
        simp only [sp_is_positive, sRet, sIf, sNext, rVar, rC, rTest, bOr, bNot, aNil, aCons, rCall, T.bl.injEq, Option.some.injEq, List.append_nil, List.getElem?_cons_zero, List.getElem?_cons_succ, exists_eq_left', reduceIte]
        refine ⟨vy, ?_⟩
        cases ey : isPos y with
        | false =>
          rw [goodF_negL ey] at q
          rw [if_pos (by decide)]
          exact q
        | true =>
          rw [if_neg (by decide)]
          refine ⟨vz, ?_⟩
          cases ez : isPos z with
          | false =>
            rw [goodF_negR ez] at q
            rw [if_pos (by decide)]
            exact q
          | true =>
            obtain ⟨a, rfl, a0⟩ := isPos_int ey
            obtain ⟨b, rfl, b0⟩ := isPos_int ez
            obtain ⟨pa, pb⟩ := av.n a b rfl a0 b0
            rw [if_neg (by decide)]
            refine hN _ _ ?_
            simp only [sp_common_divisor, sRet, rVar, rC, rBin, aNil, aCons, rCall, Option.some.injEq, List.append_nil, List.getElem?_cons_zero, List.getElem?_cons_succ, exists_eq_left']
            refine ⟨a0, Int.le_of_lt b0, eqI ?_⟩
            simp only [goodF, a0, b0, decide_true, Bool.true_and] at q
            rw [Bool.false_xor]
            exact q
  · exact h.elim
def sp_check_good : SpT := fun ts S R _ => match ts with
  | [.tup l] => FrL 8000 l ∧ R .non S
  | _ => False
theorem okP_check_fractions {P : Program} {w : World} {K : PySem.W.Frag} {mg : Str → Option Value} {base : Heap} {f : Addr} {fd : FuncData} {g_is_fraction : Addr} {gd_is_fraction : FuncData} (F : Fun K "check_fractions" "check_fractions" s_check_fractions f fd)
    (P_is_fraction : FnPT P w K mg base 3 g_is_fraction gd_is_fraction ["value"] (sp_is_fraction K))
    (m_is_fraction : mg "is_fraction" = some (.ref g_is_fraction))
    (k_is_fraction : PySem.W.keepIn K (.ref g_is_fraction) = true)
    (b_is_fraction : Binds K gd_is_fraction ["value"] [])
    : FnPT P w K mg base 4 f fd ["values"] sp_check_good := by
  refine okPT F sc_check_fractions (by intro ts S R RE h; unfold sp_check_good at h; split at h <;> first | rfl | exact h.elim) (fun cdv A out s H E p hg hot hr => (bs_one (ss_forH PassesOwn.never ⟨p, hot, List.mem_cons_self⟩ (itH_seq (et_var (pv 0))) (gt_name (pg_name (i := 1) sc_check_fractions.nd rfl (by first | exact Or.inl rfl | exact Or.inr rfl))) (bs_one (ss_if (tt_not (tt_val (et_callH P_is_fraction hg (hr.mono (by decide)) hot List.mem_cons_self (by rfl) m_is_fraction k_is_fraction b_is_fraction (at_cons (et_var (pv 1)) at_nil)))) (bs_one ss_never) bs_nil))))) ?_
  intro ts S R RE h
  unfold sp_check_good at h
  split at h
  · rename_i l
    obtain ⟨fl, q⟩ := h
    simp only [sFor, rVar, iSeqH, startT, T.tup.injEq, Option.some.injEq, List.map_cons, List.map_nil, List.length_cons, List.length_nil, List.cons_append, List.nil_append, List.getElem?_cons_zero, List.replicate_succ, List.replicate_zero, exists_eq_left', Nat.reduceAdd, Nat.reduceSub, Nat.zero_add]
    suffices hh : ∀ (us : List T) (v : Option T), (∀ u ∈ us, u ∈ l) → rLoop (gNameT 1) (sIf (bNot (rTest (rCall (sp_is_fraction K) [] (aCons (rVar 1) aNil)))) sNo sNext) { nx := fun _ S' => R .non S', rt := R, ex := RE } us [some (.tup l), v] S from hh l none fun _ m => m
    intro us
    induction us with
    | nil =>
      intro v _
      simp only [rLoop]
      exact q
    | cons u us ih =>
      intro v sub
      obtain ⟨a, b, rfl, f⟩ := fl u (sub u (by simp))
      simp only [rLoop, sp_is_fraction, sIf, sNext, sNo, rVar, rTest, bNot, aNil, aCons, gNameT, rCall, T.bl.injEq, Option.some.injEq, List.append_nil, List.getElem?_cons_zero, List.getElem?_cons_succ, List.set_cons_zero, List.set_cons_succ, exists_eq_left']
      refine ⟨f.any, ?_⟩
      rw [f.good, if_neg (by decide)]
      exact ih _ fun w m => sub w (List.mem_cons_of_mem _ m)
  · exact h.elim
def sp_fmt_h : SpT := fun ts S R _ => match ts with
  | [x] => ∃ a b, x = frT a b ∧ Fr 1900 a b ∧ R (.str (frS a b)) S
  | _ => False
theorem okP_format_fraction {P : Program} {w : World} {K : PySem.W.Frag} {mg : Str → Option Value} {base : Heap} {f : Addr} {fd : FuncData} {g_check_fractions : Addr} {gd_check_fractions : FuncData} (F : Fun K "format_fraction" "format_fraction" s_format_fraction f fd)
    (P_check_fractions : FnPT P w K mg base 4 g_check_fractions gd_check_fractions ["values"] sp_check_good)
    (m_check_fractions : mg "check_fractions" = some (.ref g_check_fractions))
    (k_check_fractions : PySem.W.keepIn K (.ref g_check_fractions) = true)
    (b_check_fractions : Binds K gd_check_fractions ["values"] [])
    : FnPT P w K mg base 5 f fd ["number"] sp_fmt_h := by
  refine okPT F sc_format_fraction (by intro ts S R RE h; unfold sp_fmt_h at h; split at h <;> first | rfl | exact h.elim) (fun cdv A out s H E p hg hot hr => (bs_cons (ss_expr (et_callH P_check_fractions hg (hr.mono (by decide)) hot List.mem_cons_self (by rfl) m_check_fractions k_check_fractions b_check_fractions (at_cons (et_tup (at_cons (et_var (pv 0)) at_nil)) at_nil)))
    (bs_cons (ss_asg (et_var (pv 0)) (gt_tupH (n := 2) ⟨p, hot, List.mem_cons_self⟩ (gts_cons (gt_name (pg_name (i := 1) sc_format_fraction.nd rfl (by first | exact Or.inl rfl | exact Or.inr rfl))) (gts_cons (gt_name (pg_name (i := 2) sc_format_fraction.nd rfl (by first | exact Or.inl rfl | exact Or.inr rfl))) gts_nil))))
    (bs_cons (ss_if (tt_cmp (op_eqG hr.units) cv_eq (et_var (pv 2)) et_int (nomark _)) (bs_one (ss_ret (et_joined1 (et_fmt (et_var (pv 1)))))) bs_nil)
    (bs_one (ss_ret (et_joined (EJ.cons (et_fmt (et_var (pv 1))) (EJ.cons et_str (EJ.cons (et_fmt (et_var (pv 2))) EJ.nil)))))))))) ?_
  intro ts S R RE h
  unfold sp_fmt_h at h
  split at h
  · obtain ⟨a, b, rfl, f, q⟩ := h
    refine sSeq_i fun N hN => ?_
    simp only [frT, sp_check_good, sDrop, rVar, aNil, aCons, rTup, rCall, startT, Option.some.injEq, List.map_cons, List.map_nil, List.length_cons, List.length_nil, List.cons_append, List.nil_append, List.append_nil, List.getElem?_cons_zero, List.replicate_succ, List.replicate_zero, exists_eq_left', Nat.reduceAdd, Nat.reduceSub, Nat.zero_add]
    refine ⟨by decide, FrL.one (f.up (by decide)), hN _ _ ?_⟩
    refine sSeq_i fun N hN => ?_
    simp only [sAsg, rVar, gNameT, gNilT, gConsT, gTupT, T.tup.injEq, List.cons.injEq, Option.some.injEq, List.length_cons, List.length_nil, List.getElem?_cons_zero, List.set_cons_zero, List.set_cons_succ, exists_eq_left', exists_and_left, true_and, and_assoc, Nat.reduceAdd, Nat.zero_add]
    refine hN _ _ ?_
    refine sSeq_i fun N hN => ?_
    simp only [sRet, sIf, sNext, rVar, rC, rBin, rTest, rFmt, kFmt, Option.some.injEq, List.getElem?_cons_zero, List.getElem?_cons_succ, exists_eq_left']
    have lga : a.natAbs.log2 < 1920 := PySem.Flt.log2_lt_of (by decide) (f.a.up (m := 1920) (by decide)).lt
    have lgb : b.natAbs.log2 < 1920 := PySem.Flt.log2_lt_of (by decide) (f.b.up (m := 1920) (by decide)).lt
    refine eqI0 ⟨_, rfl, ?_⟩
    have la : (Str.ofString (toString a)).length ≤ 2409 := nS_len (f.a.up (by decide))
    have lb : (Str.ofString (toString b)).length ≤ 2409 := nS_len (f.b.up (by decide))
    by_cases hb : b = 1
    · subst hb
      rw [if_pos (by decide)]
      rw [frS_1] at q
      exact ⟨lga, q⟩
    · rw [if_neg (by rw [decide_eq_true_eq]; exact hb)]
      refine hN _ _ ?_
      rw [frS_n hb] at q
      have ls : ("/" : Str).length = 1 := by decide
      simp only [sEmp, sRet, rVar, rC, rFmt, kFmt, rJs, T.str.injEq, Option.some.injEq, List.getElem?_cons_zero, List.getElem?_cons_succ, exists_eq_left']
      refine ⟨lga, ?_, ?_, lgb, ?_, q⟩
      · rw [sizeLine_eq]; exact Nat.le_trans la (by decide)
      · rw [sizeLine_eq, sLen0, ls]; omega
      · rw [sizeLine_eq, sLen0, sLen0, ls]; omega
  · exact h.elim
def sp_Size_str_h (C : Addr) : SpT := fun ts S R _ => match ts with
  | [x] => ∃ s : S4, x = s.t C ∧ s.ok 1900 ∧ R (.str s.str) S
  | _ => False
theorem okP_Size_str {P : Program} {w : World} {K : PySem.W.Frag} {mg : Str → Option Value} {base : Heap} {f : Addr} {fd : FuncData} {g_format_fraction C_Size : Addr} {gd_format_fraction : FuncData} (F : Fun K "__str__" "Size.__str__" s_Size_str f fd)
    (P_format_fraction : FnPT P w K mg base 5 g_format_fraction gd_format_fraction ["number"] sp_fmt_h)
    (m_format_fraction : mg "format_fraction" = some (.ref g_format_fraction))
    (k_format_fraction : PySem.W.keepIn K (.ref g_format_fraction) = true)
    (b_format_fraction : Binds K gd_format_fraction ["number"] [])
    (nf_Size_width : InF K C_Size "width")
    (nf_Size_height : InF K C_Size "height")
    : FnPT P w K mg base 6 f fd ["self"] (sp_Size_str_h C_Size) := by
  refine okPT F sc_Size_str (by intro ts S R RE h; unfold sp_Size_str_h at h; split at h <;> first | rfl | exact h.elim) (fun cdv A out s H E p hg hot hr => (bs_one (ss_ret (et_joined (EJ.cons (et_fmt (et_callH P_format_fraction hg (hr.mono (by decide)) hot List.mem_cons_self (by rfl) m_format_fraction k_format_fraction b_format_fraction (at_cons (et_fldK K rfl (et_var (pv 0))) at_nil))) (EJ.cons et_str (EJ.cons (et_fmt (et_callH P_format_fraction hg (hr.mono (by decide)) hot List.mem_cons_self (by rfl) m_format_fraction k_format_fraction b_format_fraction (at_cons (et_fldK K rfl (et_var (pv 0))) at_nil))) EJ.nil))))))) ?_
  intro ts S R RE h
  unfold sp_Size_str_h at h
  split at h
  · rename_i x
    obtain ⟨s, rfl, o, q⟩ := h
    have l1 := frS_len (o.w.up (m := 8000) (by decide))
    have l2 := frS_len (o.h.up (m := 8000) (by decide))
    have lx : ("x" : Str).length = 1 := by decide
    unfold S4.t
    simp only [szT, szF_w, szF_h, sp_fmt_h, sEmp, sRet, rVar, rC, aNil, aCons, rCall, rFld, rFmt, kFmt, rJs, startT, insOf, T.str.injEq, Prod.mk.injEq, Option.some.injEq, List.map_cons, List.map_nil, List.length_cons, List.length_nil, List.append_nil, List.getElem?_cons_zero, List.replicate_zero, exists_eq_left', exists_and_left, and_assoc, Nat.sub_self, Nat.zero_add]
    refine ⟨nf_Size_width, _, _, rfl, o.w, ?_⟩
    have e1 : (frS s.a s.b).length ≤ sizeLine := by rw [sizeLine_eq]; omega
    have e2 : (frS s.a s.b ++ "x").length ≤ sizeLine := by rw [sizeLine_eq, sLen0, lx]; omega
    have e3 : ((frS s.a s.b ++ "x") ++ frS s.c s.d).length ≤ sizeLine := by rw [sizeLine_eq, sLen0, sLen0, lx]; omega
    have e4 : (frS s.c s.d).length ≤ sizeLine := by rw [sizeLine_eq]; omega
    exact ⟨e1, e1, e2, nf_Size_height, _, _, rfl, o.h, e4, e3, q⟩
  · exact h.elim
def sp_Size_repr_h (C : Addr) : SpT := fun ts S R _ => match ts with
  | [x] => ∃ s : S4, x = s.t C ∧ s.ok 1900 ∧ R (.str s.rep) S
  | _ => False
theorem okP_Size_repr {P : Program} {w : World} {K : PySem.W.Frag} {mg : Str → Option Value} {base : Heap} {f : Addr} {fd : FuncData} {g_Size_str C_Size : Addr} {gd_Size_str : FuncData} (F : Fun K "__repr__" "Size.__repr__" s_Size_repr f fd)
    (n_str : mg "str" = none)
    (P_Size_str : FnPT P w K mg base 6 g_Size_str gd_Size_str ["self"] (sp_Size_str_h C_Size))
    (b_Size_str : Binds K gd_Size_str ["self"] [])
    (od_Size_str : OwnDef K C_Size "__str__" g_Size_str)
    : FnPT P w K mg base 9 f fd ["self"] (sp_Size_repr_h C_Size) := by
  refine okPT F sc_Size_repr (by intro ts S R RE h; unfold sp_Size_repr_h at h; split at h <;> first | rfl | exact h.elim) (fun cdv A out s H E p hg hot hr => (bs_one (ss_ret (et_joined (EJ.cons et_str (EJ.cons (et_fmt (et_typ (strOwnH (j := 8) (StrDH.one od_Size_str P_Size_str (by decide) b_Size_str) hg (hr.mono (by decide)) hot List.mem_cons_self) cv_strOwn (by rfl) n_str PyProof.Rows.boot_str (at_cons (et_var (pv 0)) at_nil))) (EJ.cons et_str EJ.nil))))))) ?_
  intro ts S R RE h
  unfold sp_Size_repr_h at h
  split at h
  · rename_i x
    obtain ⟨s, rfl, o, q⟩ := h
    have l1 := S4.str_len (Sz.up o (m := 8000) (by decide))
    have l2 : ("Size(" : Str).length = 5 := by decide
    have l3 : (")" : Str).length = 1 := by decide
    have e1 : ("Size(" : Str).length ≤ sizeLine := by rw [sizeLine_eq]; omega
    have e2 : ("Size(" ++ s.str).length ≤ sizeLine := by rw [sizeLine_eq, sLen0, l2]; omega
    have e3 : (("Size(" ++ s.str) ++ ")").length ≤ sizeLine := by rw [sizeLine_eq, sLen0, sLen0, l2, l3]; omega
    simp only [sEmp, sp_Size_str_h, sRet, rVar, rC, aNil, aCons, rArgs, rFmt, kFmt, rJs, kStrOwn, startT, one, insOf, T.str.injEq, List.cons.injEq, Option.some.injEq, List.map_cons, List.map_nil, List.length_cons, List.length_nil, List.append_nil, List.getElem?_cons_zero, List.replicate_zero, exists_eq_left, exists_eq_left', exists_and_left, and_true, and_assoc, Nat.sub_self, Nat.zero_add]
    refine ⟨e1, C_Size, _, rfl, rfl, s, rfl, o, ⟨_, rfl⟩, ?_⟩
    exact ⟨by rw [sizeLine_eq]; omega, e2, e3, q⟩
  · exact h.elim
theorem lg1920 {n : Nat} {a : Int} (h : Pn n a) (hn : n ≤ 1900) : a.natAbs.log2 < 1920 := PySem.Flt.log2_lt_of (by decide) (h.up (m := 1920) (by omega)).lt
theorem sc_l_whole : FnScope ["_law_thing"] ["_law_thing"] (defScope s_l_whole) := ⟨rfl, rfl, rfl, by decide +kernel, rfl, by decide +kernel, by decide +kernel⟩
def sp_l_whole (K : PySem.W.Frag) : SpT := fun ts S R _ => match ts with
  | [x] => ValT K S x ∧ R (.bl (isPos x)) S
  | _ => False
theorem ok_l_whole {P : Program} {w : World} {K : PySem.W.Frag} {mg : Str → Option Value} {base : Heap} {f : Addr} {fd : FuncData}   (F : Fun K "_law_whole" "_law_whole" s_l_whole f fd)
    (n_isinstance : mg "isinstance" = none)
    (n_bool : mg "bool" = none)
    (n_int : mg "int" = none)
    : FnT P w K mg base 1 f fd ["_law_thing"] (sp_l_whole K) := by
  refine okT F sc_l_whole (by intro ts S R RE h; unfold sp_l_whole at h; split at h <;> first | rfl | exact h.elim) (fun cdv A out s H E hg hr => (bs_one (ss_ret (et_and (et_blt call_isiY (cv_isi (K := K)) (by rfl) n_isinstance PyProof.Rows.boot_isinstance (at_cons (et_var (pv 0)) (at_cons (et_blty (by rfl) n_int PyProof.Rows.boot_int) at_nil))) (et_and (et_not (et_blt call_isiY (cv_isi (K := K)) (by rfl) n_isinstance PyProof.Rows.boot_isinstance (at_cons (et_var (pv 0)) (at_cons (et_blty (by rfl) n_bool PyProof.Rows.boot_bool) at_nil)))) (et_one (et_cmp op_gt cv_B2n (et_var (pv 0)) et_int (nomark _)))))))) ?_
  intro ts S R RE h
  unfold sp_l_whole at h
  split at h
  · rename_i x
    obtain ⟨hv, q⟩ := h
    simp only [sRet, rVar, rC, rBin, vAnd, vNot, aNil, aCons, rArgs, kI2n, startT, T.bl.injEq, Option.some.injEq, List.map_cons, List.map_nil, List.length_cons, List.length_nil, List.append_nil, List.getElem?_cons_zero, List.replicate_zero, exists_eq_left', Nat.sub_self, Nat.zero_add]
    refine hv.is (n := "int") (by decide) ?_
    cases x with
    | int i =>
      refine ⟨true, rfl, ?_⟩
      rw [if_pos rfl]
      refine hv.is (n := "bool") (by decide) ⟨false, rfl, ?_⟩
      simp only [reduceIte, Bool.not_false]
      exact q
    | bl b =>
      refine ⟨true, rfl, ?_⟩
      rw [if_pos rfl]
      refine hv.is (n := "bool") (by decide) ⟨true, rfl, ?_⟩
      simp only [reduceIte, Bool.false_eq_true, Bool.not_true]
      exact q
    | _ =>
      refine ⟨false, rfl, ?_⟩
      rw [if_neg Bool.false_ne_true]
      exact q
  · exact h.elim
theorem lw_same {a b : Int} (ha : 0 < a) (hb : 0 < b) : decide (lwA a b = a ∧ lwB a b = b) = decide (gcdI a b = 1) := by
  refine decide_eq_decide.mpr ⟨fun ⟨h, _⟩ => ?_, fun h => ?_⟩
  · have g := gcdI_pos (b := b) ha
    have e : gcdI a b * lwA a b = a := Int.mul_ediv_cancel' (Int.gcd_dvd_left a b)
    rw [h] at e
    have : gcdI a b * a = 1 * a := by omega
    exact Int.eq_of_mul_eq_mul_right (by omega) this
  · unfold lwA lwB
    rw [h, Int.ediv_one, Int.ediv_one]
    exact ⟨rfl, rfl⟩
theorem sc_l_is_part : FnScope ["_law_thing"] ["_law_thing"] (defScope s_l_is_part) := ⟨rfl, rfl, rfl, by decide +kernel, rfl, by decide +kernel, by decide +kernel⟩
def sp_l_is_part (K : PySem.W.Frag) : SpT := fun ts S R _ => match ts with
  | [x] => AnyV K S x ∧ R (.bl (goodF x)) S
  | _ => False
theorem ok_l_is_part {P : Program} {w : World} {K : PySem.W.Frag} {mg : Str → Option Value} {base : Heap} {f : Addr} {fd : FuncData} {g_l_low g_l_whole : Addr} {gd_l_low : FuncData} {gd_l_whole : FuncData} (F : Fun K "_law_is_part" "_law_is_part" s_l_is_part f fd)
    (n_len : mg "len" = none)
    (n_isinstance : mg "isinstance" = none)
    (n_tuple : mg "tuple" = none)
    (G_l_low : FnT P w K mg base 1 g_l_low gd_l_low ["_law_high_part", "_law_low_part"] sp_l_low)
    (m_l_low : mg "_law_low" = some (.ref g_l_low))
    (k_l_low : PySem.W.keepIn K (.ref g_l_low) = true)
    (b_l_low : Binds K gd_l_low ["_law_high_part", "_law_low_part"] [])
    (G_l_whole : FnT P w K mg base 1 g_l_whole gd_l_whole ["_law_thing"] (sp_l_whole K))
    (m_l_whole : mg "_law_whole" = some (.ref g_l_whole))
    (k_l_whole : PySem.W.keepIn K (.ref g_l_whole) = true)
    (b_l_whole : Binds K gd_l_whole ["_law_thing"] [])
    : FnT P w K mg base 2 f fd ["_law_thing"] (sp_l_is_part K) := by
  refine okT F sc_l_is_part (by intro ts S R RE h; unfold sp_l_is_part at h; split at h <;> first | rfl | exact h.elim) (fun cdv A out s H E hg hr => (bs_cons (ss_if (tt_w (tw_or (tt_not (tt_val (et_blt call_isiY (cv_isi (K := K)) (by rfl) n_isinstance PyProof.Rows.boot_isinstance (at_cons (et_var (pv 0)) (at_cons (et_blty (by rfl) n_tuple PyProof.Rows.boot_tuple) at_nil))))) (tw_or (tt_cmp (op_neG hr.units) cv_ne (et_blt call_len cv_len (by rfl) n_len PySem.boot_len (at_cons (et_var (pv 0)) at_nil)) et_int (nomark _)) (tw_or (tt_not (tt_val (et_callD G_l_whole hg (hr.mono (by decide)) (by rfl) m_l_whole k_l_whole (CallD.all b_l_whole) (passL2N (L2N.takes_of rfl rfl rfl rfl)) (at_cons (et_ix ix_seq cv_ix (et_var (pv 0)) et_int (fun _ _ => rfl)) at_nil)))) (tw_or1 (tt_not (tt_val (et_callD G_l_whole hg (hr.mono (by decide)) (by rfl) m_l_whole k_l_whole (CallD.all b_l_whole) (passL2N (L2N.takes_of rfl rfl rfl rfl)) (at_cons (et_ix ix_seq cv_ix (et_var (pv 0)) et_int (fun _ _ => rfl)) at_nil))))))))) (bs_one (ss_ret et_bl)) bs_nil)
    (bs_one (ss_ret (et_cmp (op_eqG hr.units) cv_eq (et_callD G_l_low hg (hr.mono (by decide)) (by rfl) m_l_low k_l_low (CallD.all b_l_low) (passL2N (L2N.takes_of rfl rfl rfl rfl)) (at_cons (et_ix ix_seq cv_ix (et_var (pv 0)) et_int (fun _ _ => rfl)) (at_cons (et_ix ix_seq cv_ix (et_var (pv 0)) et_int (fun _ _ => rfl)) at_nil))) (et_var (pv 0)) (nomark _)))))) ?_
  intro ts S R RE h
  unfold sp_l_is_part at h
  split at h
  · rename_i x
    obtain ⟨av, q⟩ := h
    refine sSeq_i fun N hN => ?_
    simp only [sRet, sIf, sNext, rVar, rC, rBin, rTest, bOr, bNot, aNil, aCons, rArgs, rCall, kIx, kLen, lenT, startT, List.cons.injEq, Option.some.injEq, List.map_cons, List.map_nil, List.length_cons, List.length_nil, List.append_nil, List.getElem?_cons_zero, List.replicate_zero, exists_eq_left', exists_and_left, and_true, Nat.sub_self, Nat.zero_add, reduceIte]
    refine av.v.is (n := "tuple") (by decide) ⟨isK x "tuple", rfl, ?_⟩
    cases ek : isK x "tuple" with
    | false =>
      have g : goodF x = false := by
        cases x <;> first | rfl | (cases ek; done)
      rw [g] at q
      simp only [reduceIte, Bool.not_false]
      exact q
    | true =>
      obtain ⟨l, rfl⟩ : ∃ l, x = .tup l := by
        cases x <;> first | (cases ek; done) | exact ⟨_, rfl⟩
      obtain ⟨vl, ll⟩ := av.l l rfl
      simp only [Option.some.injEq, exists_eq_left', reduceIte, Bool.false_eq_true, Bool.not_true]
      refine eqI ?_
      match l, vl, ll, q, av with
      | [], _, _, q, _ => exact ⟨true, rfl, by rw [if_pos rfl]; exact q⟩
      | [a], _, _, q, _ =>
        have e : goodF (.tup [a]) = false := by unfold goodF; split <;> simp_all
        exact ⟨true, rfl, by rw [if_pos rfl, ← e]; exact q⟩
      | a :: b :: c :: l, _, _, q, _ =>
        have e : goodF (.tup (a :: b :: c :: l)) = false := by unfold goodF; split <;> simp_all
        refine ⟨true, ?_, by rw [if_pos rfl, ← e]; exact q⟩
        have : ¬ ((((a :: b :: c :: l).length : Nat) : Int) = 2) := by simp only [List.length_cons]; omega
        rw [decide_eq_false this]; rfl
      | [y, z], vl, _, q, av =>
        refine ⟨false, rfl, ?_⟩
        have vy := vl y (by simp)
        have vz := vl z (by simp)
        simp only [sp_l_whole, T.bl.injEq, Option.some.injEq, exists_eq_left', reduceIte, Bool.false_eq_true, at_0, at_1]
        refine ⟨vy, ?_⟩
        cases ey : isPos y with
        | false =>
          rw [goodF_negL ey] at q
          rw [if_pos (by decide)]
          exact q
        | true =>
          rw [if_neg (by decide)]
          refine ⟨vz, ?_⟩
          cases ez : isPos z with
          | false =>
            rw [goodF_negR ez] at q
            rw [if_pos (by decide)]
            exact q
          | true =>
            obtain ⟨a, rfl, a0⟩ := isPos_int ey
            obtain ⟨b, rfl, b0⟩ := isPos_int ez
            obtain ⟨pa, pb⟩ := av.n a b rfl a0 b0
            rw [if_neg (by decide)]
            refine hN _ _ ?_
            simp only [sp_l_low, sRet, rVar, rC, rBin, aNil, aCons, rCall, kIx, Option.some.injEq, List.append_nil, List.getElem?_cons_zero, exists_eq_left', exists_and_left, at_0, at_1]
            refine ⟨pa, b0, eq_fr ?_⟩
            rw [Bool.false_xor, lw_same a0 b0]
            simp only [goodF, a0, b0, decide_true, Bool.true_and] at q
            exact q
  · exact h.elim
theorem ValT.dct {K : PySem.W.Frag} {S : Store} : ValT K S .dct := kind_of .dct (by show (kindsT.all fun n => kitB "dict" n == some (isK .dct n)) = true; decide +kernel)
theorem Sq.int {i : Int} (h : i.natAbs < 2 ^ 1900) : Sq 1 601 (.int i) := by
  have l : i.natAbs.log2 < 1900 := PySem.Flt.log2_lt_of (by decide) h
  refine ⟨?_, by simp only [PyData.depth]; omega, ?_⟩
  · have := PyData.showableAll_ints [i] (fun n m => by rw [List.mem_singleton.mp m]; omega)
    simpa only [List.map_cons, List.map_nil, PyData.showableAll, Bool.and_true] using this
  · rw [PyData.shown_int]
    exact intlen h
theorem lt1900 {i : Int} (h : i.natAbs < 2 ^ 200) : i.natAbs < 2 ^ 1900 := Nat.lt_trans h (by decide +kernel)
theorem Sq.bool (b : Bool) : Sq 1 5 (.bool b) := by
  refine ⟨by simp only [PyData.showable], by simp only [PyData.depth]; omega, ?_⟩
  rw [PyData.shown_bool]
  cases b <;> decide
/-- a part of an odd value -/
structure Leaf (x : T) : Prop where
  v : ∀ K S, ValT K S x
  d : ∃ d, x.datD = some d ∧ Sq 3 3000 d
  n : ∀ a, x = .int a → a.natAbs < 2 ^ 200
/-- a value that is asked as a scale -/
structure OddV (x : T) : Prop where
  v : ∀ K S, AnyV K S x
  d : ∃ d, x.datD = some d ∧ Sq 64 16777216 d
  i : ∀ a, x = .int a → a.natAbs < 2 ^ 200
  p : ∀ a b, x = .tup [.int a, .int b] → a.natAbs < 2 ^ 200 ∧ b.natAbs < 2 ^ 200
theorem leaf_int {i : Int} (h : i.natAbs < 2 ^ 200) : Leaf (.int i) := ⟨fun _ _ => .int, ⟨_, by rw [T.datD], (Sq.int (lt1900 h)).up (by decide) (by decide)⟩, fun a e => by cases e; exact h⟩
theorem leaf_bl {b : Bool} : Leaf (.bl b) := ⟨fun _ _ => .bl, ⟨_, by rw [T.datD], (Sq.bool b).up (by decide) (by decide)⟩, fun a e => by cases e⟩
theorem leaf_non : Leaf .non := ⟨fun _ _ => .non, ⟨_, by rw [T.datD], Sq.non.up (by decide) (by decide)⟩, fun a e => by cases e⟩
theorem leaf_dct : Leaf .dct := ⟨fun _ _ => .dct, ⟨_, by rw [T.datD], Sq.dic.up (by decide) (by decide)⟩, fun a e => by cases e⟩
theorem leaf_str {z : Str} (h : (reprText z).length ≤ 3000) : Leaf (.str z) := ⟨fun _ _ => .str, ⟨_, by rw [T.datD], (Sq.str h).up (by decide) (by decide)⟩, fun a e => by cases e⟩
theorem datDL_all {k n : Nat} : ∀ {l : List T}, (∀ y ∈ l, ∃ d, y.datD = some d ∧ Sq k n d) → ∃ ds, T.datDL l = some ds ∧ SqA k (l.length * (n + 2)) ds
  | [], _ => ⟨[], by rw [T.datDL], by simpa using SqA.nil⟩
  | y :: l, h => by
    obtain ⟨d, e1, s1⟩ := h y (List.mem_cons_self ..)
    obtain ⟨ds, e2, s2⟩ := datDL_all (l := l) fun z m => h z (List.mem_cons_of_mem _ m)
    refine ⟨d :: ds, by rw [T.datDL, e1, e2], ?_⟩
    have := SqA.cons s1 s2
    have e : n + l.length * (n + 2) + 2 = (y :: l).length * (n + 2) := by rw [List.length_cons, Nat.succ_mul]; omega
    rw [e] at this
    exact this
theorem odd_tup {l : List T} (h : ∀ y ∈ l, Leaf y) (hl : l.length ≤ 5) : OddV (.tup l) := by
  refine ⟨fun K S => ⟨.tup, fun ts e => ?_, fun a b e _ _ => ?_⟩, ?_, fun _ e => (by cases e), fun a b e => ?_⟩
  · have e := T.tup.inj e
    subst e
    exact ⟨fun y m => (h y m).v K S, by omega⟩
  · have e := T.tup.inj e
    subst e
    rename_i ha hb
    exact ⟨⟨ha, Nat.lt_trans ((h (.int a) (by simp)).n a rfl) (by decide +kernel)⟩, ⟨hb, Nat.lt_trans ((h (.int b) (by simp)).n b rfl) (by decide +kernel)⟩⟩
  · obtain ⟨ds, e, s⟩ := datDL_all fun y m => (h y m).d
    refine ⟨_, by rw [T.datD, e]; rfl, (Sq.tup s).up (by decide) ?_⟩
    have : l.length * (3000 + 2) ≤ 5 * (3000 + 2) := Nat.mul_le_mul_right _ hl
    omega
  · have e := T.tup.inj e
    subst e
    exact ⟨(h (.int a) (by simp)).n a rfl, (h (.int b) (by simp)).n b rfl⟩
theorem odd_lst {l : List T} (h : ∀ y ∈ l, Leaf y) (hl : l.length ≤ 5) : OddV (.lst l) := by
  refine ⟨fun K S => ⟨.lst, fun ts e => (by cases e), fun a b e => (by cases e)⟩, ?_, fun _ e => (by cases e), fun _ _ e => (by cases e)⟩
  obtain ⟨ds, e, s⟩ := datDL_all fun y m => (h y m).d
  refine ⟨_, by rw [T.datD, e]; rfl, (Sq.lst s).up (by decide) ?_⟩
  have : l.length * (3000 + 2) ≤ 5 * (3000 + 2) := Nat.mul_le_mul_right _ hl
  omega
theorem odd_leaf {x : T} (h : Leaf x) (nt : ∀ l, x ≠ .tup l) : OddV x := by
  refine ⟨fun K S => ⟨h.v K S, fun ts e => absurd e (nt ts), fun a b e => absurd e (nt _)⟩, ?_, h.n, fun a b e => absurd e (nt _)⟩
  obtain ⟨d, e, s⟩ := h.d
  exact ⟨d, e, s.up (by decide) (by decide)⟩
theorem odd_int {i : Int} (h : i.natAbs < 2 ^ 200) : OddV (.int i) := odd_leaf (leaf_int h) fun l e => by cases e
theorem at_odd {L : List T} {n : Nat} {r : Int} {S : Store} {R : T → Store → Prop} (hl : L.length = n) (h : ∀ x ∈ L, OddV x) (r0 : 0 ≤ r) (r1 : r < n) (q : ∀ x, OddV x → R x S) : ∃ t, atI L r = some t ∧ R t S := by
  have lt : r.toNat < L.length := by omega
  have := atI_nat (xs := L) (j := r.toNat) (v := L[r.toNat]) (List.getElem?_eq_getElem lt)
  rw [show ((r.toNat : Nat) : Int) = r by omega] at this
  exact ⟨_, this, q _ (h _ (List.getElem_mem lt))⟩
theorem leaf_tup {l : List T} (h : ∀ y ∈ l, ∃ d, y.datD = some d ∧ Sq 2 700 d) (hl : l.length ≤ 3) : Leaf (.tup l) := by
  refine ⟨fun _ _ => .tup, ?_, fun _ e => (by cases e)⟩
  obtain ⟨ds, e, s⟩ := datDL_all h
  refine ⟨_, by rw [T.datD, e]; rfl, (Sq.tup s).up (by decide) ?_⟩
  have : l.length * (700 + 2) ≤ 3 * (700 + 2) := Nat.mul_le_mul_right _ hl
  omega
theorem leaf_lst {l : List T} (h : ∀ y ∈ l, ∃ d, y.datD = some d ∧ Sq 2 700 d) (hl : l.length ≤ 3) : Leaf (.lst l) := by
  refine ⟨fun _ _ => .lst, ?_, fun _ e => (by cases e)⟩
  obtain ⟨ds, e, s⟩ := datDL_all h
  refine ⟨_, by rw [T.datD, e]; rfl, (Sq.lst s).up (by decide) ?_⟩
  have : l.length * (700 + 2) ≤ 3 * (700 + 2) := Nat.mul_le_mul_right _ hl
  omega
theorem d_int {i : Int} (h : i.natAbs < 2 ^ 200) : ∃ d, (T.int i).datD = some d ∧ Sq 2 700 d := ⟨_, by rw [T.datD], (Sq.int (lt1900 h)).up (by decide) (by decide)⟩
theorem one_mem {P : T → Prop} {a : T} (h : P a) : ∀ y ∈ [a], P y := fun y m => by rw [List.mem_singleton.mp m]; exact h
theorem two_mem {P : T → Prop} {a b : T} (h : P a) (k : P b) : ∀ y ∈ [a, b], P y := fun y m => by
  simp only [List.mem_cons, List.not_mem_nil, or_false] at m
  rcases m with rfl | rfl
  · exact h
  · exact k
theorem ten61 : (2 : Nat) ^ 200 < 10 ^ 61 := by decide +kernel
theorem leaf_num {a : Int} (f : Pn 200 a) : Leaf (.str (Str.ofString (toString a))) := by
  refine leaf_str ?_
  have hl : (Str.ofString (toString a)).length ≤ 62 := by
    rw [PySem.ofString_length]
    exact PySem.int_text_length_le10 (k := 61) (by decide) (Nat.lt_trans f.lt ten61)
  have c := StrLaws.reprText_len (Str.ofString (toString a)) (fun c hc => by
    obtain ⟨n, rfl⟩ := Int.eq_ofNat_of_zero_le (show 0 ≤ a by have := f.pos; omega)
    have e : (Str.ofString (toString ((n : Nat) : Int))).cps.toList = TL.numL n := TL.tl_num n
    rw [e] at hc
    have := TL.numL_digits n c hc
    omega)
  omega
theorem sc_l_odd : FnScope ["_law_pool_here", "_law_high", "_law_low_here", "_law_many", "_law_some"] ["_law_pool_here"] (defScope s_l_odd) := ⟨rfl, rfl, rfl, by decide +kernel, rfl, by decide +kernel, by decide +kernel⟩
def sp_l_odd : SpT := fun ts S R _ => match ts with
  | [.cell p] => PoolT S p ∧ ∀ x S', OddV x → PS S p S' → R x S'
  | _ => False
set_option maxHeartbeats 3200000 in
theorem ok_l_odd {P : Program} {w : World} {K : PySem.W.Frag} {mg : Str → Option Value} {base : Heap} {f : Addr} {fd : FuncData} {g_l_draw g_l_part : Addr} {gd_l_draw : FuncData} {gd_l_part : FuncData} (F : Fun K "_law_odd" "_law_odd" s_l_odd f fd)
    (n_str : mg "str" = none)
    (G_l_draw : FnT P w K mg base 1 g_l_draw gd_l_draw ["_law_pool_here", "_law_most"] sp_l_draw)
    (m_l_draw : mg "_law_draw" = some (.ref g_l_draw))
    (k_l_draw : PySem.W.keepIn K (.ref g_l_draw) = true)
    (b_l_draw : Binds K gd_l_draw ["_law_pool_here", "_law_most"] [])
    (G_l_part : FnT P w K mg base 2 g_l_part gd_l_part ["_law_pool_here", "_law_great"] sp_l_part)
    (m_l_part : mg "_law_part" = some (.ref g_l_part))
    (k_l_part : PySem.W.keepIn K (.ref g_l_part) = true)
    (b_l_part : Binds K gd_l_part ["_law_pool_here", "_law_great"] [])
    : FnT P w K mg base 3 f fd ["_law_pool_here"] sp_l_odd := by
  refine okT F sc_l_odd (by intro ts S R RE h; unfold sp_l_odd at h; split at h <;> first | rfl | exact h.elim) (fun cdv A out s H E hg hr => (bs_cons (ss_asg (et_callD G_l_part hg (hr.mono (by decide)) (by rfl) m_l_part k_l_part (CallD.all b_l_part) (passL2N (L2N.takes_of rfl rfl rfl rfl)) (at_cons (et_var (pv 0)) (at_cons et_bl at_nil))) (gt_tup (n := 2) (by rfl) (gts_cons (gt_name (pg_name (i := 1) sc_l_odd.nd rfl (by first | exact Or.inl rfl | exact Or.inr rfl))) (gts_cons (gt_name (pg_name (i := 2) sc_l_odd.nd rfl (by first | exact Or.inl rfl | exact Or.inr rfl))) gts_nil))))
    (bs_cons (ss_set (i := 3) sc_l_odd.nd rfl (by first | exact Or.inl rfl | exact Or.inr rfl) (et_op op_addG cv_add et_int (et_callD G_l_draw hg (hr.mono (by decide)) (by rfl) m_l_draw k_l_draw (CallD.all b_l_draw) (passL2N (L2N.takes_of rfl rfl rfl rfl)) (at_cons (et_var (pv 0)) (at_cons et_int at_nil)))))
    (bs_cons (ss_set (i := 4) sc_l_odd.nd rfl (by first | exact Or.inl rfl | exact Or.inr rfl) (et_lst (at_cons (et_tup (at_cons (et_op op_mulG cv_mul (et_var (pv 1)) (et_var (pv 3))) (at_cons (et_op op_mulG cv_mul (et_var (pv 2)) (et_var (pv 3))) at_nil))) (at_cons (et_tup (at_cons (et_var (pv 1)) (at_cons (et_var (pv 2)) (at_cons et_int at_nil)))) (at_cons (et_tup (at_cons (et_var (pv 1)) at_nil)) (at_cons (et_lst (at_cons (et_var (pv 1)) (at_cons (et_var (pv 2)) at_nil))) (at_cons (et_tup (at_cons et_bl (at_cons (et_var (pv 2)) at_nil))) (at_cons (et_tup (at_cons (et_var (pv 1)) (at_cons et_bl at_nil))) (at_cons (et_tup (at_cons et_int (at_cons (et_var (pv 2)) at_nil))) at_nil)))))))))
    (bs_cons (ss_set (i := 4) sc_l_odd.nd rfl (by first | exact Or.inl rfl | exact Or.inr rfl) (et_op op_addG cv_add (et_var (pv 4)) (et_lst (at_cons (et_tup (at_cons (et_op op_sub cv_I2n et_int (et_var (pv 1))) (at_cons (et_var (pv 2)) at_nil))) (at_cons (et_tup (at_cons (et_var (pv 1)) (at_cons (et_op op_sub cv_I2n et_int (et_var (pv 2))) at_nil))) (at_cons (et_tup (at_cons (et_var (pv 1)) (at_cons et_int at_nil))) (at_cons (et_tup (at_cons (et_typ call_str_int cv_strI (by rfl) n_str PyProof.Rows.boot_str (at_cons (et_var (pv 1)) at_nil)) (at_cons (et_var (pv 2)) at_nil))) (at_cons (et_tup (at_cons (et_var (pv 1)) (at_cons et_non at_nil))) (at_cons (et_tup (at_cons (et_tup (at_cons (et_var (pv 1)) at_nil)) (at_cons (et_var (pv 2)) at_nil))) at_nil)))))))))
    (bs_cons (ss_set (i := 4) sc_l_odd.nd rfl (by first | exact Or.inl rfl | exact Or.inr rfl) (et_op op_addG cv_add (et_var (pv 4)) (et_lst (at_cons (et_tup (at_cons (et_lst (at_cons (et_var (pv 1)) at_nil)) (at_cons (et_var (pv 2)) at_nil))) (at_cons (et_tup (at_cons (et_var (pv 1)) (at_cons et_dct at_nil))) (at_cons (et_tup (at_cons (et_var (pv 2)) (at_cons (et_var (pv 1)) at_nil))) (at_cons (et_tup (at_cons (et_op op_mulG cv_mul (et_var (pv 1)) (et_var (pv 3))) (at_cons (et_op op_mulG cv_mul (et_var (pv 1)) (et_var (pv 3))) at_nil))) (at_cons (et_tup (at_cons (et_op op_addG cv_add (et_var (pv 1)) (et_var (pv 2))) (at_cons (et_var (pv 2)) at_nil))) at_nil))))))))
    (bs_cons (ss_set (i := 4) sc_l_odd.nd rfl (by first | exact Or.inl rfl | exact Or.inr rfl) (et_op op_addG cv_add (et_var (pv 4)) (et_lst (at_cons (et_tup (at_cons (et_tup (at_cons (et_var (pv 1)) (at_cons (et_var (pv 2)) at_nil))) (at_cons et_int at_nil))) (at_cons et_non (at_cons et_int (at_cons et_bl (at_cons et_bl (at_cons et_str (at_cons et_str (at_cons (et_tup at_nil) (at_cons (et_lst at_nil) (at_cons et_dct (at_cons (et_tup (at_cons (et_tup (at_cons (et_var (pv 1)) (at_cons (et_var (pv 2)) at_nil))) at_nil)) (at_cons (et_op op_sub cv_I2n et_int (et_var (pv 1))) (at_cons (et_tup (at_cons (et_lst at_nil) at_nil)) at_nil))))))))))))))))
    (bs_one (ss_ret (et_ix ix_seq cv_ix (et_op op_addG cv_add (et_var (pv 4)) (et_lst (at_cons (et_typ call_str_int cv_strI (by rfl) n_str PyProof.Rows.boot_str (at_cons (et_var (pv 1)) at_nil)) at_nil))) (et_callD G_l_draw hg (hr.mono (by decide)) (by rfl) m_l_draw k_l_draw (CallD.all b_l_draw) (passL2N (L2N.takes_of rfl rfl rfl rfl)) (at_cons (et_var (pv 0)) (at_cons et_int at_nil))) (fun _ _ => rfl))))))))))) ?_
  intro ts S R RE h
  unfold sp_l_odd at h
  split at h
  · rename_i p
    obtain ⟨hp, q⟩ := h
    refine sSeq_i fun N hN => ?_
    simp only [sp_l_part, frT, rCallOwn, iZipT, kMaxT, rRevT, rDix2, sFrzV, sDrp, rSlC, rDget2, sSeq, sAsg, sDrop, sRet, sRetN, sIf, sNext, sPar, sPar3, sFor, sRaise, sFldT, sNo, rNo, rVar, rFrz, rC, rBin, rTest, bAnd, bOr, bNot, bIf, vAnd, vOr, vNot, rIf, rNeg, aNil, aCons, rTup, rLst, rLstC, rArgs, gNameT, gNilT, gConsT, gTupT, gSubT, iSeq, iRng1T, iRng2T, rLc, rCall, rCallN, rCallS, rFld, rCon, rMake, rMakeN, rMakeP, rMeth, rMethK, rProp, rClsFn, rOpOwn, rSl, oNone, oSome, rFmt, kFmt, rJs, rLidx, rChain, rTru, truT, rStr0, rPart, rSplit, kIntS, gStarT, kStrOwn, kAddC, rDct, kInt1, iEnumT, rMakeStar, rJoin, iZipM, iSeqH, iEnumL, rLc2, rTruC, rLcP, kLenOwn, kBoolOwn, rCMeth, rClsStar, rClsMake, rLz, rRevL, rRev2, rCMethK, rExcV, rMut, kAdd, kI2, kI2n, kMul, kIx, kIn, kLen, kU, kA2, kDm, kStrI, kAll, kSl, kAppend, kExtend, kTuple, kList, lenT, seqOf, bYes, startT, one, pickG, selG, insOf, putT, flatT, Bool.false_xor, Bool.true_xor, List.all_cons, List.all_nil, Bool.and_self, T.int.injEq, T.bl.injEq, T.str.injEq, T.lst.injEq, T.tup.injEq, T.cell.injEq, T.ins.injEq, Cell.lst.injEq, Cell.ins.injEq, Prod.mk.injEq, List.cons.injEq, Option.some.injEq, List.map_cons, List.map_nil, List.length_cons, List.length_nil, List.cons_append, List.nil_append, List.append_nil, List.getElem?_cons_zero, List.getElem?_cons_succ, List.set_cons_zero, List.set_cons_succ, List.replicate_succ, List.replicate_zero, exists_eq_left, exists_eq_left', exists_and_left, and_true, true_and, and_self, and_assoc, Nat.sub_self, Nat.reduceAdd, Nat.reduceSub, Nat.zero_add, put_put, put_same, reduceIte, Bool.false_eq_true, Bool.true_eq_false, Bool.not_true, Bool.not_false, at_0, at_1, at_2, at_3, at_4, at_5, at_6, at_7, ix_1_0, ix_2_0, ix_2_1, ix_3_0, ix_3_1, ix_3_2, ix_4_0, ix_4_1, ix_4_2, ix_4_3]
    refine ⟨hp, fun a b S1 f p1 => hN _ _ ?_⟩
    clear hN
    refine sSeq_i fun N hN => ?_
    simp only [sp_l_draw, rCallOwn, iZipT, kMaxT, rRevT, rDix2, sFrzV, sDrp, rSlC, rDget2, sSeq, sAsg, sDrop, sRet, sRetN, sIf, sNext, sPar, sPar3, sFor, sRaise, sFldT, sNo, rNo, rVar, rFrz, rC, rBin, rTest, bAnd, bOr, bNot, bIf, vAnd, vOr, vNot, rIf, rNeg, aNil, aCons, rTup, rLst, rLstC, rArgs, gNameT, gNilT, gConsT, gTupT, gSubT, iSeq, iRng1T, iRng2T, rLc, rCall, rCallN, rCallS, rFld, rCon, rMake, rMakeN, rMakeP, rMeth, rMethK, rProp, rClsFn, rOpOwn, rSl, oNone, oSome, rFmt, kFmt, rJs, rLidx, rChain, rTru, truT, rStr0, rPart, rSplit, kIntS, gStarT, kStrOwn, kAddC, rDct, kInt1, iEnumT, rMakeStar, rJoin, iZipM, iSeqH, iEnumL, rLc2, rTruC, rLcP, kLenOwn, kBoolOwn, rCMeth, rClsStar, rClsMake, rLz, rRevL, rRev2, rCMethK, rExcV, rMut, kAdd, kI2, kI2n, kMul, kIx, kIn, kLen, kU, kA2, kDm, kStrI, kAll, kSl, kAppend, kExtend, kTuple, kList, lenT, seqOf, bYes, startT, one, pickG, selG, insOf, putT, flatT, Bool.false_xor, Bool.true_xor, List.all_cons, List.all_nil, Bool.and_self, T.int.injEq, T.bl.injEq, T.str.injEq, T.lst.injEq, T.tup.injEq, T.cell.injEq, T.ins.injEq, Cell.lst.injEq, Cell.ins.injEq, Prod.mk.injEq, List.cons.injEq, Option.some.injEq, List.map_cons, List.map_nil, List.length_cons, List.length_nil, List.cons_append, List.nil_append, List.append_nil, List.getElem?_cons_zero, List.getElem?_cons_succ, List.set_cons_zero, List.set_cons_succ, List.replicate_succ, List.replicate_zero, exists_eq_left, exists_eq_left', exists_and_left, and_true, true_and, and_self, and_assoc, Nat.sub_self, Nat.reduceAdd, Nat.reduceSub, Nat.zero_add, put_put, put_same, reduceIte, Bool.false_eq_true, Bool.true_eq_false, Bool.not_true, Bool.not_false, at_0, at_1, at_2, at_3, at_4, at_5, at_6, at_7, ix_1_0, ix_2_0, ix_2_1, ix_3_0, ix_3_1, ix_3_2, ix_4_0, ix_4_1, ix_4_2, ix_4_3]
    refine ⟨p1.pool, Pn.of (by decide) (by decide), fun m S2 m0 m1 p2 => hN _ _ ?_⟩
    clear hN
    have pm : Pn 4 (2 + m) := Pn.of (by omega) (by omega)
    have la := f.a.up (m := 200) (by decide)
    have lb := f.b.up (m := 200) (by decide)
    have lga := lg1920 f.a (by decide)
    refine sSeq_i fun N hN => ?_
    simp only [rCallOwn, iZipT, kMaxT, rRevT, rDix2, sFrzV, sDrp, rSlC, rDget2, sSeq, sAsg, sDrop, sRet, sRetN, sIf, sNext, sPar, sPar3, sFor, sRaise, sFldT, sNo, rNo, rVar, rFrz, rC, rBin, rTest, bAnd, bOr, bNot, bIf, vAnd, vOr, vNot, rIf, rNeg, aNil, aCons, rTup, rLst, rLstC, rArgs, gNameT, gNilT, gConsT, gTupT, gSubT, iSeq, iRng1T, iRng2T, rLc, rCall, rCallN, rCallS, rFld, rCon, rMake, rMakeN, rMakeP, rMeth, rMethK, rProp, rClsFn, rOpOwn, rSl, oNone, oSome, rFmt, kFmt, rJs, rLidx, rChain, rTru, truT, rStr0, rPart, rSplit, kIntS, gStarT, kStrOwn, kAddC, rDct, kInt1, iEnumT, rMakeStar, rJoin, iZipM, iSeqH, iEnumL, rLc2, rTruC, rLcP, kLenOwn, kBoolOwn, rCMeth, rClsStar, rClsMake, rLz, rRevL, rRev2, rCMethK, rExcV, rMut, kAdd, kI2, kI2n, kMul, kIx, kIn, kLen, kU, kA2, kDm, kStrI, kAll, kSl, kAppend, kExtend, kTuple, kList, lenT, seqOf, bYes, startT, one, pickG, selG, insOf, putT, flatT, Bool.false_xor, Bool.true_xor, List.all_cons, List.all_nil, Bool.and_self, T.int.injEq, T.bl.injEq, T.str.injEq, T.lst.injEq, T.tup.injEq, T.cell.injEq, T.ins.injEq, Cell.lst.injEq, Cell.ins.injEq, Prod.mk.injEq, List.cons.injEq, Option.some.injEq, List.map_cons, List.map_nil, List.length_cons, List.length_nil, List.cons_append, List.nil_append, List.append_nil, List.getElem?_cons_zero, List.getElem?_cons_succ, List.set_cons_zero, List.set_cons_succ, List.replicate_succ, List.replicate_zero, exists_eq_left, exists_eq_left', exists_and_left, and_true, true_and, and_self, and_assoc, Nat.sub_self, Nat.reduceAdd, Nat.reduceSub, Nat.zero_add, put_put, put_same, reduceIte, Bool.false_eq_true, Bool.true_eq_false, Bool.not_true, Bool.not_false, at_0, at_1, at_2, at_3, at_4, at_5, at_6, at_7, ix_1_0, ix_2_0, ix_2_1, ix_3_0, ix_3_1, ix_3_2, ix_4_0, ix_4_1, ix_4_2, ix_4_3]
    refine ⟨f.a.mulW pm, f.b.mulW pm, by decide, by decide, by decide, by decide, by decide, by decide, by decide, by decide, hN _ _ ?_⟩
    clear hN
    refine sSeq_i fun N hN => ?_
    simp only [rCallOwn, iZipT, kMaxT, rRevT, rDix2, sFrzV, sDrp, rSlC, rDget2, sSeq, sAsg, sDrop, sRet, sRetN, sIf, sNext, sPar, sPar3, sFor, sRaise, sFldT, sNo, rNo, rVar, rFrz, rC, rBin, rTest, bAnd, bOr, bNot, bIf, vAnd, vOr, vNot, rIf, rNeg, aNil, aCons, rTup, rLst, rLstC, rArgs, gNameT, gNilT, gConsT, gTupT, gSubT, iSeq, iRng1T, iRng2T, rLc, rCall, rCallN, rCallS, rFld, rCon, rMake, rMakeN, rMakeP, rMeth, rMethK, rProp, rClsFn, rOpOwn, rSl, oNone, oSome, rFmt, kFmt, rJs, rLidx, rChain, rTru, truT, rStr0, rPart, rSplit, kIntS, gStarT, kStrOwn, kAddC, rDct, kInt1, iEnumT, rMakeStar, rJoin, iZipM, iSeqH, iEnumL, rLc2, rTruC, rLcP, kLenOwn, kBoolOwn, rCMeth, rClsStar, rClsMake, rLz, rRevL, rRev2, rCMethK, rExcV, rMut, kAdd, kI2, kI2n, kMul, kIx, kIn, kLen, kU, kA2, kDm, kStrI, kAll, kSl, kAppend, kExtend, kTuple, kList, lenT, seqOf, bYes, startT, one, pickG, selG, insOf, putT, flatT, Bool.false_xor, Bool.true_xor, List.all_cons, List.all_nil, Bool.and_self, T.int.injEq, T.bl.injEq, T.str.injEq, T.lst.injEq, T.tup.injEq, T.cell.injEq, T.ins.injEq, Cell.lst.injEq, Cell.ins.injEq, Prod.mk.injEq, List.cons.injEq, Option.some.injEq, List.map_cons, List.map_nil, List.length_cons, List.length_nil, List.cons_append, List.nil_append, List.append_nil, List.getElem?_cons_zero, List.getElem?_cons_succ, List.set_cons_zero, List.set_cons_succ, List.replicate_succ, List.replicate_zero, exists_eq_left, exists_eq_left', exists_and_left, and_true, true_and, and_self, and_assoc, Nat.sub_self, Nat.reduceAdd, Nat.reduceSub, Nat.zero_add, put_put, put_same, reduceIte, Bool.false_eq_true, Bool.true_eq_false, Bool.not_true, Bool.not_false, at_0, at_1, at_2, at_3, at_4, at_5, at_6, at_7, ix_1_0, ix_2_0, ix_2_1, ix_3_0, ix_3_1, ix_3_2, ix_4_0, ix_4_1, ix_4_2, ix_4_3]
    have dz : ∀ n : Nat, n ≤ 100 → n ≤ sizeLine := fun n h => by rw [sizeLine_eq]; omega
    refine ⟨dz 2 (by decide), dz 2 (by decide), dz 2 (by decide), lga, dz 2 (by decide), dz 2 (by decide), dz 1 (by decide), dz 2 (by decide), dz 6 (by decide), dz 13 (by decide), hN _ _ ?_⟩
    clear hN
    refine sSeq_i fun N hN => ?_
    simp only [rCallOwn, iZipT, kMaxT, rRevT, rDix2, sFrzV, sDrp, rSlC, rDget2, sSeq, sAsg, sDrop, sRet, sRetN, sIf, sNext, sPar, sPar3, sFor, sRaise, sFldT, sNo, rNo, rVar, rFrz, rC, rBin, rTest, bAnd, bOr, bNot, bIf, vAnd, vOr, vNot, rIf, rNeg, aNil, aCons, rTup, rLst, rLstC, rArgs, gNameT, gNilT, gConsT, gTupT, gSubT, iSeq, iRng1T, iRng2T, rLc, rCall, rCallN, rCallS, rFld, rCon, rMake, rMakeN, rMakeP, rMeth, rMethK, rProp, rClsFn, rOpOwn, rSl, oNone, oSome, rFmt, kFmt, rJs, rLidx, rChain, rTru, truT, rStr0, rPart, rSplit, kIntS, gStarT, kStrOwn, kAddC, rDct, kInt1, iEnumT, rMakeStar, rJoin, iZipM, iSeqH, iEnumL, rLc2, rTruC, rLcP, kLenOwn, kBoolOwn, rCMeth, rClsStar, rClsMake, rLz, rRevL, rRev2, rCMethK, rExcV, rMut, kAdd, kI2, kI2n, kMul, kIx, kIn, kLen, kU, kA2, kDm, kStrI, kAll, kSl, kAppend, kExtend, kTuple, kList, lenT, seqOf, bYes, startT, one, pickG, selG, insOf, putT, flatT, Bool.false_xor, Bool.true_xor, List.all_cons, List.all_nil, Bool.and_self, T.int.injEq, T.bl.injEq, T.str.injEq, T.lst.injEq, T.tup.injEq, T.cell.injEq, T.ins.injEq, Cell.lst.injEq, Cell.ins.injEq, Prod.mk.injEq, List.cons.injEq, Option.some.injEq, List.map_cons, List.map_nil, List.length_cons, List.length_nil, List.cons_append, List.nil_append, List.append_nil, List.getElem?_cons_zero, List.getElem?_cons_succ, List.set_cons_zero, List.set_cons_succ, List.replicate_succ, List.replicate_zero, exists_eq_left, exists_eq_left', exists_and_left, and_true, true_and, and_self, and_assoc, Nat.sub_self, Nat.reduceAdd, Nat.reduceSub, Nat.zero_add, put_put, put_same, reduceIte, Bool.false_eq_true, Bool.true_eq_false, Bool.not_true, Bool.not_false, at_0, at_1, at_2, at_3, at_4, at_5, at_6, at_7, ix_1_0, ix_2_0, ix_2_1, ix_3_0, ix_3_1, ix_3_2, ix_4_0, ix_4_1, ix_4_2, ix_4_3]
    refine ⟨dz 1 (by decide), dz 2 (by decide), dz 2 (by decide), dz 2 (by decide), f.a.mulW pm, f.a.mulW pm, dz 2 (by decide), dz 2 (by decide), dz 5 (by decide), dz 18 (by decide), hN _ _ ?_⟩
    clear hN
    refine sSeq_i fun N hN => ?_
    simp only [rCallOwn, iZipT, kMaxT, rRevT, rDix2, sFrzV, sDrp, rSlC, rDget2, sSeq, sAsg, sDrop, sRet, sRetN, sIf, sNext, sPar, sPar3, sFor, sRaise, sFldT, sNo, rNo, rVar, rFrz, rC, rBin, rTest, bAnd, bOr, bNot, bIf, vAnd, vOr, vNot, rIf, rNeg, aNil, aCons, rTup, rLst, rLstC, rArgs, gNameT, gNilT, gConsT, gTupT, gSubT, iSeq, iRng1T, iRng2T, rLc, rCall, rCallN, rCallS, rFld, rCon, rMake, rMakeN, rMakeP, rMeth, rMethK, rProp, rClsFn, rOpOwn, rSl, oNone, oSome, rFmt, kFmt, rJs, rLidx, rChain, rTru, truT, rStr0, rPart, rSplit, kIntS, gStarT, kStrOwn, kAddC, rDct, kInt1, iEnumT, rMakeStar, rJoin, iZipM, iSeqH, iEnumL, rLc2, rTruC, rLcP, kLenOwn, kBoolOwn, rCMeth, rClsStar, rClsMake, rLz, rRevL, rRev2, rCMethK, rExcV, rMut, kAdd, kI2, kI2n, kMul, kIx, kIn, kLen, kU, kA2, kDm, kStrI, kAll, kSl, kAppend, kExtend, kTuple, kList, lenT, seqOf, bYes, startT, one, pickG, selG, insOf, putT, flatT, Bool.false_xor, Bool.true_xor, List.all_cons, List.all_nil, Bool.and_self, T.int.injEq, T.bl.injEq, T.str.injEq, T.lst.injEq, T.tup.injEq, T.cell.injEq, T.ins.injEq, Cell.lst.injEq, Cell.ins.injEq, Prod.mk.injEq, List.cons.injEq, Option.some.injEq, List.map_cons, List.map_nil, List.length_cons, List.length_nil, List.cons_append, List.nil_append, List.append_nil, List.getElem?_cons_zero, List.getElem?_cons_succ, List.set_cons_zero, List.set_cons_succ, List.replicate_succ, List.replicate_zero, exists_eq_left, exists_eq_left', exists_and_left, and_true, true_and, and_self, and_assoc, Nat.sub_self, Nat.reduceAdd, Nat.reduceSub, Nat.zero_add, put_put, put_same, reduceIte, Bool.false_eq_true, Bool.true_eq_false, Bool.not_true, Bool.not_false, at_0, at_1, at_2, at_3, at_4, at_5, at_6, at_7, ix_1_0, ix_2_0, ix_2_1, ix_3_0, ix_3_1, ix_3_2, ix_4_0, ix_4_1, ix_4_2, ix_4_3]
    repeat (refine ⟨dz _ (by decide), ?_⟩)
    refine hN _ _ ?_
    clear hN
    simp only [sp_l_draw, rCallOwn, iZipT, kMaxT, rRevT, rDix2, sFrzV, sDrp, rSlC, rDget2, sSeq, sAsg, sDrop, sRet, sRetN, sIf, sNext, sPar, sPar3, sFor, sRaise, sFldT, sNo, rNo, rVar, rFrz, rC, rBin, rTest, bAnd, bOr, bNot, bIf, vAnd, vOr, vNot, rIf, rNeg, aNil, aCons, rTup, rLst, rLstC, rArgs, gNameT, gNilT, gConsT, gTupT, gSubT, iSeq, iRng1T, iRng2T, rLc, rCall, rCallN, rCallS, rFld, rCon, rMake, rMakeN, rMakeP, rMeth, rMethK, rProp, rClsFn, rOpOwn, rSl, oNone, oSome, rFmt, kFmt, rJs, rLidx, rChain, rTru, truT, rStr0, rPart, rSplit, kIntS, gStarT, kStrOwn, kAddC, rDct, kInt1, iEnumT, rMakeStar, rJoin, iZipM, iSeqH, iEnumL, rLc2, rTruC, rLcP, kLenOwn, kBoolOwn, rCMeth, rClsStar, rClsMake, rLz, rRevL, rRev2, rCMethK, rExcV, rMut, kAdd, kI2, kI2n, kMul, kIx, kIn, kLen, kU, kA2, kDm, kStrI, kAll, kSl, kAppend, kExtend, kTuple, kList, lenT, seqOf, bYes, startT, one, pickG, selG, insOf, putT, flatT, Bool.false_xor, Bool.true_xor, List.all_cons, List.all_nil, Bool.and_self, T.int.injEq, T.bl.injEq, T.str.injEq, T.lst.injEq, T.tup.injEq, T.cell.injEq, T.ins.injEq, Cell.lst.injEq, Cell.ins.injEq, Prod.mk.injEq, List.cons.injEq, Option.some.injEq, List.map_cons, List.map_nil, List.length_cons, List.length_nil, List.cons_append, List.nil_append, List.append_nil, List.getElem?_cons_zero, List.getElem?_cons_succ, List.set_cons_zero, List.set_cons_succ, List.replicate_succ, List.replicate_zero, exists_eq_left, exists_eq_left', exists_and_left, and_true, true_and, and_self, and_assoc, Nat.sub_self, Nat.reduceAdd, Nat.reduceSub, Nat.zero_add, put_put, put_same, reduceIte, Bool.false_eq_true, Bool.true_eq_false, Bool.not_true, Bool.not_false, at_0, at_1, at_2, at_3, at_4, at_5, at_6, at_7, ix_1_0, ix_2_0, ix_2_1, ix_3_0, ix_3_1, ix_3_2, ix_4_0, ix_4_1, ix_4_2, ix_4_3]
    refine ⟨lga, ?_⟩
    repeat (refine ⟨dz _ (by decide), ?_⟩)
    refine ⟨p2.pool, Pn.of (by decide) (by decide), fun r S3 r0 r1 p3 => ?_⟩
    refine at_odd (n := 32) rfl ?_ r0 r1 fun x hx => q x _ hx ((p1.trans p2).trans p3)
    have ia := la.lt
    have ib := lb.lt
    have iam : (a * (2 + m)).natAbs < 2 ^ 200 := ((f.a.mul pm).up (m := 200) (by decide)).lt
    have ibm : (b * (2 + m)).natAbs < 2 ^ 200 := ((f.b.mul pm).up (m := 200) (by decide)).lt
    have i1 : (1 : Int).natAbs < 2 ^ 200 := (Pn.of (n := 200) (by decide) (by decide +kernel)).lt
    have i0 : (0 : Int).natAbs < 2 ^ 200 := by simp
    have ina : (0 - a).natAbs < 2 ^ 200 := by have := la.lt; omega
    have inb : (0 - b).natAbs < 2 ^ 200 := by have := lb.lt; omega
    have iab : (a + b).natAbs < 2 ^ 200 := by
      have h1 := (f.a.up (m := 199) (by decide)).lt
      have h2 := (f.b.up (m := 199) (by decide)).lt
      have : (2 : Nat) ^ 200 = 2 ^ 199 + 2 ^ 199 := by rw [← Nat.two_mul, ← Nat.pow_succ']
      omega
    have sa : Leaf (.str (Str.ofString (toString a))) := leaf_num (f.a.up (by decide))
    intro x hm
    simp only [List.mem_cons, List.not_mem_nil, or_false] at hm
    rcases hm with rfl | rfl | rfl | rfl | rfl | rfl | rfl | rfl | rfl | rfl | rfl | rfl | rfl | rfl | rfl | rfl | rfl | rfl | rfl | rfl | rfl | rfl | rfl | rfl | rfl | rfl | rfl | rfl | rfl | rfl | rfl | rfl
    · exact odd_tup (two_mem (leaf_int iam) (leaf_int ibm)) (by simp)
    · refine odd_tup (fun y m => ?_) (by simp)
      simp only [List.mem_cons, List.not_mem_nil, or_false] at m
      rcases m with rfl | rfl | rfl
      · exact leaf_int ia
      · exact leaf_int ib
      · exact leaf_int i1
    · exact odd_tup (one_mem (leaf_int ia)) (by simp)
    · exact odd_lst (two_mem (leaf_int ia) (leaf_int ib)) (by simp)
    · exact odd_tup (two_mem leaf_bl (leaf_int ib)) (by simp)
    · exact odd_tup (two_mem (leaf_int ia) leaf_bl) (by simp)
    · exact odd_tup (two_mem (leaf_int i0) (leaf_int ib)) (by simp)
    · exact odd_tup (two_mem (leaf_int ina) (leaf_int ib)) (by simp)
    · exact odd_tup (two_mem (leaf_int ia) (leaf_int inb)) (by simp)
    · exact odd_tup (two_mem (leaf_int ia) (leaf_int i0)) (by simp)
    · exact odd_tup (two_mem sa (leaf_int ib)) (by simp)
    · exact odd_tup (two_mem (leaf_int ia) leaf_non) (by simp)
    · exact odd_tup (two_mem (leaf_tup (one_mem (d_int ia)) (by simp)) (leaf_int ib)) (by simp)
    · exact odd_tup (two_mem (leaf_lst (one_mem (d_int ia)) (by simp)) (leaf_int ib)) (by simp)
    · exact odd_tup (two_mem (leaf_int ia) leaf_dct) (by simp)
    · exact odd_tup (two_mem (leaf_int ib) (leaf_int ia)) (by simp)
    · exact odd_tup (two_mem (leaf_int iam) (leaf_int iam)) (by simp)
    · exact odd_tup (two_mem (leaf_int iab) (leaf_int ib)) (by simp)
    · exact odd_tup (two_mem (leaf_tup (two_mem (d_int ia) (d_int ib)) (by simp)) (leaf_int i1)) (by simp)
    · exact odd_leaf leaf_non fun l e => (by cases e)
    · exact odd_int i0
    · exact odd_leaf leaf_bl fun l e => (by cases e)
    · exact odd_leaf leaf_bl fun l e => (by cases e)
    · exact odd_leaf (leaf_str (by decide +kernel)) fun l e => (by cases e)
    · exact odd_leaf (leaf_str (by decide +kernel)) fun l e => (by cases e)
    · exact odd_tup (fun y m => nomatch m) (by simp)
    · exact odd_lst (fun y m => nomatch m) (by simp)
    · exact odd_leaf leaf_dct fun l e => (by cases e)
    · exact odd_tup (one_mem (leaf_tup (two_mem (d_int ia) (d_int ib)) (by simp))) (by simp)
    · exact odd_int ina
    · exact odd_tup (one_mem (leaf_lst (fun y m => nomatch m) (by simp))) (by simp)
    · exact odd_leaf sa fun l e => (by cases e)
  · exact h.elim
/-! isinstance of the error that is handled -/
structure ErIs (K : PySem.W.Frag) (D : Addr) : Prop where
  cl : (PySem.W.clsIn K D).isSome = true
  ga : PySem.W.findIn K (.ref D) "__getattribute__" = some (some (.builtin "BaseException.__getattribute__"))
  gg : PySem.W.findIn K (.ref D) "__getattr__" = some none
  sub : PySem.W.subIn K (.ref D) (.type "BaseException") = some true
  ca : PySem.W.findIn K (.ref D) "__class__" = some (some (.builtin "object.__class__"))
  cn : PySem.W.specialIn K (.builtin "object.__class__") "__get__" = some (some (.builtin "getset_descriptor.__get__"))
  ct : PySem.W.takesIn K (.builtin "object.__class__") = some true
  cm : PySem.W.mroIn K D (.type "object") = some true
def rIsX (K : PySem.W.Frag) (D a dd : Addr) : List V → Hp → VK → Prop := fun xs H Q => ∃ (c : V) (cv : Value) (b : Bool) (fs : List (Str × V)), xs = [.ref a, c] ∧ (∀ u, RelV c u → u = cv) ∧ PySem.W.kitOne K (.ref D) cv = some b ∧ H dd = some (.xd fs) ∧ Q (.bl b) H
theorem call_isX {X : Cx} {a D dd : Addr} {oe : Obj} (Z : ErIs X.K D) (mem : (a, oe) ∈ X.pn) (hz : Zc (.ref D) (some dd) oe) (hf : ∃ vs, oe.data = .fields vs) : CallR X (.builtin "isinstance") (rIsX X.K D a dd) := by
  intro pins s sl H xs us Q inv r want
  obtain ⟨c, cv, b, fs, rfl, hcv, ans, hd, q⟩ := want
  obtain ⟨u1, u2, rfl, r1, r2⟩ := vals2 r
  obtain rfl : u1 = Value.ref a := r1
  obtain rfl := hcv u2 r2
  have at_ := (inv.pin (a, oe) (List.mem_append_left _ mem)).1
  obtain ⟨vs, hv⟩ := hf
  obtain ⟨mA, ns, _⟩ := (show ObjOk X.prog X.w H s.heap dd (.xd fs) from inv.hok dd _ hd)
  obtain ⟨od, ho, _⟩ := lookIn_ns ns
  have inst : PySem.W.InstAt s.heap a oe D (some od) := ⟨at_, hz.1, by unfold PySem.W.notCls; rw [hv] <;> rfl, by rw [hz.2]; exact ho⟩
  exact PySem.W.kia_one (PySem.W.kitx_exc (od := some od) Z.cl Z.ga Z.gg Z.sub Z.ca Z.cn Z.ct Z.cm) inv.kIn inst ans (fun z => nomatch z) fun tk => ⟨.bl b, H, inv.kept (t' := tk) fun _ _ z => z, rfl, q⟩
/-! xs.count(b) of a list of bools -/
theorem bools_of {us : List Value} {bs : List Bool} (r : Vals (bs.map V.bl) us) : us = bs.map Value.bool := by
  induction bs generalizing us with
  | nil => cases r; rfl
  | cons b bs ih =>
    cases r with
    | cons rv r =>
      rw [ih r]
      have e : _ = Value.bool b := rv
      rw [e]
      rfl
theorem readsB (h : Heap) : ∀ bs : List Bool, ∃ as, ReadsAll h (bs.map Value.bool) (bs.map PyData.bool) as
  | [] => ⟨_, ReadsAll.nil⟩
  | b :: bs => ⟨_, ReadsAll.cons (Reads.bool b) (readsB h bs).choose_spec⟩
theorem count_b (k : Bool) : ∀ bs : List Bool, countIn (.bool k) (bs.map PyData.bool) = ((bs.count k : Nat) : Int)
  | [] => rfl
  | b :: bs => by
    have ih := count_b k bs
    rw [List.map_cons, countIn, ih, List.count_cons]
    have e : same (.bool b) (.bool k) = (b == k) := by simp only [same]
    rw [e]
    cases (b == k) <;> simp <;> omega
theorem all_b : ∀ bs : List Bool, (bs.map PyData.bool).all Shape.bool.has = true
  | [] => rfl
  | _ :: bs => all_b bs
def rCntB (K : PySem.W.Frag) : V → List V → Hp → VK → Prop := fun x xs H Q => ∃ (p : Addr) (bs : List Bool) (k : Bool), x = .ref p ∧ xs = [.bl k] ∧ SqL K H p (bs.map V.bl) ∧ Q (.int (bs.count k : Nat)) H
theorem mt_countB {X : Cx} : MtR X "list.count" (rCntB X.K) := by
  intro pins s sl H x xs v us Q inv rx rxs want
  obtain ⟨p, bs, k, rfl, rfl, hs, q⟩ := want
  cases rx
  obtain ⟨u, rfl, ru⟩ := rxs.one
  obtain rfl : u = Value.bool k := ru
  obtain ⟨its, rv, pl, _⟩ := inv.list hs
  have e := bools_of rv
  subst e
  obtain ⟨as, ra⟩ := readsB s.heap bs
  refine PyProof.Rows.count_list_bools pl.isList ra (all_b bs) ?_
  rw [count_b]
  exact ⟨.int (bs.count k : Nat), H, inv.tok _, ⟨s.toks, rfl⟩, q⟩
/- err_try -/
/-! try: body / except t as n: suite / .. : each test a class or a tuple of two or three -/
theorem flying_keeps {B : Heap} {l : List Env} {a : Addr} {Z : Obj → Prop} {h h' : Heap} (fl : HandSPX.FlyingZ B l a Z h) (kp : ∀ b o, h.get? b = some o → h'.get? b = some o) : HandSPX.FlyingZ B l a Z h' := by
  obtain ⟨h1, h2, h3, oe, vs, T, oT, ts, t1, t2, t3, t4, t5, t6, t7, t8, t9⟩ := fl
  exact ⟨fun b o e => kp _ _ (h1 b o e), h2, h3.of_keeps fun b o e _ => ⟨o, kp _ _ e, rfl⟩, oe, vs, T, oT, ts, kp _ _ t1, t2, t3, t4, t5, t6, kp _ _ t7, t8, t9⟩
/-- what a clause's test asks of the error's class -/
inductive TestOf (X : Cx) : Expr → (Value → Option Bool) → Prop where
  | one {x : Str} {c : Value} {np : Pos} (h : Names X x c) : TestOf X (.Name x np) (fun cls => PySem.W.exmOne X.K cls c)
  | two {x1 x2 : Str} {c1 c2 : Value} {p1 p2 tp : Pos} {kk : Nat} (h1 : Names X x1 c1) (h2 : Names X x2 c2) : TestOf X (.Tuple [.Name x1 p1, .Name x2 p2] kk tp) (fun cls => PySem.W.exmAny X.K cls [c1, c2])
  | three {x1 x2 x3 : Str} {c1 c2 c3 : Value} {p1 p2 p3 tp : Pos} {kk : Nat} (h1 : Names X x1 c1) (h2 : Names X x2 c2) (h3 : Names X x3 c3) : TestOf X (.Tuple [.Name x1 p1, .Name x2 p2, .Name x3 p3] kk tp) (fun cls => PySem.W.exmAny X.K cls [c1, c2, c3])
section
variable {X : Cx} {a : Addr} {oe : Obj} {pn pins : List (Addr × Obj)} {sl : L2.St} {H : Hp} {s : Shared}
theorem name_run {x : Str} {c : Value} {np : Pos} {Q E : Value → Shared → Prop} (h : Names X x c) (inv : Inv (X.suite a ((a, oe) :: pn)) pins sl H s) (q : Q c s) : wpAny (model X.prog X.w) (X.A.mark (some (.ref a))) (eval (.Name x np) X.env) Q E s := by
  obtain ⟨hg, dbg, hm | ⟨hm, hv, nn⟩⟩ := h
  · exact ld_glob (X := X.suite a ((a, oe) :: pn)) inv hg hm q dbg
  · exact ld_blt (X := X.suite a ((a, oe) :: pn)) inv hg hm hv q nn dbg
theorem test_run {t : Expr} {m : Value → Option Bool} {cls : Value} {b : Bool} (T : TestOf X t m) (inv : Inv (X.suite a ((a, oe) :: pn)) pins sl H s) (he : s.heap.get? a = some oe) (hc : oe.cls = cls) (hm : m cls = some b) {Q : Bool → Shared → Prop} {E : Value → Shared → Prop}
    (q : ∀ h', (∀ y o, s.heap.get? y = some o → h'.get? y = some o) → Q b { s with heap := h' }) :
    wpAny (model X.prog X.w) (X.A.mark (some (.ref a))) (eval t X.env) (fun c s1 => wpAny (model X.prog X.w) (X.A.mark (some (.ref a))) (excMatches (.ref a) c) Q E s1) E s := by
  have cl : ∀ {h' : Heap}, (∀ y o, s.heap.get? y = some o → h'.get? y = some o) → PySem.W.Looks (model X.prog X.w) h' (typeOf (.ref a)) cls := fun kp A Q E s' k z => wpAny_typeOf_ref (k _ _ (kp _ _ he)) (by rw [hc]; exact z)
  cases T with
  | one h => exact name_run h inv ((PySem.W.exm_one inv.kIn (cl fun _ _ z => z) hm).here (q s.heap fun _ _ z => z))
  | @two x1 x2 c1 c2 p1 p2 tp kk h1 h2 =>
    refine wpAny_Tuple (wpAny_items_cons (name_run h1 inv (wpAny_items_cons (name_run h2 inv (wpAny_items_nil ⟨by size_fits, ?_⟩)))))
    have kp : ∀ y o, s.heap.get? y = some o → (s.heap.push { cls := .type "tuple", data := .seq [c1, c2].toArray }).get? y = some o := fun _ _ z => Heap.get?_push_of_some _ z
    exact (PySem.W.exm_tup2 (inv.kIn.keeps kp) (cl kp) (Heap.get?_push_size s.heap rfl) hm).here (q _ kp)
  | @three x1 x2 x3 c1 c2 c3 p1 p2 p3 tp kk h1 h2 h3 =>
    refine wpAny_Tuple (wpAny_items_cons (name_run h1 inv (wpAny_items_cons (name_run h2 inv (wpAny_items_cons (name_run h3 inv (wpAny_items_nil ⟨by size_fits, ?_⟩)))))))
    have kp : ∀ y o, s.heap.get? y = some o → (s.heap.push { cls := .type "tuple", data := .seq [c1, c2, c3].toArray }).get? y = some o := fun _ _ z => Heap.get?_push_of_some _ z
    exact (PySem.W.exm_tup3 (inv.kIn.keeps kp) (cl kp) (Heap.get?_push_size s.heap rfl) hm).here (q _ kp)
end
abbrev Clause : Type := (Value → Option Bool) × Nat × (Addr → Value → Option Addr → TS)
inductive Clauses (X : Cx) : List ExceptHandler → List Clause → Prop where
  | nil : Clauses X [] []
  | cons {t : Expr} {m : Value → Option Bool} {n : Str} {i : Nat} {ts : Addr → Value → Option Addr → TS} {b₀ : Stmt} {suite : List Stmt} {pos' : Pos} {hds : List ExceptHandler} {l : List Clause} (T : TestOf X t m) (hi : X.N[i]? = some n) (hl : X.env.kindOf n = some .local)
      (su : ∀ (a : Addr) (oe : Obj) (cls : Value) (d : Option Addr) (pn : List (Addr × Obj)), L2N.Zn cls d oe → (∃ vs, oe.data = .fields vs) → PSs (X.suite a ((a, oe) :: pn)) (b₀ :: suite) (ts a cls d)) (r : Clauses X hds l) :
      Clauses X (.ExceptHandler (some t) (some n) (b₀ :: suite) pos' :: hds) ((m, i, ts) :: l)
def wClauses (Wout : WX) (D : Ends) : List Clause → WX
  | [] => Wout
  | (m, i, ts) :: r => fun cls d sl H => ∃ b, m cls = some b ∧
      (b = true → ∀ a, H a = none → ts a cls d { nx := fun sl' H' => D.nx (sl'.set i none) H', rt := D.rt, bk := fun sl' H' => D.bk (sl'.set i none) H', ct := fun sl' H' => D.ct (sl'.set i none) H' } (sl.set i (some (.ref a))) H) ∧ (b = false → wClauses Wout D r cls d sl H)
section
variable {X : Cx} {body : List Stmt} {h₀ : ExceptHandler} {hds : List ExceptHandler} {l : List Clause} {pos : Pos} {tb : WX → TS} {Wout : WX}
theorem ps_tries (hst : X.stack = X.env :: X.outer) (hfr : X.env.frame = some X.env.locals) (nd : X.N.Nodup) (tk : L2N.Takes X Wout)
    (hb : ∀ (W : WX) (pn : List (Addr × Obj)) (xe : Value → Shared → Prop), L2N.Takes (X.tr pn xe) W → PassesOwn (model X.prog X.w) X.A X.env xe → PSs (X.tr pn xe) body (tb W))
    (cl : Clauses X (h₀ :: hds) l) : L2.PS X (.Try body (h₀ :: hds) [] [] pos) (fun D sl H => tb (wClauses Wout D l) D sl H) := by
  refine ⟨fun pins st sl H D inv want => ?_⟩
  have ok := inv.ok
  have frames : X.A.frames = some (X.env :: X.outer) := by rw [ok.frames, hst]
  refine wpAny_Try_except ?_
  refine wpAny_mono ((hb (wClauses Wout D l) (X.pn ++ pins) (fun e s1 => wpAny (model X.prog X.w) X.A (noteFrame e X.env) (fun _ s2 => wpAny (model X.prog X.w) X.A (setFlight e none) (fun _ s3 =>
    wpAny (model X.prog X.w) X.A (handleBy e X.env (h₀ :: hds)) (SP X pins D) X.xe s3) X.xe s2) X.xe s1) (fun u s' air => ?_) PassesOwn.looking).run [] st sl H D (inv.toTry _) want) (fun f s1 got => ?_) (fun e s1 he => he)
  · obtain ⟨a, B, sI, pins', sl', H', cls, d, rfl, invT, nb, up, sky, na, os, ag, wish⟩ := air
    have invI : Inv X pins sl' H' sI := invT.ofTry ok
    have sky' : Sky B (X.env :: X.outer) a (L2N.Zn cls d) X.env.locals s'.heap := by rw [← hst]; exact sky
    show wpAny (model X.prog X.w) X.A (noteFrame (.ref a) X.env) _ _ _
    refine L2N.Sky.land L2N.Zn.steady frames hfr sky' fun hL flL upL => ?_
    -- the error stands beside what is tracked, in every later heap
    have notFr : ∀ {h : Heap} {o : Obj} {vs : Array Value}, h.FunFrames B (X.env :: X.outer) → h.get? a = some o → o.data = .fields vs → a ∉ frs (X.env :: X.outer) := fun ff e dd hm => by
      obtain ⟨_, o', e', hnf⟩ := ff.mem hm
      rw [e] at e'
      cases e'
      exact hnf _ dd
    have away : ∀ {h : Heap}, HandSPX.FlyingZ B (X.env :: X.outer) a (L2N.Zn cls d) h → a ≠ X.env.locals ∧ a ∉ X.fs := fun fl => by
      obtain ⟨o, vs, e, _, dd⟩ := fl.there
      have nfr := notFr fl.2.2.1 e dd
      refine ⟨fun z => nfr (List.mem_filterMap.mpr ⟨X.env, List.mem_cons_self, by rw [hfr, z]⟩), fun hm => ?_⟩
      obtain ⟨en, hen, q⟩ := List.mem_filterMap.mp hm
      exact nfr (List.mem_filterMap.mpr ⟨en, List.mem_cons_of_mem _ hen, q⟩)
    have go : ∀ {hs : List ExceptHandler} {l' : List Clause}, Clauses X hs l' → ∀ h3, HandSPX.FlyingZ B (X.env :: X.outer) a (L2N.Zn cls d) h3 → sI.heap.UpToSlots h3 → wClauses Wout D l' cls d sl' H' →
        wpAny (model X.prog X.w) X.A (handleBy (.ref a) X.env hs) (SP X pins D) X.xe { s' with heap := h3 } := by
      intro hs l' hk
      induction hk with
      | nil =>
        intro h3 fl up3 w
        refine wpAny_handleBy_nil ?_
        obtain ⟨_, _, _, oe, vs, T, oT, ts', he, _, hd, h1, _⟩ := id fl
        unfold PySem.passOn
        refine wpAny_bind (wpAny_field he hd h1 ?_)
        rw [if_neg (show ¬ ((Value.ref T == Value.none) = true) from by simp)]
        have fin : wpAny (model X.prog X.w) X.A (setFlight (.ref a) X.env.frame) (fun _ s4 => wpAny (model X.prog X.w) X.A (throw (.ref a) : Sem Flow) (SP X pins D) X.xe s4) X.xe { s' with heap := h3 } := by
          rw [hfr]
          refine HandSPX.setFlight_upZ fl fun h4 held up4 => wpAny_throw (tk _ _ ?_)
          exact ⟨a, B, sI, pins, sl', H', cls, d, rfl, invI, nb, up3.trans up4, .inr (.inr (by rw [hst]; exact held)), na, os, ag, w⟩
        first
          | exact wpAny_bind (wpAny_pure (wpAny_bind fin))
          | exact wpAny_bind fin
      | @cons t m n i ts b₀ suite pos' hds2 l2 T hi hl su r ih =>
        intro h3 fl up3 w
        obtain ⟨b, hm, yes, no⟩ := w
        obtain ⟨oe3, vs3, he3, hz3, hd3⟩ := fl.there
        obtain ⟨nL, nF⟩ := away fl
        have inv3 : Inv X pins sl' H' { s' with heap := h3 } := invI.landed nb fl.1 up3 os ag
        refine wpAny_handleBy_cons (codeAny_handlers_test ?_) (by intro q; cases q)
        refine test_run T (inv3.suite he3 hd3 na nL nF) he3 hz3.1 hm fun h4 kp => ?_
        have fl4 := flying_keeps fl kp
        have up4 : sI.heap.UpToSlots h4 := up3.trans (Heap.UpToSlots.of_keeps kp)
        cases b with
        | true =>
          refine codeAny_handlers_suite_as ?_
          refine HandSPX.lands_againZ fl4 fun h5 fl5 up5 => ?_
          have inv5 : Inv X pins sl' H' { s' with heap := h5 } := invI.landed nb fl5.1 (up4.trans up5) os ag
          obtain ⟨oe5, vs5, he5, hz5, hd5⟩ := fl5.there
          refine store_ok (X := X.suite a ((a, oe5) :: (X.pn ++ pins))) (v := .ref a) (inv5.suite he5 hd5 na nL nF) nd hi (.inl hl) rfl (fun s6 inv6 => ?_) (.inr hl)
          refine wpAny_mono ((su a oe5 cls d (X.pn ++ pins) hz5 ⟨_, hd5⟩).run [] s6 _ H' _ inv6 (yes rfl a na)) (fun f s7 got => ?_) (fun _ _ z => False.elim z)
          have fin : ∀ {sl7 : L2.St} {H7 : Hp} {Q : Shared → Prop}, Inv (X.suite a ((a, oe5) :: (X.pn ++ pins))) [] sl7 H7 s7 → (∀ s8, Inv X pins (sl7.set i none) H7 s8 → Q s8) →
              wpAny (model X.prog X.w) X.A (do bindName X.env n .none; unbindBehindTheSuite X.env n pos') (fun _ s8 => Q s8) X.xe s7 := fun inv7 q => gone_ok (inv7.unsuite ok) nd hi hl q
          cases f with
          | next =>
            obtain ⟨_, _, inv7, q⟩ := got
            exact fin inv7 fun s8 J => ⟨_, _, J, q⟩
          | brk =>
            obtain ⟨_, _, inv7, q⟩ := got
            exact fin inv7 fun s8 J => ⟨_, _, J, q⟩
          | cont =>
            obtain ⟨_, _, inv7, q⟩ := got
            exact fin inv7 fun s8 J => ⟨_, _, J, q⟩
          | ret u =>
            obtain ⟨_, _, _, inv7, rv, q⟩ := got
            exact fin inv7 fun s8 J => ⟨_, _, _, J, rv, q⟩
        | false =>
          show wpAny _ X.A (handleBy (.ref a) X.env hds2) _ _ _
          exact ih h4 fl4 up4 (no rfl)
    exact go cl hL flL (up.trans upL) wish
  · cases f with
    | next =>
      obtain ⟨_, _, J, q⟩ := got
      exact wpAny_execs_nil ⟨_, _, J.ofTry ok, q⟩
    | brk =>
      obtain ⟨_, _, J, q⟩ := got
      exact ⟨_, _, J.ofTry ok, q⟩
    | cont =>
      obtain ⟨_, _, J, q⟩ := got
      exact ⟨_, _, J.ofTry ok, q⟩
    | ret u =>
      obtain ⟨_, _, _, J, rv, q⟩ := got
      exact ⟨_, _, _, J.ofTry ok, rv, q⟩
end
/- err_kind -/
/-! the law's number of an error's class; what it catches -/
/-- where the classes of errors stand: the twenty by their numbers, then the three bases -/
structure ErNames (mg : Str → Option Value) (c : Nat → Addr) : Prop where
  m0 : mg "InvalidFraction" = some (.ref (c 0))
  m1 : mg "InvalidSize" = some (.ref (c 1))
  m2 : mg "InvalidBox" = some (.ref (c 2))
  m3 : mg "InvalidKeep" = some (.ref (c 3))
  m4 : mg "InvalidTimes" = some (.ref (c 4))
  m5 : mg "InvalidStep" = some (.ref (c 5))
  m6 : mg "InvalidSteps" = some (.ref (c 6))
  m7 : mg "InvalidChain" = some (.ref (c 7))
  m8 : mg "InvalidText" = some (.ref (c 8))
  m9 : mg "InvalidKind" = some (.ref (c 9))
  m10 : mg "InvalidRecords" = some (.ref (c 10))
  m11 : mg "InvalidName" = some (.ref (c 11))
  m12 : mg "InvalidDeeds" = some (.ref (c 12))
  m13 : mg "InvalidLine" = some (.ref (c 13))
  m14 : mg "NoStep" = some (.ref (c 14))
  m15 : mg "UnknownName" = some (.ref (c 15))
  m16 : mg "NameTaken" = some (.ref (c 16))
  m17 : mg "NothingToUndo" = some (.ref (c 17))
  m18 : mg "TooManySteps" = some (.ref (c 18))
  m19 : mg "TooManyDeeds" = some (.ref (c 19))
  m20 : mg "PictureError" = some (.ref (c 20))
  m21 : mg "FindError" = some (.ref (c 21))
  m22 : mg "LimitError" = some (.ref (c 22))
/-- the error's class D is the k-th -/
structure ErKind (K : PySem.W.Frag) (c : Nat → Addr) (D : Addr) (k : Nat) : Prop where
  o0 : PySem.W.kitOne K (.ref D) (.ref (c 0)) = some (decide (0 = k))
  o1 : PySem.W.kitOne K (.ref D) (.ref (c 1)) = some (decide (1 = k))
  o2 : PySem.W.kitOne K (.ref D) (.ref (c 2)) = some (decide (2 = k))
  o3 : PySem.W.kitOne K (.ref D) (.ref (c 3)) = some (decide (3 = k))
  o4 : PySem.W.kitOne K (.ref D) (.ref (c 4)) = some (decide (4 = k))
  o5 : PySem.W.kitOne K (.ref D) (.ref (c 5)) = some (decide (5 = k))
  o6 : PySem.W.kitOne K (.ref D) (.ref (c 6)) = some (decide (6 = k))
  o7 : PySem.W.kitOne K (.ref D) (.ref (c 7)) = some (decide (7 = k))
  o8 : PySem.W.kitOne K (.ref D) (.ref (c 8)) = some (decide (8 = k))
  o9 : PySem.W.kitOne K (.ref D) (.ref (c 9)) = some (decide (9 = k))
  o10 : PySem.W.kitOne K (.ref D) (.ref (c 10)) = some (decide (10 = k))
  o11 : PySem.W.kitOne K (.ref D) (.ref (c 11)) = some (decide (11 = k))
  o12 : PySem.W.kitOne K (.ref D) (.ref (c 12)) = some (decide (12 = k))
  o13 : PySem.W.kitOne K (.ref D) (.ref (c 13)) = some (decide (13 = k))
  o14 : PySem.W.kitOne K (.ref D) (.ref (c 14)) = some (decide (14 = k))
  o15 : PySem.W.kitOne K (.ref D) (.ref (c 15)) = some (decide (15 = k))
  o16 : PySem.W.kitOne K (.ref D) (.ref (c 16)) = some (decide (16 = k))
  o17 : PySem.W.kitOne K (.ref D) (.ref (c 17)) = some (decide (17 = k))
  o18 : PySem.W.kitOne K (.ref D) (.ref (c 18)) = some (decide (18 = k))
  o19 : PySem.W.kitOne K (.ref D) (.ref (c 19)) = some (decide (19 = k))
  b0 : PySem.W.kitOne K (.ref D) (.ref (c 20)) = some (decide (k < 14))
  b1 : PySem.W.kitOne K (.ref D) (.ref (c 21)) = some (decide (13 < k) && decide (k < 18))
  b2 : PySem.W.kitOne K (.ref D) (.ref (c 22)) = some (decide (17 < k))
  p0 : PySem.W.kitOne K (.ref D) (.type "ValueError") = some (decide (k < 14))
  p1 : PySem.W.kitOne K (.ref D) (.type "LookupError") = some (decide (13 < k) && decide (k < 18))
  p2 : PySem.W.kitOne K (.ref D) (.type "ArithmeticError") = some (decide (17 < k))
  lt : k < 20
section
variable {P : Program} {w : World} {K : PySem.W.Frag} {mg : Str → Option Value} {base : Heap} {f : Addr} {fd : FuncData}
theorem scKind : FnScope ["_law_e", "_law_found", "_law_bases", "_law_own", "_law_at"] ["_law_e"] (defScope s_l_kind) := ⟨rfl, rfl, rfl, by decide +kernel, rfl, by decide +kernel, by decide +kernel⟩
def spKind (K : PySem.W.Frag) (c : Nat → Addr) (p : Addr × Obj) : Sp := fun vs H Q _ => ∃ (D dd : Addr) (k : Nat) (fs : List (Str × V)), vs = [.ref p.1] ∧ ErIs K D ∧ ErKind K c D k ∧ Zc (.ref D) (some dd) p.2 ∧ H dd = some (.xd fs) ∧ ∀ H', Same H H' → Q (.int k) H'
def kindB (k : Nat) : List Bool := (List.range 20).map fun i => decide (i = k)
theorem kindB_count : ∀ k, k < 20 → (kindB k).count true = 1 := by decide
theorem kindB_at : ∀ k, k < 20 → ((kindB k).map V.bl)[k]? = some (.bl true) := fun k h => by
  have e : (kindB k)[k]? = some true := (show ∀ k, k < 20 → (kindB k)[k]? = some true by decide) k h
  rw [List.getElem?_map, e]
  rfl
theorem kindB_no : ∀ k, k < 20 → ∀ m, m < k → (kindB k)[m]? = some false := by decide
theorem kindB_all (k : Nat) : ((kindB k).map V.bl).all flatV = true := by
  rw [List.all_map]
  exact List.all_eq_true.mpr fun _ _ => rfl
theorem bl3 {K : PySem.W.Frag} {H : Hp} {p : Addr} {a b c : Bool} (h : H p = some (.lst [.bl a, .bl b, .bl c])) : Dp K H (.ref p) (.list [.bool a, .bool b, .bool c]) := .lst (SqL.of h) (.cons (.bl _) (.cons (.bl _) (.cons (.bl _) .nil)))
theorem eqv_bls (a b c : Bool) : PyData.eqv (.list [.bool a, .bool b, .bool c]) (.list [.bool a, .bool b, .bool c]) = true := by revert a b c; decide +kernel
theorem roomU {k : Nat} {A : Around} (r : L2H.RoomH k A) : A.units + 64 < cLine := by have := r.un; omega
theorem ps_weakS {X : Cx} {st : Stmt} {t t' : TS} (h : L2.PS X st t) (imp : ∀ D sl H, t' D sl H → t D sl H) : L2.PS X st t' := ⟨fun pins s sl H D inv w => h.run pins s sl H D inv (imp D sl H w)⟩
/-- the i-th name becomes a new list of these items -/
def wNew (i e dd : Nat) (a : Addr) (fs : List (Str × V)) (items : List V) : TS := fun D sl H => sl[e]? = some (some (.ref a)) ∧ H dd = some (.xd fs) ∧ ∀ M H', Same H H' → H' M = some (.lst items) → D.nx (sl.set i (some (.ref M))) H'
/-- .. the list that it holds and these items -/
def wCat (i e dd : Nat) (a : Addr) (fs : List (Str × V)) (items : List V) : TS := fun D sl H => ∃ L xs, sl[e]? = some (some (.ref a)) ∧ sl[i]? = some (some (.ref L)) ∧ H L = some (.lst xs) ∧ xs.length ≤ 900 ∧ H dd = some (.xd fs) ∧ ∀ M H', Same H H' → H' M = some (.lst (xs ++ items)) → D.nx (sl.set i (some (.ref M))) H'
theorem cast_lt (k n : Nat) : decide ((k : Int) < (n : Int)) = decide (k < n) := decide_eq_decide.mpr Int.ofNat_lt
theorem chain_in (k : Nat) (sl : L2.St) (H : Hp) (Q : VK) (h : sl[4]? = some (some (.int (k : Int))) ∧ Q (.bl (decide (13 < k) && decide (k < 18))) H) :
    tChain (rI0 fun i j => V.bl (decide (i < j))) (rI0 fun i j => V.bl (decide (i < j))) (tC (.int 13)) (tVar 4) (tC (.int 18)) sl H Q := by
  obtain ⟨h4, q⟩ := h
  refine ⟨_, h4, _, _, rfl, rfl, _, rfl, ?_⟩
  have e := cast_lt 13 k
  cases c : decide (13 < k) with
  | false =>
    rw [c] at q e
    rw [show decide ((13 : Int) < (k : Int)) = false from e]
    exact iteF q
  | true =>
    rw [c] at q e
    rw [show decide ((13 : Int) < (k : Int)) = true from e]
    refine iteT ⟨_, _, rfl, rfl, ?_⟩
    have e2 := cast_lt k 18
    show Q (.bl (decide ((k : Int) < 18))) H
    rw [show decide ((k : Int) < 18) = decide (k < 18) from e2]
    exact q
theorem ok_kind {c : Nat → Addr} (F : Fun K "_law_kind" "_law_kind" s_l_kind f fd) (N : ErNames mg c) (mi : mg "isinstance" = none) (mValueError : mg "ValueError" = none) (mLookupError : mg "LookupError" = none) (mArithmeticError : mg "ArithmeticError" = none) :
    FnP P w K mg base CX0 1 f fd ["_law_e"] (spKind K c) := by
  refine okP F scKind (fun p vs H Q E h => ?_) (fun cdv A outer s H vs Q E p hg hot hr h => ?_)
  · obtain ⟨D, dd, k, fs, rfl, _⟩ := h
    rfl
  obtain ⟨D, dd, k, fs, rfl, Z, Y, hz, hd, q⟩ := h
  obtain ⟨hh, vs2, hv2, hctx⟩ := hot
  have hf : ∃ vs, p.2.data = .fields vs := ⟨vs2, hv2⟩
  have mem : (p.1, p.2) ∈ [p] := List.mem_singleton.mpr rfl
  have hu := roomU hr
  have l1 : ∀ n : Nat, n ≤ 1000 → n ≤ sizeLine := fun n h => Nat.le_of_lt (small1000 h)
  refine ⟨_, pss_cons (ps_weakS (t' := wNew 1 0 dd p.1 fs [.bl (decide (0 = k)), .bl (decide (1 = k)), .bl (decide (2 = k))]) (ps_set (i := 1) scKind.nd rfl (.inl rfl) (pe_lst (pa_cons (pe_callB (call_isX (oe := p.2) Z mem hz hf) (by rfl) mi PyProof.Rows.boot_isinstance (pa_cons (pv 0) (pa_cons (pe_glob (v := .ref (c 0)) rfl N.m0 rfl) pa_nil))) (pa_cons (pe_callB (call_isX (oe := p.2) Z mem hz hf) (by rfl) mi PyProof.Rows.boot_isinstance (pa_cons (pv 0) (pa_cons (pe_glob (v := .ref (c 1)) rfl N.m1 rfl) pa_nil))) (pa_cons (pe_callB (call_isX (oe := p.2) Z mem hz hf) (by rfl) mi PyProof.Rows.boot_isinstance (pa_cons (pv 0) (pa_cons (pe_glob (v := .ref (c 2)) rfl N.m2 rfl) pa_nil))) pa_nil))))) (by rintro D sl H ⟨h0, hd, q⟩; refine ⟨_, h0, _, _, _, fs, rfl, fun u hu => hu, Y.o0, hd, ?_⟩; refine ⟨_, h0, _, _, _, fs, rfl, fun u hu => hu, Y.o1, hd, ?_⟩; refine ⟨_, h0, _, _, _, fs, rfl, fun u hu => hu, Y.o2, hd, ?_⟩; refine ⟨l1 3 (by decide), fun M nM => ?_⟩; exact q M _ (same_upd nM) upd_same))
    (pss_cons (ps_weakS (t' := wCat 1 0 dd p.1 fs [.bl (decide (3 = k)), .bl (decide (4 = k)), .bl (decide (5 = k))]) (ps_set (i := 1) scKind.nd rfl (.inl rfl) (pe_op op_cat (pv 1) (pe_lst (pa_cons (pe_callB (call_isX (oe := p.2) Z mem hz hf) (by rfl) mi PyProof.Rows.boot_isinstance (pa_cons (pv 0) (pa_cons (pe_glob (v := .ref (c 3)) rfl N.m3 rfl) pa_nil))) (pa_cons (pe_callB (call_isX (oe := p.2) Z mem hz hf) (by rfl) mi PyProof.Rows.boot_isinstance (pa_cons (pv 0) (pa_cons (pe_glob (v := .ref (c 4)) rfl N.m4 rfl) pa_nil))) (pa_cons (pe_callB (call_isX (oe := p.2) Z mem hz hf) (by rfl) mi PyProof.Rows.boot_isinstance (pa_cons (pv 0) (pa_cons (pe_glob (v := .ref (c 5)) rfl N.m5 rfl) pa_nil))) pa_nil)))))) (by rintro D sl H ⟨L, xs, h0, h1, hL, hx, hd, q⟩; refine ⟨_, h1, ?_⟩; refine ⟨_, h0, _, _, _, fs, rfl, fun u hu => hu, Y.o3, hd, ?_⟩; refine ⟨_, h0, _, _, _, fs, rfl, fun u hu => hu, Y.o4, hd, ?_⟩; refine ⟨_, h0, _, _, _, fs, rfl, fun u hu => hu, Y.o5, hd, ?_⟩; refine ⟨l1 3 (by decide), fun L2 n2 => ?_⟩; refine ⟨L, L2, _, _, rfl, rfl, same_upd n2 _ _ hL, upd_same, l1 _ (by simp only [List.length_cons, List.length_nil]; omega), fun M nM => ?_⟩; exact q M _ ((same_upd n2).trans (same_upd nM)) upd_same))
    (pss_cons (ps_weakS (t' := wCat 1 0 dd p.1 fs [.bl (decide (6 = k)), .bl (decide (7 = k)), .bl (decide (8 = k))]) (ps_set (i := 1) scKind.nd rfl (.inl rfl) (pe_op op_cat (pv 1) (pe_lst (pa_cons (pe_callB (call_isX (oe := p.2) Z mem hz hf) (by rfl) mi PyProof.Rows.boot_isinstance (pa_cons (pv 0) (pa_cons (pe_glob (v := .ref (c 6)) rfl N.m6 rfl) pa_nil))) (pa_cons (pe_callB (call_isX (oe := p.2) Z mem hz hf) (by rfl) mi PyProof.Rows.boot_isinstance (pa_cons (pv 0) (pa_cons (pe_glob (v := .ref (c 7)) rfl N.m7 rfl) pa_nil))) (pa_cons (pe_callB (call_isX (oe := p.2) Z mem hz hf) (by rfl) mi PyProof.Rows.boot_isinstance (pa_cons (pv 0) (pa_cons (pe_glob (v := .ref (c 8)) rfl N.m8 rfl) pa_nil))) pa_nil)))))) (by rintro D sl H ⟨L, xs, h0, h1, hL, hx, hd, q⟩; refine ⟨_, h1, ?_⟩; refine ⟨_, h0, _, _, _, fs, rfl, fun u hu => hu, Y.o6, hd, ?_⟩; refine ⟨_, h0, _, _, _, fs, rfl, fun u hu => hu, Y.o7, hd, ?_⟩; refine ⟨_, h0, _, _, _, fs, rfl, fun u hu => hu, Y.o8, hd, ?_⟩; refine ⟨l1 3 (by decide), fun L2 n2 => ?_⟩; refine ⟨L, L2, _, _, rfl, rfl, same_upd n2 _ _ hL, upd_same, l1 _ (by simp only [List.length_cons, List.length_nil]; omega), fun M nM => ?_⟩; exact q M _ ((same_upd n2).trans (same_upd nM)) upd_same))
    (pss_cons (ps_weakS (t' := wCat 1 0 dd p.1 fs [.bl (decide (9 = k)), .bl (decide (10 = k)), .bl (decide (11 = k))]) (ps_set (i := 1) scKind.nd rfl (.inl rfl) (pe_op op_cat (pv 1) (pe_lst (pa_cons (pe_callB (call_isX (oe := p.2) Z mem hz hf) (by rfl) mi PyProof.Rows.boot_isinstance (pa_cons (pv 0) (pa_cons (pe_glob (v := .ref (c 9)) rfl N.m9 rfl) pa_nil))) (pa_cons (pe_callB (call_isX (oe := p.2) Z mem hz hf) (by rfl) mi PyProof.Rows.boot_isinstance (pa_cons (pv 0) (pa_cons (pe_glob (v := .ref (c 10)) rfl N.m10 rfl) pa_nil))) (pa_cons (pe_callB (call_isX (oe := p.2) Z mem hz hf) (by rfl) mi PyProof.Rows.boot_isinstance (pa_cons (pv 0) (pa_cons (pe_glob (v := .ref (c 11)) rfl N.m11 rfl) pa_nil))) pa_nil)))))) (by rintro D sl H ⟨L, xs, h0, h1, hL, hx, hd, q⟩; refine ⟨_, h1, ?_⟩; refine ⟨_, h0, _, _, _, fs, rfl, fun u hu => hu, Y.o9, hd, ?_⟩; refine ⟨_, h0, _, _, _, fs, rfl, fun u hu => hu, Y.o10, hd, ?_⟩; refine ⟨_, h0, _, _, _, fs, rfl, fun u hu => hu, Y.o11, hd, ?_⟩; refine ⟨l1 3 (by decide), fun L2 n2 => ?_⟩; refine ⟨L, L2, _, _, rfl, rfl, same_upd n2 _ _ hL, upd_same, l1 _ (by simp only [List.length_cons, List.length_nil]; omega), fun M nM => ?_⟩; exact q M _ ((same_upd n2).trans (same_upd nM)) upd_same))
    (pss_cons (ps_weakS (t' := wCat 1 0 dd p.1 fs [.bl (decide (12 = k)), .bl (decide (13 = k)), .bl (decide (14 = k))]) (ps_set (i := 1) scKind.nd rfl (.inl rfl) (pe_op op_cat (pv 1) (pe_lst (pa_cons (pe_callB (call_isX (oe := p.2) Z mem hz hf) (by rfl) mi PyProof.Rows.boot_isinstance (pa_cons (pv 0) (pa_cons (pe_glob (v := .ref (c 12)) rfl N.m12 rfl) pa_nil))) (pa_cons (pe_callB (call_isX (oe := p.2) Z mem hz hf) (by rfl) mi PyProof.Rows.boot_isinstance (pa_cons (pv 0) (pa_cons (pe_glob (v := .ref (c 13)) rfl N.m13 rfl) pa_nil))) (pa_cons (pe_callB (call_isX (oe := p.2) Z mem hz hf) (by rfl) mi PyProof.Rows.boot_isinstance (pa_cons (pv 0) (pa_cons (pe_glob (v := .ref (c 14)) rfl N.m14 rfl) pa_nil))) pa_nil)))))) (by rintro D sl H ⟨L, xs, h0, h1, hL, hx, hd, q⟩; refine ⟨_, h1, ?_⟩; refine ⟨_, h0, _, _, _, fs, rfl, fun u hu => hu, Y.o12, hd, ?_⟩; refine ⟨_, h0, _, _, _, fs, rfl, fun u hu => hu, Y.o13, hd, ?_⟩; refine ⟨_, h0, _, _, _, fs, rfl, fun u hu => hu, Y.o14, hd, ?_⟩; refine ⟨l1 3 (by decide), fun L2 n2 => ?_⟩; refine ⟨L, L2, _, _, rfl, rfl, same_upd n2 _ _ hL, upd_same, l1 _ (by simp only [List.length_cons, List.length_nil]; omega), fun M nM => ?_⟩; exact q M _ ((same_upd n2).trans (same_upd nM)) upd_same))
    (pss_cons (ps_weakS (t' := wCat 1 0 dd p.1 fs [.bl (decide (15 = k)), .bl (decide (16 = k)), .bl (decide (17 = k))]) (ps_set (i := 1) scKind.nd rfl (.inl rfl) (pe_op op_cat (pv 1) (pe_lst (pa_cons (pe_callB (call_isX (oe := p.2) Z mem hz hf) (by rfl) mi PyProof.Rows.boot_isinstance (pa_cons (pv 0) (pa_cons (pe_glob (v := .ref (c 15)) rfl N.m15 rfl) pa_nil))) (pa_cons (pe_callB (call_isX (oe := p.2) Z mem hz hf) (by rfl) mi PyProof.Rows.boot_isinstance (pa_cons (pv 0) (pa_cons (pe_glob (v := .ref (c 16)) rfl N.m16 rfl) pa_nil))) (pa_cons (pe_callB (call_isX (oe := p.2) Z mem hz hf) (by rfl) mi PyProof.Rows.boot_isinstance (pa_cons (pv 0) (pa_cons (pe_glob (v := .ref (c 17)) rfl N.m17 rfl) pa_nil))) pa_nil)))))) (by rintro D sl H ⟨L, xs, h0, h1, hL, hx, hd, q⟩; refine ⟨_, h1, ?_⟩; refine ⟨_, h0, _, _, _, fs, rfl, fun u hu => hu, Y.o15, hd, ?_⟩; refine ⟨_, h0, _, _, _, fs, rfl, fun u hu => hu, Y.o16, hd, ?_⟩; refine ⟨_, h0, _, _, _, fs, rfl, fun u hu => hu, Y.o17, hd, ?_⟩; refine ⟨l1 3 (by decide), fun L2 n2 => ?_⟩; refine ⟨L, L2, _, _, rfl, rfl, same_upd n2 _ _ hL, upd_same, l1 _ (by simp only [List.length_cons, List.length_nil]; omega), fun M nM => ?_⟩; exact q M _ ((same_upd n2).trans (same_upd nM)) upd_same))
    (pss_cons (ps_weakS (t' := wCat 1 0 dd p.1 fs [.bl (decide (18 = k)), .bl (decide (19 = k))]) (ps_set (i := 1) scKind.nd rfl (.inl rfl) (pe_op op_cat (pv 1) (pe_lst (pa_cons (pe_callB (call_isX (oe := p.2) Z mem hz hf) (by rfl) mi PyProof.Rows.boot_isinstance (pa_cons (pv 0) (pa_cons (pe_glob (v := .ref (c 18)) rfl N.m18 rfl) pa_nil))) (pa_cons (pe_callB (call_isX (oe := p.2) Z mem hz hf) (by rfl) mi PyProof.Rows.boot_isinstance (pa_cons (pv 0) (pa_cons (pe_glob (v := .ref (c 19)) rfl N.m19 rfl) pa_nil))) pa_nil))))) (by rintro D sl H ⟨L, xs, h0, h1, hL, hx, hd, q⟩; refine ⟨_, h1, ?_⟩; refine ⟨_, h0, _, _, _, fs, rfl, fun u hu => hu, Y.o18, hd, ?_⟩; refine ⟨_, h0, _, _, _, fs, rfl, fun u hu => hu, Y.o19, hd, ?_⟩; refine ⟨l1 2 (by decide), fun L2 n2 => ?_⟩; refine ⟨L, L2, _, _, rfl, rfl, same_upd n2 _ _ hL, upd_same, l1 _ (by simp only [List.length_cons, List.length_nil]; omega), fun M nM => ?_⟩; exact q M _ ((same_upd n2).trans (same_upd nM)) upd_same))
    (pss_cons (ps_weakS (t' := wNew 2 0 dd p.1 fs [.bl (decide (k < 14)), .bl (decide (13 < k) && decide (k < 18)), .bl (decide (17 < k))]) (ps_set (i := 2) scKind.nd rfl (.inl rfl) (pe_lst (pa_cons (pe_callB (call_isX (oe := p.2) Z mem hz hf) (by rfl) mi PyProof.Rows.boot_isinstance (pa_cons (pv 0) (pa_cons (pe_glob (v := .ref (c 20)) rfl N.m20 rfl) pa_nil))) (pa_cons (pe_callB (call_isX (oe := p.2) Z mem hz hf) (by rfl) mi PyProof.Rows.boot_isinstance (pa_cons (pv 0) (pa_cons (pe_glob (v := .ref (c 21)) rfl N.m21 rfl) pa_nil))) (pa_cons (pe_callB (call_isX (oe := p.2) Z mem hz hf) (by rfl) mi PyProof.Rows.boot_isinstance (pa_cons (pv 0) (pa_cons (pe_glob (v := .ref (c 22)) rfl N.m22 rfl) pa_nil))) pa_nil))))) (by rintro D sl H ⟨h0, hd, q⟩; refine ⟨_, h0, _, _, _, fs, rfl, fun u hu => hu, Y.b0, hd, ?_⟩; refine ⟨_, h0, _, _, _, fs, rfl, fun u hu => hu, Y.b1, hd, ?_⟩; refine ⟨_, h0, _, _, _, fs, rfl, fun u hu => hu, Y.b2, hd, ?_⟩; refine ⟨l1 3 (by decide), fun M nM => ?_⟩; exact q M _ (same_upd nM) upd_same))
    (pss_cons (ps_weakS (t' := wNew 3 0 dd p.1 fs [.bl (decide (k < 14)), .bl (decide (13 < k) && decide (k < 18)), .bl (decide (17 < k))]) (ps_set (i := 3) scKind.nd rfl (.inl rfl) (pe_lst (pa_cons (pe_callB (call_isX (oe := p.2) Z mem hz hf) (by rfl) mi PyProof.Rows.boot_isinstance (pa_cons (pv 0) (pa_cons (pe_bltn (v := .ty "ValueError") (by rfl) mValueError (by decide +kernel) rfl) pa_nil))) (pa_cons (pe_callB (call_isX (oe := p.2) Z mem hz hf) (by rfl) mi PyProof.Rows.boot_isinstance (pa_cons (pv 0) (pa_cons (pe_bltn (v := .ty "LookupError") (by rfl) mLookupError (by decide +kernel) rfl) pa_nil))) (pa_cons (pe_callB (call_isX (oe := p.2) Z mem hz hf) (by rfl) mi PyProof.Rows.boot_isinstance (pa_cons (pv 0) (pa_cons (pe_bltn (v := .ty "ArithmeticError") (by rfl) mArithmeticError (by decide +kernel) rfl) pa_nil))) pa_nil))))) (by rintro D sl H ⟨h0, hd, q⟩; refine ⟨_, h0, _, _, _, fs, rfl, fun u hu => hu, Y.p0, hd, ?_⟩; refine ⟨_, h0, _, _, _, fs, rfl, fun u hu => hu, Y.p1, hd, ?_⟩; refine ⟨_, h0, _, _, _, fs, rfl, fun u hu => hu, Y.p2, hd, ?_⟩; refine ⟨l1 3 (by decide), fun M nM => ?_⟩; exact q M _ (same_upd nM) upd_same))
    (pss_cons (ps_if (PW.pt (pw_or (pt_cmpR op_ne (pe_bm PySem.F.plainAttrs_list PySem.F.slot_list_count PySem.F.type_list_count mt_countB (pv 1) (pa_cons pe_bl pa_nil)) pe_int (nomark _)) (pw_or1 (pt_cmpR (op_neD hu) (pv 3) (pv 2) (nomark _))))) (pss_one (ps_ret (pe_op op_sub pe_int pe_int))) pss_nil)
    (pss_cons (ps_set (i := 4) scKind.nd rfl (.inl rfl) (pe_bm PySem.F.plainAttrs_list PySem.F.slot_list_index PySem.F.type_list_index mt_index (pv 1) (pa_cons pe_bl pa_nil)))
    (pss_one (ps_ret (pe_ifExp (pt_cmpR (op_eqD hu) (pv 2) (pe_lst (pa_cons (pe_cmpR op_lt (pv 4) pe_int (nomark _)) (pa_cons (pe_weak (t' := fun sl H Q => sl[4]? = some (some (.int (k : Int))) ∧ Q (.bl (decide (13 < k) && decide (k < 18))) H) (pe_chain op_lt op_lt pe_int (pv 4) pe_int) (chain_in k)) (pa_cons (pe_cmpR op_gt (pv 4) pe_int (nomark _)) pa_nil)))) (nomark _)) (pv 4) (pe_op op_sub pe_int pe_int)))))))))))))), ?_⟩
  refine ⟨rfl, hd, fun M0 H0 s0 f0 => ?_⟩
  have d0 := s0 _ _ hd
  refine ⟨M0, _, rfl, rfl, f0, by show 3 ≤ 900; decide, d0, fun M1 H1 s1 f1 => ?_⟩
  have d1 := s1 _ _ d0
  refine ⟨M1, _, rfl, rfl, f1, by show 6 ≤ 900; decide, d1, fun M2 H2 s2 f2 => ?_⟩
  have d2 := s2 _ _ d1
  refine ⟨M2, _, rfl, rfl, f2, by show 9 ≤ 900; decide, d2, fun M3 H3 s3 f3 => ?_⟩
  have d3 := s3 _ _ d2
  refine ⟨M3, _, rfl, rfl, f3, by show 12 ≤ 900; decide, d3, fun M4 H4 s4 f4 => ?_⟩
  have d4 := s4 _ _ d3
  refine ⟨M4, _, rfl, rfl, f4, by show 15 ≤ 900; decide, d4, fun M5 H5 s5 f5 => ?_⟩
  have d5 := s5 _ _ d4
  refine ⟨M5, _, rfl, rfl, f5, by show 18 ≤ 900; decide, d5, fun M6 H6 s6 f6 => ?_⟩
  have d6 := s6 _ _ d5
  refine ⟨rfl, d6, fun M7 H7 s7 f7 => ?_⟩
  refine ⟨rfl, s7 _ _ d6, fun M8 H8 s8 f8 => ?_⟩
  have f6' := s8 _ _ (s7 _ _ f6)
  have fl : SqL K H8 M6 ((kindB k).map V.bl) := SqL.of f6'
  have f7' := s8 _ _ f7
  refine ⟨_, rfl, .inl ⟨rfl, _, .inl (.inl f6')⟩, ⟨_, _, _, rfl, rfl, fl, rfl, _, rfl, ?_⟩⟩
  rw [kindB_count k Y.lt]
  refine iteNS rfl ?_
  refine ⟨_, rfl, _, rfl, _, _, bl3 f8, bl3 f7', rfl, rfl, _, rfl, ?_⟩
  rw [eqv_bls]
  refine iteF ?_
  refine ⟨_, rfl, .inl ⟨rfl, _, .inl (.inl f6')⟩, ⟨_, _, _, k, _, rfl, rfl, fl, rfl, kindB_all k, kindB_at k Y.lt, rfl, fun m z hm hz => ?_, ?_⟩⟩
  · rw [List.getElem?_map, kindB_no k Y.lt m hm] at hz
    cases hz
    rfl
  refine ⟨_, rfl, _, rfl, _, _, rfl, rfl, rfl, _, rfl, _, _, rfl, rfl, l1 3 (by decide), fun M9 n9 => ?_⟩
  have e1 : decide ((k : Int) < 14) = decide (k < 14) := cast_lt k 14
  have e2 : decide ((17 : Int) < (k : Int)) = decide (17 < k) := cast_lt 17 k
  dsimp only
  rw [e1, e2]
  have s9 := same_upd (o := .lst [.bl (decide (k < 14)), .bl (decide (13 < k) && decide (k < 18)), .bl (decide (17 < k))]) n9
  refine ⟨_, _, bl3 (s9 _ _ f7'), bl3 upd_same, rfl, rfl, _, rfl, ?_⟩
  rw [eqv_bls]
  refine iteT ⟨_, rfl, ?_⟩
  exact q _ (s0.trans (s1.trans (s2.trans (s3.trans (s4.trans (s5.trans (s6.trans (s7.trans (s8.trans s9)))))))))
end
/- err_lam -/
/-! a lambda that is handed to a def and called there: what it raises goes by L2N -/
abbrev lamXe (X : Cx) (A : Around) (outer : List Env) (s : Shared) (H : Hp) (E : XK) (scope : Scope) (f c' : Addr) : Value → Shared → Prop := fun e s' =>
  wpAny (model X.prog X.w) (A.deeper (LamX.lamEnv X scope s.heap.objs.size f c')) (leaving (LamX.lamEnv X scope s.heap.objs.size f c') e) (fun _ s2 => L2N.CX X.prog X.w outer H s E e s2) (fun e2 s2 => L2N.CX X.prog X.w outer H s E e2 s2) s'
abbrev lamC (X : Cx) (A : Around) (outer : List Env) (s : Shared) (H : Hp) (E : XK) (scope : Scope) (f c' : Addr) : Cx := (LamX.lamCx X A outer s H E scope f c').wish (lamXe X A outer s H E scope f c')
section
variable {X : Cx} {pins : List (Addr × Obj)} {sl : L2.St} {H : Hp} {s : Shared}
theorem act_call {CXg : CXT} {Eg : XK} {Ng : List Str} {qg : Str} {sg : Scope} {g f c' : Addr} {cdg pm ctv : Value} {params : Arguments} {body : Expr} {scope : Scope} {k i : Nat} {a : Str} {pn : List (Addr × Obj)} {xe : Value → Shared → Prop} {W : WX} {E : XK} {tb : TE} {p1 p2 : Pos}
    (inv : Inv X pins sl H s) (L : LamX.LamS X.env.scope scope) (gds : X.A.guards = some []) (hf : s.heap.get? f = some (PySem.W.kla_obj "<lambda>" (X.env.qual ++ "<lambda>") params body scope (cloFrom X.env.cells scope.names []) pm c' ctv)) (nf : H f = none) (nfr : f ∉ frs X.stack)
    (bind : bindArgs (PySem.W.kla_fn "<lambda>" (X.env.qual ++ "<lambda>") params body scope (cloFrom X.env.cells scope.names []) pm (.ref c') ctv) ⟨[], []⟩ = pure [])
    (tk : L2N.Takes ((cxOf CXg X.prog X.w X.K X.mg X.base Ng qg sg g cdg X.A X.stack s H Eg).tr pn xe) W) (room : Room (k + 1) (X.A.deeper (envOfC qg sg s.heap.objs.size g cdg)))
    (walk : ∀ (A : Around) (outer : List Env) (s : Shared) (H : Hp), A.guards = some [] → Room k (A.deeper (LamX.lamEnv X scope s.heap.objs.size f c')) → PE (lamC X A outer s H E scope f c') body tb)
    (hN : Ng[i]? = some a) (hv : Vis sg a) (dbg : (a == ("__debug__" : Str)) = false := by decide) (dct : (a == ("__classdict__" : Str)) = false := by decide) :
    PE ((cxOf CXg X.prog X.w X.K X.mg X.base Ng qg sg g cdg X.A X.stack s H Eg).tr pn xe) (.Call (.Name a p1) [] [] p2)
      (fun slZ HZ Q => slZ[i]? = some (some (.ref f)) ∧ HZ c' = some (LamX.CodeO c' (X.env.qual ++ "<lambda>")) ∧ (∀ cls d H', E cls d H' → W cls d slZ H') ∧ tb sl HZ Q) := by
  refine ⟨fun pinsZ sZ slZ HZ Q invZ want => ?_⟩
  obtain ⟨at_, code, hW, read⟩ := want
  refine wpAny_Call_Name_kw (thn ((pe_var (pos := p1) (i := i) hN hv dbg dct).run pinsZ sZ slZ HZ (fun v H1 => v = .ref f ∧ H1 = HZ) invZ ⟨.ref f, at_, rfl, rfl⟩) fun u s1 got => ?_)
  obtain ⟨v, H1, inv1, rel, ev, eH⟩ := got
  subst ev
  rw [eH] at inv1
  obtain rfl : u = Value.ref f := rel
  have hf1 : s1.heap.get? f = some (PySem.W.kla_obj "<lambda>" (X.env.qual ++ "<lambda>") params body scope (cloFrom X.env.cells scope.names []) pm c' ctv) := inv1.base.keep f _ hf nf nfr (fun z => nomatch (show f ∈ ([] : List Addr) from z))
  refine PySem.W.callWith_F0 ⟨_, _, _, _, hf1⟩ ?_
  have un : Un (frs X.stack) [] H HZ s.heap s1.heap := inv1.base
  obtain ⟨⟨oc, vs, t, hoc, dc, vc⟩, _, _⟩ := inv1.hok c' _ code
  have run : codeAny (model X.prog X.w) (X.A.deeper (envOfC qg sg s.heap.objs.size g cdg)) (.call (.ref f) ⟨[], []⟩) (CR (L2N.CX X.prog X.w) (envOfC qg sg s.heap.objs.size g cdg :: X.stack) X.prog X.w HZ s1 Q E) s1 := by
    refine PySem.W.kla_callFunE room.depth hf1 rfl L.co L.gen rfl ⟨c', oc, vs, t, rfl, hoc, dc, vc⟩ ?_
    rw [bind]
    refine wpAny_pure (wpAny_newFunctionEnv (fun y hy => (L.own y hy).2) (fun y hy => absurd hy (by simp)) (fun h1 ns sb => ⟨inv1.nolimit.fresh _ sb, ?_⟩) L.kind)
    show codeAny _ _ (.expr body (LamX.lamEnv X scope s1.heap.objs.size f c')) _ _
    have kp : ∀ b o, s1.heap.get? b = some o → h1.get? b = some o := fun b o e => sb.extBut b o (Nat.ne_of_lt (Heap.lt_size e)) (Heap.get?_push_of_some _ e)
    have J := (LamX.lam_start2 (E := E) (f := f) (c' := c') (tk := s1.toks + ([] : List (Str × Value)).length) inv L inv1.env0 room.hd un ns kp).wish (lamXe X (X.A.deeper (envOfC qg sg s.heap.objs.size g cdg)) (envOfC qg sg s.heap.objs.size g cdg :: X.stack) s1 HZ E scope f c')
    refine PySem.W.kla_codeExpr (wpAny_mono ((walk (X.A.deeper (envOfC qg sg s.heap.objs.size g cdg)) _ s1 HZ gds (room.deeper _)).run [] _ _ HZ Q J read) (fun v s' got => ?_) fun _ _ got => got)
    obtain ⟨x, H', J', rv, q⟩ := got
    exact ⟨x, H', J'.os, J'.bare, J'.base, J'.hok, rv, q⟩
  refine wpAny_call (codeAny_mono run fun r s' got => ?_)
  cases r with
  | error e => exact tk e s' (L2N.XE.of_call inv1 hW got)
  | ok fl =>
    cases fl with
    | ret u => exact inv1.after got
    | next => exact got.elim
    | brk => exact got.elim
    | cont => exact got.elim
end
/-! what is caught: the number of the error's class, the text of its field -/
/-- an error whose field is "value": the fourth clause takes it -/
structure ErVal (K : PySem.W.Frag) (c : Nat → Addr) (D : Addr) : Prop where
  e1 : PySem.W.exmAny K (.ref D) [.ref (c 6), .ref (c 10), .ref (c 12)] = some false
  e2 : PySem.W.exmAny K (.ref D) [.ref (c 18), .ref (c 19)] = some false
  e3 : PySem.W.exmOne K (.ref D) (.ref (c 17)) = some false
  e4 : PySem.W.exmAny K (.ref D) [.ref (c 20), .ref (c 21)] = some true
  xf : XfC K D
  no : PySem.W.findIn K (.ref D) "value" = some none
/-- what is told of an error that is let out -/
def Got (K : PySem.W.Frag) (c : Nat → Addr) (RR : List V → Hp → VK → Prop) (Q : VK) : XK := fun cls d H => ∃ (D dd : Addr) (k : Nat) (v : V), cls = .ref D ∧ d = some dd ∧ ErIs K D ∧ ErKind K c D k ∧ ErVal K c D ∧ H dd = some (.xd [(("value" : Str), v)]) ∧
  ∀ H1, Same H H1 → RR [v] H1 fun y H2 => ∃ txt, y = .str txt ∧ ∀ L, H2 L = none → Q (.ref L) (upd H2 L (.lst [.int k, .str txt]))
/-- .. where nothing is -/
def Fine (Q : VK) : VK := fun _ H => ∀ L, H L = none → Q (.ref L) (upd H L (.lst [.str "none", .str ""]))
section
variable {X : Cx} {a : Addr} {oe : Obj} {cls : Value} {d : Option Addr} {pn : List (Addr × Obj)}
/-- e.f, what is known of e's class in the reading -/
theorem pe_xfR {e : Expr} {te : TE} {pos : Pos} {n : Str} (hz : Zc cls d oe) (hf : ∃ vs, oe.data = .fields vs) (he : PE (X.suite a ((a, oe) :: pn)) e te) (hb : attributeBase e n X.env (eval e X.env) = eval e X.env := by rfl) :
    PE (X.suite a ((a, oe) :: pn)) (.Attribute e n pos) (fun sl H Q => ∃ C, XfC X.K C ∧ PySem.W.findIn X.K (.ref C) n = some none ∧ tXf a cls d C n te sl H Q) :=
  ⟨fun pins s sl H Q inv ⟨C, T, no, q⟩ => (pe_xf T no hz hf he hb).run pins s sl H Q inv q⟩
theorem kind_call {k i : Nat} {f : Addr} {fd : FuncData} {x : Str} {ep pos : Pos} {e : Expr} {c : Nat → Addr} (F : FnP X.prog X.w X.K X.mg X.base CX0 k f fd ["_law_e"] (spKind X.K c)) (gds : X.A.guards = some []) (room : L2H.RoomH k X.A) (hz : L2N.Zn cls d oe) (hf : ∃ vs, oe.data = .fields vs)
    (hg : Gl X x) (hm : X.mg x = some (.ref f)) (hk : PySem.W.keepIn X.K (.ref f) = true) (hb : Binds X.K fd ["_law_e"] []) (ha : PE (X.suite a ((a, oe) :: pn)) e (tVar i)) (hdb : (x == ("__debug__" : Str)) = false := by decide)
    (he : starEach (e :: []) X.env = (false, eval e X.env) :: starEach [] X.env := by rfl) (hpl : (backTo pos (starEach [] X.env)).any (·.1) = false := by rfl) :
    PE (X.suite a ((a, oe) :: pn)) (.Call (.Name x ep) [e] [] pos) (fun sl H Q => sl[i]? = some (some (.ref a)) ∧ ∃ (D dd : Addr) (k : Nat) (fs : List (Str × V)), cls = .ref D ∧ d = some dd ∧ ErIs X.K D ∧ ErKind X.K c D k ∧ H dd = some (.xd fs) ∧ ∀ H', Same H H' → Q (.int k) H') := by
  obtain ⟨vs, hv⟩ := id hf
  have hot : L2H.Hot1 (X.suite a ((a, oe) :: pn)).A (a, oe) := ⟨rfl, vs, hv, hz.2.2 vs hv⟩
  refine pe_weak (callP (X := X.suite a ((a, oe) :: pn)) (p := (a, oe)) F gds ⟨room.dp, room.un⟩ hot List.mem_cons_self hg hm hk hb (pa_cons ha pa_nil he) hdb he hpl) ?_
  rintro sl H Q ⟨h1, D, dd, k, fs, rfl, rfl, Z, Y, hd, q⟩
  exact ⟨_, h1, D, dd, k, fs, rfl, Z, Y, hz.zc, hd, q⟩
end
/- err_caught -/
section
theorem takes0N {X : Cx} : L2N.Takes X (fun _ _ _ _ => False) := fun _ _ x => by
  obtain ⟨_, _, _, _, _, _, _, _, _, _, _, _, _, _, _, _, z⟩ := x
  exact z.elim
theorem scCaught : FnScope ["_law_act", "_law_e"] ["_law_act"] (defScope s_l_caught) := ⟨rfl, rfl, rfl, by decide +kernel, rfl, by decide +kernel, by decide +kernel⟩
/-- how the error's field is shown, in a suite -/
def Reprs (X : Cx) (k : Nat) (RR : List V → Hp → VK → Prop) : Prop := ∀ (Y : Cx) (p : Addr × Obj), Y.prog = X.prog → Y.w = X.w → Y.K = X.K → Y.mg = X.mg → Y.base = X.base → Y.A.guards = some [] → L2H.RoomH k Y.A → L2H.Hot1 Y.A p → p ∈ Y.pn → CallR Y (.builtin "repr") RR
def tCaught (K : PySem.W.Frag) (T : List (Addr × Str)) (c : Nat → Addr) (RR : List V → Hp → VK → Prop) (t : XK → TE) : TE := fun sl H Q => LamX.Tabs T H ∧ ∀ H1, LamX.ExtN H H1 → LamX.Tabs T H1 → t (Got K c RR Q) sl H1 (Fine Q)
variable {X : Cx} {RR : List V → Hp → VK → Prop} {c : Nat → Addr}
theorem caught_body {j : Nat} {out : List Env} {cdg : Value} {g fK : Addr} {fdK : FuncData} {H : Hp} {s : Shared} {A : Around} {fl c' : Addr} {q : Str} {Q : VK} {tl : XK → Hp → VK → Prop}
    (N : ErNames X.mg c) (FK : FnP X.prog X.w X.K X.mg X.base CX0 1 fK fdK ["_law_e"] (spKind X.K c)) (kb : Binds X.K fdK ["_law_e"] []) (kk : PySem.W.keepIn X.K (.ref fK) = true) (km : X.mg "_law_kind" = some (.ref fK)) (mr : X.mg "repr" = none) (rr : Reprs X j RR) (mono : ∀ xs H (Q Q' : VK), (∀ v H', Q v H' → Q' v H') → RR xs H Q → RR xs H Q')
    (gds : A.guards = some []) (room : Room (j + 1) (A.deeper (envOfC "_law_caught" (defScope s_l_caught) s.heap.objs.size g cdg)))
    (act : ∀ (W : WX) (pn : List (Addr × Obj)) (xe : Value → Shared → Prop) (E : XK) (p1 p2 : Pos), L2N.Takes ((cxOf CX0 X.prog X.w X.K X.mg X.base ["_law_act", "_law_e"] "_law_caught" (defScope s_l_caught) g cdg A out s H E0).tr pn xe) W →
      PE ((cxOf CX0 X.prog X.w X.K X.mg X.base ["_law_act", "_law_e"] "_law_caught" (defScope s_l_caught) g cdg A out s H E0).tr pn xe) (.Call (.Name "_law_act" p1) [] [] p2) (fun slZ HZ Q => slZ[0]? = some (some (.ref fl)) ∧ HZ c' = some (LamX.CodeO c' q) ∧ (∀ cls d H', E cls d H' → W cls d slZ H') ∧ tl E HZ Q))
    (code : H c' = some (LamX.CodeO c' q)) (want : tl (Got X.K c RR Q) H (Fine Q)) :
    ∃ t, PSs (cxOf CX0 X.prog X.w X.K X.mg X.base ["_law_act", "_law_e"] "_law_caught" (defScope s_l_caught) g cdg A out s H E0).nox (defBody s_l_caught) t ∧ t { nx := fun _ H' => Q .non H', rt := Q } (L2.start ["_law_act", "_law_e"] [.ref fl]) H := by
  have l1 : ∀ n : Nat, n ≤ 1000 → n ≤ sizeLine := fun n h => Nat.le_of_lt (small1000 h)
  have room1 : L2H.RoomH 1 (A.deeper (envOfC "_law_caught" (defScope s_l_caught) s.heap.objs.size g cdg)) := L2H.roomH_of (room.mono (by omega))
  have roomJ : L2H.RoomH j (A.deeper (envOfC "_law_caught" (defScope s_l_caught) s.heap.objs.size g cdg)) := L2H.roomH_of (room.mono (by omega))
  have rep : ∀ {a : Addr} {oe : Obj} {cls : Value} {d : Option Addr} {pn : List (Addr × Obj)}, L2N.Zn cls d oe → (∃ vs, oe.data = .fields vs) → CallR ((cxOf CX0 X.prog X.w X.K X.mg X.base ["_law_act", "_law_e"] "_law_caught" (defScope s_l_caught) g cdg A out s H E0).nox.suite a ((a, oe) :: pn)) (.builtin "repr") RR := by
    intro a oe cls d pn hz hf
    obtain ⟨vs, hv⟩ := hf
    exact rr _ (a, oe) rfl rfl rfl rfl rfl gds ⟨roomJ.dp, roomJ.un⟩ ⟨rfl, vs, hv, hz.2.2 vs hv⟩ List.mem_cons_self
  refine ⟨_, pss_cons (ps_tries (Wout := fun _ _ _ _ => False) (tb := fun W D sl H => ∃ E : XK, (∀ cls d H', E cls d H' → W cls d sl H') ∧ sl[0]? = some (some (.ref fl)) ∧ H c' = some (LamX.CodeO c' q) ∧ tl E H (fun _ H' => D.nx sl H')) rfl rfl scCaught.nd takes0N (fun W pn xe tk _ => ?body) (.cons (i := 1) (.three ⟨rfl, by decide, .inl N.m6⟩ ⟨rfl, by decide, .inl N.m10⟩ ⟨rfl, by decide, .inl N.m12⟩) rfl rfl (fun a oe cls d pn hz hf => pss_one (ps_ret (pe_lst (pa_cons (kind_call FK gds room1 hz hf rfl km kk kb (pv 1)) (pa_cons (pe_callB (rep hz hf) (by rfl) mr PyProof.Rows.boot_repr (pa_cons (pe_xfR hz.zc hf (pv 1)) pa_nil)) pa_nil)))))
      (.cons (i := 1) (.two ⟨rfl, by decide, .inl N.m18⟩ ⟨rfl, by decide, .inl N.m19⟩) rfl rfl (fun a oe cls d pn hz hf => pss_one (ps_ret (pe_lst (pa_cons (kind_call FK gds room1 hz hf rfl km kk kb (pv 1)) (pa_cons (pe_callB (rep hz hf) (by rfl) mr PyProof.Rows.boot_repr (pa_cons (pe_xfR hz.zc hf (pv 1)) pa_nil)) pa_nil)))))
      (.cons (i := 1) (.one ⟨rfl, by decide, .inl N.m17⟩) rfl rfl (fun a oe cls d pn hz hf => pss_one (ps_ret (pe_lst (pa_cons (kind_call FK gds room1 hz hf rfl km kk kb (pv 1)) (pa_cons pe_str pa_nil)))))
      (.cons (i := 1) (.two ⟨rfl, by decide, .inl N.m20⟩ ⟨rfl, by decide, .inl N.m21⟩) rfl rfl (fun a oe cls d pn hz hf => pss_one (ps_ret (pe_lst (pa_cons (kind_call FK gds room1 hz hf rfl km kk kb (pv 1)) (pa_cons (pe_callB (rep hz hf) (by rfl) mr PyProof.Rows.boot_repr (pa_cons (pe_xfR hz.zc hf (pv 1)) pa_nil)) pa_nil)))))
      (.cons (i := 1) (.one ⟨rfl, by decide, .inl N.m22⟩) rfl rfl (fun a oe cls d pn hz hf => pss_one (ps_ret (pe_lst (pa_cons (kind_call FK gds room1 hz hf rfl km kk kb (pv 1)) (pa_cons pe_str pa_nil))))) .nil))))))
    (pss_one (ps_ret (pe_weak (t' := fun _ H Q => ∀ L, H L = none → Q (.ref L) (upd H L (.lst [.str "none", .str ""]))) (pe_lst (pa_cons pe_str (pa_cons pe_str pa_nil))) (fun _ _ _ q => ⟨l1 2 (by decide), q⟩)))), ?_⟩
  case body =>
    refine ⟨fun pins s1 sl H1 D inv got => ?_⟩
    obtain ⟨E, hW, h0, hc, ht⟩ := got
    exact (pss_one (ps_expr (act W pn xe E _ _ tk))).run pins s1 sl H1 D inv ⟨h0, hc, hW, ht⟩
  refine ⟨Got X.K c RR Q, fun cls d H' got => ?_, rfl, code, want⟩
  obtain ⟨D, dd, k, v, rfl, rfl, Z, Y, V, hd, q⟩ := got
  refine ⟨false, V.e1, fun z => Bool.noConfusion z, fun _ => ⟨false, V.e2, fun z => Bool.noConfusion z, fun _ => ⟨false, V.e3, fun z => Bool.noConfusion z, fun _ => ⟨true, V.e4, fun _ a na => ?_, fun z => Bool.noConfusion z⟩⟩⟩⟩
  refine ⟨rfl, D, dd, k, _, rfl, rfl, Z, Y, hd, fun H1 s1 => ?_⟩
  refine ⟨D, V.xf, V.no, _, rfl, rfl, rfl, dd, _, v, rfl, s1 _ _ hd, by simp [List.lookup], ?_⟩
  refine mono _ _ _ _ (fun y H2 z => ?_) (q H1 s1)
  obtain ⟨txt, rfl, z⟩ := z
  exact ⟨l1 2 (by decide), z⟩
/-- caught(lambda: body) -/
theorem pe_caught {T : List (Addr × Str)} {g fK c0 P0 : Addr} {k j : Nat} {gd fdK : FuncData} {params : Arguments} {body : Expr} {scope : Scope} {t : XK → TE} {p lpos pos : Pos}
    (F : Fun X.K "_law_caught" "_law_caught" s_l_caught g gd) (hb : Binds X.K gd ["_law_act"] []) (hk : PySem.W.keepIn X.K (.ref g) = true) (hm : X.mg "_law_caught" = some (.ref g)) (hg : Gl X "_law_caught")
    (N : ErNames X.mg c) (FK : FnP X.prog X.w X.K X.mg X.base CX0 1 fK fdK ["_law_e"] (spKind X.K c)) (kb : Binds X.K fdK ["_law_e"] []) (kk : PySem.W.keepIn X.K (.ref fK) = true) (km : X.mg "_law_kind" = some (.ref fK)) (mr : X.mg "repr" = none) (rr : Reprs X j RR)
    (mono : ∀ xs H (Q Q' : VK), (∀ v H', Q v H' → Q' v H') → RR xs H Q → RR xs H Q')
    (gds : X.A.guards = some []) (TB : LamX.TabB X.base X.mg c0 P0) (code : X.env.code = .ref c0) (mem : (P0, X.env.qual ++ "<lambda>") ∈ T) (only : ∀ q ∈ T, q.1 = P0 → q.2 = X.env.qual ++ "<lambda>")
    (room : Room (j + k + 3) X.A) (L : LamX.LamS X.env.scope scope) (dfl : defaultsOf params X.env = ([], []))
    (bind : ∀ (q : Str) (cl : List (Str × Addr)) (pm cv ctv : Value), bindArgs (PySem.W.kla_fn "<lambda>" q params body scope cl pm cv ctv) ⟨[], []⟩ = pure [])
    (walk : ∀ (A : Around) (outer : List Env) (s : Shared) (H : Hp) (E : XK) (f c' : Addr), A.guards = some [] → Room k (A.deeper (LamX.lamEnv X scope s.heap.objs.size f c')) → PE (lamC X A outer s H E scope f c') body (t E)) :
    PE X (.Call (.Name "_law_caught" p) [.Lambda params body scope lpos] [] pos) (tCaught X.K T c RR t) := by
  obtain ⟨oc, od, kV, doc, pm, an, cdv, ct, osl, e, lk, lc⟩ := F.ex
  subst e
  refine ⟨fun pins s sl H Q inv want => ?_⟩
  obtain ⟨hT, want⟩ := want
  refine wpAny_Call_Name_kw (ld_glob inv hg hm ?_ (by decide))
  refine PySem.W.callWith_K (h₀ := X.base) inv.ok.mod.kin hk ?_ (by rfl) (by rfl)
  show wpAny _ _ (spliced ((false, eval (.Lambda params body scope lpos) X.env) :: backTo pos (starEach [] X.env))) _ _ s
  refine Calls.spliced_cons (LamX.lam_make2 inv TB code mem only hT dfl (L.has inv.ok) fun f c' pm' ctv H1 s1 inv1 ext T1 hf nf nfr hco => ?_)
  refine Calls.spliced_nil ⟨inv1.kIn, ?_⟩
  have run : codeAny (model X.prog X.w) X.A (.call (.ref g) ⟨[.ref f], []⟩) (CR CX0 X.stack X.prog X.w H1 s1 Q E0) s1 := by
    refine LamX.run_ofS (k := j + k + 2) (N := ["_law_act", "_law_e"]) (ps := ["_law_act"]) (us := [.ref f]) (vs := [.ref f]) lk lc scCaught room inv1.env0 (hb s1 [.ref f] inv1.kIn rfl) (.cons rfl .nil) rfl fun room2 => ?_
    obtain ⟨t', ht, hq⟩ := caught_body (j := j) (fl := f) (c' := c') (q := X.env.qual ++ "<lambda>") (Q := Q) (tl := fun E H' Q' => t E sl H' Q') (out := X.stack) (A := X.A) (s := s1) (H := H1) (g := g) (cdg := cdv) N FK kb kk km mr rr mono gds (room2.mono (by omega))
      (fun W pn xe E p1 p2 tk => act_call (k := k) (i := 0) inv1 L gds hf nf nfr (bind _ _ _ _ _) tk (room2.mono (by omega)) (fun A outer s H hg2 hr2 => walk A outer s H E f c' hg2 hr2) rfl (.inl rfl)) hco (want H1 ext T1)
    exact ⟨t', ht.nox, hq⟩
  refine wpAny_call (codeAny_mono run fun r s2 got => ?_)
  cases r with
  | error e => exact (show False from got).elim
  | ok fl =>
    cases fl with
    | ret u => exact inv1.after got
    | next => exact got.elim
    | brk => exact got.elim
    | cont => exact got.elim
end
/-! the same over trees -/
/-- what is known of an error's class -/
structure ErN (K : PySem.W.Frag) (c : Nat → Addr) (D : Addr) (k : Nat) : Prop where
  is : ErIs K D
  kind : ErKind K c D k
  val : ErVal K c D
/-- caught(lambda: body): where body's error goes, its number and its value's text -/
def rCaught (K : PySem.W.Frag) (c : Nat → Addr) (T0 : List (Addr × Str)) (kr : List T → Store → (T → Store → Prop) → XT → Prop) (rb : TR) : TR := fun σ S R RE => TabsIn T0 S ∧
  rb σ S (fun _ S' => R (.lst [.str "none", .str ""]) S') (fun C gs S' => ∃ (k : Nat) (v : T), ErN K c C k ∧ gs = [(("value" : Str), v)] ∧ kr [v] S' (fun y S2 => ∃ z, y = .str z ∧ R (.lst [.int k, .str z]) S2) XF)
theorem et_caught {X : Cx} {E2 : XK} {RR : List V → Hp → VK → Prop} {kr : List T → Store → (T → Store → Prop) → XT → Prop} {c : Nat → Addr} {T0 : List (Addr × Str)} {g fK c0 P0 : Addr} {k j : Nat} {gd fdK : FuncData} {params : Arguments} {body : Expr} {scope : Scope} {rb : TR} {p lpos pos : Pos}
    (F : Fun X.K "_law_caught" "_law_caught" s_l_caught g gd) (hb : Binds X.K gd ["_law_act"] []) (hk : PySem.W.keepIn X.K (.ref g) = true) (hm : X.mg "_law_caught" = some (.ref g)) (hg : Gl X "_law_caught")
    (N : ErNames X.mg c) (FK : FnP X.prog X.w X.K X.mg X.base CX0 1 fK fdK ["_law_e"] (spKind X.K c)) (kb : Binds X.K fdK ["_law_e"] []) (kk : PySem.W.keepIn X.K (.ref fK) = true) (km : X.mg "_law_kind" = some (.ref fK)) (mr : X.mg "repr" = none) (rr : Reprs X j RR)
    (mono : ∀ xs H (Q Q' : VK), (∀ v H', Q v H' → Q' v H') → RR xs H Q → RR xs H Q') (conv : ConvA X.K EF kr RR)
    (gds : X.A.guards = some []) (TB : LamX.TabB X.base X.mg c0 P0) (code : X.env.code = .ref c0) (mem : (P0, X.env.qual ++ "<lambda>") ∈ T0) (only : ∀ q ∈ T0, q.1 = P0 → q.2 = X.env.qual ++ "<lambda>")
    (room : Room (j + k + 3) X.A) (L : LamX.LamS X.env.scope scope) (dfl : defaultsOf params X.env = ([], []))
    (bind : ∀ (q : Str) (cl : List (Str × Addr)) (pm cv ctv : Value), bindArgs (PySem.W.kla_fn "<lambda>" q params body scope cl pm cv ctv) ⟨[], []⟩ = pure [])
    (walk : ∀ (A : Around) (outer : List Env) (s : Shared) (H : Hp) (E : XK) (f c' : Addr), A.guards = some [] → Room k (A.deeper (LamX.lamEnv X scope s.heap.objs.size f c')) → ET (lamC X A outer s H E scope f c') E body rb) :
    ET X E2 (.Call (.Name "_law_caught" p) [.Lambda params body scope lpos] [] pos) (rCaught X.K c T0 kr rb) := by
  refine ⟨pe_weak (pe_caught (t := fun E sl H Q => UpE X.K E rb sl H Q) F hb hk hm hg N FK kb kk km mr rr mono gds TB code mem only room L dfl bind fun A outer s H E f c' h1 h2 => (walk A outer s H E f c' h1 h2).pe) ?_⟩
  intro sl H Q up
  obtain ⟨⟨Z, σ, S, R, RE, fr, ok, ⟨tin, w⟩, po, xo⟩⟩ := up
  refine ⟨tin.tabs ok, fun H1 x tb => ?_⟩
  have le1 : Le S H S H1 := le_ext x
  have ok1 := ok.ext tin x tb
  refine ⟨⟨Z, σ, S, _, _, fr.le le1, ok1, w, fun t S' v H' kt le' ok' rep L hL => ?_, fun C gs S' od fs H' got le' ok' xd rf => ?_⟩⟩
  · exact po _ _ _ _ kt (le1.trans (le'.trans (le_new hL))) (ok'.new hL) (.lstN ok' hL (.cons (.str _) (.cons (.str _) .nil)))
  · obtain ⟨n, v, en, rfl, kv⟩ := got
    cases rf with
    | @cons _ u _ fs' _ ru rr2 =>
    cases rr2
    cases od with
    | none => cases xd
    | some dd =>
      refine ⟨C, dd, n, u, rfl, rfl, en.is, en.kind, en.val, xd, fun H2 s2 => ?_⟩
      refine conv Z [v] S' [u] H2 _ _ _ (ok'.same s2) (.cons (ru.le (le_same s2)) .nil) kv (fun t S2 y H3 kt le3 ok3 rep => ?_) (fun _ _ _ _ _ _ z => z.elim)
      obtain ⟨z, rfl, kt⟩ := kt
      cases rep
      exact ⟨z, rfl, fun L hL => po _ _ _ _ kt (le1.trans (le'.trans ((le_same s2).trans (le3.trans (le_new hL))))) (ok3.new hL) (.lstN ok3 hL (.cons (.int _) (.cons (.str _) .nil)))⟩
/-! repr of data while an error is handled -/
/-- all that is known of the law's _law_caught and _law_kind -/
structure CauD (P : Program) (w : World) (K : PySem.W.Frag) (mg : Str → Option Value) (base : Heap) (c : Nat → Addr) (g fK : Addr) (gd fdK : FuncData) : Prop where
  F : Fun K "_law_caught" "_law_caught" s_l_caught g gd
  hb : Binds K gd ["_law_act"] []
  hk : PySem.W.keepIn K (.ref g) = true
  hm : mg "_law_caught" = some (.ref g)
  N : ErNames mg c
  FK : FnP P w K mg base CX0 1 fK fdK ["_law_e"] (spKind K c)
  kb : Binds K fdK ["_law_e"] []
  kk : PySem.W.keepIn K (.ref fK) = true
  km : mg "_law_kind" = some (.ref fK)
  mr : mg "repr" = none
  sys : ∃ o, base.get? sysModules = some o
def kReprX (D : Addr → SpT → Prop) : KA := fun xs S R RE => kReprD xs S R RE ∨ kStrOwn D xs S R RE
def RRX (K : PySem.W.Frag) (D : Addr → SpT → Prop) : List V → Hp → VK → Prop := fun xs H Q => RD K xs H Q ∨ RStrD K D xs H Q
theorem RStrD.mono {K : PySem.W.Frag} {D : Addr → SpT → Prop} (xs : List V) (H : Hp) (Q Q' : VK) (imp : ∀ v H', Q v H' → Q' v H') (h : RStrD K D xs H Q) : RStrD K D xs H Q' := by
  obtain ⟨C, sp, a, dx, fs, e, hx, d, up⟩ := h
  obtain ⟨Z, ts, S, R, RE, rs, ok, s, po, xo⟩ := up.ex
  exact ⟨C, sp, a, dx, fs, e, hx, d, ⟨Z, ts, S, R, RE, rs, ok, s, fun t S' v H' r le ok' rep => ⟨(po t S' v H' r le ok' rep).1, imp _ _ (po t S' v H' r le ok' rep).2⟩, xo⟩⟩
theorem RRX.mono {K : PySem.W.Frag} {D : Addr → SpT → Prop} (xs : List V) (H : Hp) (Q Q' : VK) (imp : ∀ v H', Q v H' → Q' v H') (h : RRX K D xs H Q) : RRX K D xs H Q' := h.elim (fun a => .inl (RD.mono xs H Q Q' imp a)) fun a => .inr (RStrD.mono xs H Q Q' imp a)
theorem cv_reprX {K : PySem.W.Frag} {E : XK} {D : Addr → SpT → Prop} : ConvA K E (kReprX D) (RRX K D) := by
  intro Z xs S vs H R RE Q ok rs h po xo
  rcases h with h | h
  · exact .inl (cv_reprD Z xs S vs H R RE Q ok rs h po xo)
  · exact .inr (cv_strOwn Z xs S vs H R RE Q ok rs h po xo)
theorem reprs_x {X : Cx} {j : Nat} {D : Addr → SpT → Prop} (sys : ∃ o, X.base.get? sysModules = some o) (SD : StrDH X.prog X.w X.K X.mg X.base "__repr__" j D) : Reprs X j (RRX X.K D) := fun Y p hp hw hK hm hb gds room hot mem => by
  have h1 := reprD (X := Y) (by rw [hb]; exact sys) gds (by have := room.un; omega)
  have h2 := reprOwnH (X := Y) (D := D) (by rw [hp, hw, hK, hm, hb]; exact SD) gds room hot mem
  rw [hK] at h1 h2
  intro pins s sl H xs us Q inv vals want
  rcases want with w | w
  · exact h1 pins s sl H xs us Q inv vals w
  · exact h2 pins s sl H xs us Q inv vals w
theorem et_caughtX {X : Cx} {E2 : XK} {c : Nat → Addr} {T0 : List (Addr × Str)} {g fK c0 P0 : Addr} {j k : Nat} {D : Addr → SpT → Prop} {gd fdK : FuncData} {params : Arguments} {body : Expr} {scope : Scope} {rb : TR} {p lpos pos : Pos}
    (CA : CauD X.prog X.w X.K X.mg X.base c g fK gd fdK) (SD : StrDH X.prog X.w X.K X.mg X.base "__repr__" j D) (hj : 1 ≤ j) (hg : Gl X "_law_caught") (gds : X.A.guards = some []) (TB : LamX.TabB X.base X.mg c0 P0) (code : X.env.code = .ref c0) (mem : (P0, X.env.qual ++ "<lambda>") ∈ T0) (only : ∀ q ∈ T0, q.1 = P0 → q.2 = X.env.qual ++ "<lambda>")
    (room : Room (j + k + 3) X.A) (L : LamX.LamS X.env.scope scope) (dfl : defaultsOf params X.env = ([], []))
    (bind : ∀ (q : Str) (cl : List (Str × Addr)) (pm cv ctv : Value), bindArgs (PySem.W.kla_fn "<lambda>" q params body scope cl pm cv ctv) ⟨[], []⟩ = pure [])
    (walk : ∀ (A : Around) (outer : List Env) (s : Shared) (H : Hp) (E : XK) (f c' : Addr), A.guards = some [] → Room k (A.deeper (LamX.lamEnv X scope s.heap.objs.size f c')) → ET (lamC X A outer s H E scope f c') E body rb) :
    ET X E2 (.Call (.Name "_law_caught" p) [.Lambda params body scope lpos] [] pos) (rCaught X.K c T0 (kReprX D) rb) :=
  et_caught (j := j) CA.F CA.hb CA.hk CA.hm hg CA.N CA.FK CA.kb CA.kk CA.km CA.mr (reprs_x CA.sys SD) RRX.mono cv_reprX gds TB code mem only room L dfl bind walk
theorem et_caughtK {X : Cx} {E2 : XK} (K : PySem.W.Frag) (hK : X.K = K) {c : Nat → Addr} {T0 : List (Addr × Str)} {g fK c0 P0 : Addr} {j k : Nat} {D : Addr → SpT → Prop} {gd fdK : FuncData} {params : Arguments} {body : Expr} {scope : Scope} {rb : TR} {p lpos pos : Pos}
    (CA : CauD X.prog X.w X.K X.mg X.base c g fK gd fdK) (SD : StrDH X.prog X.w X.K X.mg X.base "__repr__" j D) (hj : 1 ≤ j) (hg : Gl X "_law_caught") (gds : X.A.guards = some []) (TB : LamX.TabB X.base X.mg c0 P0) (code : X.env.code = .ref c0) (mem : (P0, X.env.qual ++ "<lambda>") ∈ T0) (only : ∀ q ∈ T0, q.1 = P0 → q.2 = X.env.qual ++ "<lambda>")
    (room : Room (j + k + 3) X.A) (L : LamX.LamS X.env.scope scope) (dfl : defaultsOf params X.env = ([], []))
    (bind : ∀ (q : Str) (cl : List (Str × Addr)) (pm cv ctv : Value), bindArgs (PySem.W.kla_fn "<lambda>" q params body scope cl pm cv ctv) ⟨[], []⟩ = pure [])
    (walk : ∀ (A : Around) (outer : List Env) (s : Shared) (H : Hp) (E : XK) (f c' : Addr), A.guards = some [] → Room k (A.deeper (LamX.lamEnv X scope s.heap.objs.size f c')) → ET (lamC X A outer s H E scope f c') E body rb) :
    ET X E2 (.Call (.Name "_law_caught" p) [.Lambda params body scope lpos] [] pos) (rCaught K c T0 (kReprX D) rb) := by
  subst hK
  exact et_caughtX CA SD hj hg gds TB code mem only room L dfl bind walk
theorem StrD.none {X : Cx} {m : Str} : StrD X m (fun _ _ => False) := ⟨fun _ _ d => d.elim⟩
/-- repr, while nothing is handled -/
theorem reprX {X : Cx} {D : Addr → SpT → Prop} (sys : ∃ o, X.base.get? sysModules = some o) (S : StrD X "__repr__" D) (gds : X.A.guards = some []) (room : X.A.units + 70 < cLine) : CallR X (.builtin "repr") (RRX X.K D) := by
  intro pins s sl H xs us Q inv vals want
  rcases want with w | w
  · exact reprD sys gds room pins s sl H xs us Q inv vals w
  · exact reprOwnT S gds pins s sl H xs us Q inv vals w
section
variable {K : PySem.W.Frag}
def erIsB (K : PySem.W.Frag) (D : Addr) : Bool := (PySem.W.clsIn K D).isSome && decide (PySem.W.findIn K (.ref D) "__getattribute__" = some (some (.builtin "BaseException.__getattribute__"))) && decide (PySem.W.findIn K (.ref D) "__getattr__" = some none) && decide (PySem.W.subIn K (.ref D) (.type "BaseException") = some true)
  && decide (PySem.W.findIn K (.ref D) "__class__" = some (some (.builtin "object.__class__"))) && decide (PySem.W.specialIn K (.builtin "object.__class__") "__get__" = some (some (.builtin "getset_descriptor.__get__"))) && decide (PySem.W.takesIn K (.builtin "object.__class__") = some true) && decide (PySem.W.mroIn K D (.type "object") = some true)
theorem erIs_of {D : Addr} (h : erIsB K D = true) : ErIs K D := by
  unfold erIsB at h
  simp only [Bool.and_eq_true, decide_eq_true_eq] at h
  obtain ⟨⟨⟨⟨⟨⟨⟨h1, h2⟩, h3⟩, h4⟩, h5⟩, h6⟩, h7⟩, h8⟩ := h
  exact ⟨h1, h2, h3, h4, h5, h6, h7, h8⟩
def erKindB (K : PySem.W.Frag) (c : Nat → Addr) (D : Addr) (k : Nat) : Bool := ((List.range 20).all fun i => decide (PySem.W.kitOne K (.ref D) (.ref (c i)) = some (decide (i = k)))) && decide (PySem.W.kitOne K (.ref D) (.ref (c 20)) = some (decide (k < 14))) && decide (PySem.W.kitOne K (.ref D) (.ref (c 21)) = some (decide (13 < k) && decide (k < 18))) && decide (PySem.W.kitOne K (.ref D) (.ref (c 22)) = some (decide (17 < k)))
  && decide (PySem.W.kitOne K (.ref D) (.type "ValueError") = some (decide (k < 14))) && decide (PySem.W.kitOne K (.ref D) (.type "LookupError") = some (decide (13 < k) && decide (k < 18))) && decide (PySem.W.kitOne K (.ref D) (.type "ArithmeticError") = some (decide (17 < k))) && decide (k < 20)
theorem erKind_of {c : Nat → Addr} {D : Addr} {k : Nat} (h : erKindB K c D k = true) : ErKind K c D k := by
  unfold erKindB at h
  simp only [Bool.and_eq_true, decide_eq_true_eq, List.all_eq_true, List.mem_range] at h
  obtain ⟨⟨⟨⟨⟨⟨⟨h0, h1⟩, h2⟩, h3⟩, h4⟩, h5⟩, h6⟩, h7⟩ := h
  exact ⟨h0 0 (by decide), h0 1 (by decide), h0 2 (by decide), h0 3 (by decide), h0 4 (by decide), h0 5 (by decide), h0 6 (by decide), h0 7 (by decide), h0 8 (by decide), h0 9 (by decide), h0 10 (by decide), h0 11 (by decide), h0 12 (by decide), h0 13 (by decide), h0 14 (by decide), h0 15 (by decide), h0 16 (by decide), h0 17 (by decide), h0 18 (by decide), h0 19 (by decide), h1, h2, h3, h4, h5, h6, h7⟩
def erValB (K : PySem.W.Frag) (c : Nat → Addr) (D : Addr) : Bool := decide (PySem.W.exmAny K (.ref D) [.ref (c 6), .ref (c 10), .ref (c 12)] = some false) && decide (PySem.W.exmAny K (.ref D) [.ref (c 18), .ref (c 19)] = some false) && decide (PySem.W.exmOne K (.ref D) (.ref (c 17)) = some false) && decide (PySem.W.exmAny K (.ref D) [.ref (c 20), .ref (c 21)] = some true)
  && xfB K D && decide (PySem.W.findIn K (.ref D) "value" = some none)
theorem erVal_of {c : Nat → Addr} {D : Addr} (h : erValB K c D = true) : ErVal K c D := by
  unfold erValB at h
  simp only [Bool.and_eq_true, decide_eq_true_eq] at h
  obtain ⟨⟨⟨⟨⟨h1, h2⟩, h3⟩, h4⟩, h5⟩, h6⟩ := h
  exact ⟨h1, h2, h3, h4, xfB_ok h5, h6⟩
end
theorem TabsIn.ps {T0 : List (Addr × Str)} {S S' : Store} {p : Addr} (t : TabsIn T0 S) (hp : PoolT S p) (h : PS S p S') : TabsIn T0 S' := by
  obtain ⟨x, d, c, _, _, _, rfl⟩ := h
  obtain ⟨x', d', c', e, _⟩ := hp
  intro a q
  by_cases z : a = p
  · subst z
    rw [put_same]
    refine ⟨fun w => (by cases w), fun w => ?_⟩
    have := (t a q).mpr w
    rw [e] at this
    cases this
  · rw [put_ne z]
    exact t a q
theorem TabsIn.putl {T0 : List (Addr × Str)} {S : Store} {p : Addr} {l : List T} (t : TabsIn T0 S) (h : ∀ q, S p ≠ some (.tab q)) : TabsIn T0 (S.put p (.lst l)) := fun a q => by
  by_cases z : a = p
  · subst z
    rw [put_same]
    exact ⟨fun w => (by cases w), fun w => absurd ((t a q).mpr w) (h q)⟩
  · rw [put_ne z]
    exact t a q
theorem TabsIn.drop {T0 : List (Addr × Str)} {S : Store} {p : Addr} (t : TabsIn T0 S) (h : ∀ q, S p ≠ some (.tab q)) : TabsIn T0 (S.drop p) := fun a q => by
  by_cases z : a = p
  · subst z
    rw [drop_same]
    exact ⟨fun w => (by cases w), fun w => absurd ((t a q).mpr w) (h q)⟩
  · rw [drop_ne z]
    exact t a q
theorem allT {ts ys : List T} (hl : ys.length = ts.length) (hF : ∀ (i : Nat) (t y : T), ts[i]? = some t → ys[i]? = some y → y = .bl true) : ys = (List.replicate ys.length true).map T.bl ∧ (List.replicate ys.length true).all id = true := by
  refine ⟨?_, by rw [List.all_replicate]; split <;> rfl⟩
  refine List.ext_getElem? fun k => ?_
  rw [List.getElem?_map, List.getElem?_replicate]
  by_cases hk : k < ys.length
  · have := hF k (ts[k]'(by omega)) ys[k] (List.getElem?_eq_getElem (by omega)) (List.getElem?_eq_getElem hk)
    rw [List.getElem?_eq_getElem hk, this, if_pos hk]
    rfl
  · rw [List.getElem?_eq_none (by omega), if_neg hk]
    rfl
theorem sIf_i {tc : TRB} {ra rb : TRS} {D : EnT} {σ : Fm} {S : Store} (h : ∀ (A B : Store → Prop), (∀ S', ra D σ S' → A S') → (∀ S', rb D σ S' → B S') → tc σ S (fun c S1 => if c = true then A S1 else B S1) D.ex) : sIf tc ra rb D σ S := h _ _ (fun _ x => x) (fun _ x => x)
theorem TabsIn.ps0 {T0 : List (Addr × Str)} {S S' : Store} {p : Addr} (t : TabsIn T0 S) (hp : S p = none) (h : PS S p S') : TabsIn T0 S' := by
  obtain ⟨x, d, c, _, _, _, rfl⟩ := h
  exact t.putl fun q e => by rw [hp] at e; cases e
theorem law_cellsT {T0 : List (Addr × Str)} {fr : T → Fm} {spR : SpT} {i j : Nat} {ns : List Int} {m : Int} {S : Store} {R : T → Store → Prop} (h63 : ns.length ≤ 63) (hm : 0 ≤ m ∧ m ≤ 100) (hi : ∀ t, (fr t)[i]? = some (some (.scr (ns.map T.int)))) (hj : ∀ t, (fr t)[j]? = some (some t))
    (t0 : TabsIn T0 S) (hR : ∀ p S, PoolT S p → TabsIn T0 S → ∀ N : T → Store → Prop, (∀ S', TabsIn T0 S' → N (.bl true) S') → spR [.cell p] S N XF) (q : ∀ S, R (.bl true) S) :
    rComp fr bYes (rCall spR [] (aCons (rCall sp_l_pool [] (aCons (rCall sp_l_cell [] (aCons (rVar i) (aCons (rVar j) aNil))) aNil)) aNil)) (rangeT 0 m) [] S (fun ys S2 => ∃ bs, ys = List.map T.bl bs ∧ R (.bl (bs.all id)) S2) := by
  have ln : (rangeT 0 m).length = m.toNat := by simp [rangeT]
  refine rComp_all (fun _ S' => TabsIn T0 S') (fun _ _ y => y = .bl true) t0 (by rw [ln, sizeLine_eq]; omega) ?_ ?_
  · intro k t S' hk tin N hN
    unfold rangeT at hk
    rw [List.getElem?_map] at hk
    obtain ⟨z, hz, rfl⟩ := Option.map_eq_some_iff.mp hk
    obtain ⟨lz, ez⟩ := List.getElem?_eq_some_iff.mp hz
    rw [List.getElem_range] at ez
    rw [List.length_range] at lz
    subst ez
    refine ⟨_, hi _, _, hj _, ?_⟩
    simp only [aNil, List.append_nil]
    refine ⟨⟨ns, rfl, h63⟩, by omega, by omega, fun v => ?_⟩
    intro p S2 hp ps
    exact hR p S2 ps.pool (tin.ps0 hp ps) _ fun S3 t3 => hN _ _ rfl t3
  · intro ys S2 hl hF _
    refine ⟨List.replicate ys.length true, ?_, ?_⟩
    · refine List.ext_getElem? fun k => ?_
      rw [List.getElem?_map, List.getElem?_replicate]
      by_cases hk : k < ys.length
      · have := hF k ((rangeT 0 m)[k]'(by omega)) ys[k] (List.getElem?_eq_getElem (by omega)) (List.getElem?_eq_getElem hk)
        rw [List.getElem?_eq_getElem hk, this, if_pos hk]
        rfl
      · rw [List.getElem?_eq_none (by omega), if_neg hk]
        rfl
    · rw [show (List.replicate ys.length true).all id = true by rw [List.all_replicate]; split <;> rfl]
      exact q _
theorem PoolT.put {S : Store} {p a : Addr} {c : Cell} (h : PoolT S p) (n : p ≠ a) : PoolT (S.put a c) p := by
  obtain ⟨x, d, c', e, r⟩ := h
  exact ⟨x, d, c', by rw [put_ne n]; exact e, r⟩
theorem PoolT.ne {S : Store} {p a : Addr} (h : PoolT S p) (e : S a = none) : p ≠ a := fun z => by
  obtain ⟨_, _, _, q, _⟩ := h
  rw [z, e] at q; cases q
theorem PS.at {S S' : Store} {p a : Addr} (h : PS S p S') (n : p ≠ a) : S' a = S a := by
  obtain ⟨_, _, _, _, _, _, rfl⟩ := h
  exact put_ne (Ne.symm n)
theorem TabsIn.puti {T0 : List (Addr × Str)} {S : Store} {p C : Addr} {gs : List (Str × T)} (t : TabsIn T0 S) (h : ∀ q, S p ≠ some (.tab q)) : TabsIn T0 (S.put p (.ins C gs)) := fun a q => by
  by_cases z : a = p
  · subst z
    rw [put_same]
    exact ⟨fun w => (by cases w), fun w => absurd ((t a q).mpr w) (h q)⟩
  · rw [put_ne z]
    exact t a q
open TL (numL numL_val)
open NumText (AllDigits digitsVal)
theorem spl_ne {c : Nat} (l : List Nat) : TL.spl [c] 0 [] l ≠ [] := by
  rcases split1 c l with h | ⟨p, q, rfl, h⟩
  · rw [TL.spl_last1 h]; simp
  · rw [show p ++ c :: q = p ++ ([c] ++ q) from rfl, TL.spl_part1 h]; simp
/-- a text split at a sign: one part, two, more -/
theorem split_cases (c : Nat) (l : List Nat) : (c ∉ l ∧ TL.spl [c] 0 [] l = [l]) ∨ (∃ p q, l = p ++ c :: q ∧ c ∉ p ∧ c ∉ q ∧ TL.spl [c] 0 [] l = [p, q]) ∨
    (2 < (TL.spl [c] 0 [] l).length ∧ ∃ p q r, l = p ++ c :: (q ++ c :: r) ∧ c ∉ p ∧ c ∉ q) := by
  rcases split1 c l with h | ⟨p, q, rfl, h⟩
  · exact .inl ⟨h, by rw [TL.spl_last1 h]; rfl⟩
  · rcases split1 c q with h2 | ⟨q, r, rfl, h2⟩
    · exact .inr (.inl ⟨p, q, rfl, h, h2, by rw [show p ++ c :: q = p ++ ([c] ++ q) from rfl, TL.spl_part1 h, TL.spl_last1 h2]; rfl⟩)
    · refine .inr (.inr ⟨?_, p, q, r, rfl, h, h2⟩)
      rw [show p ++ c :: (q ++ c :: r) = p ++ ([c] ++ (q ++ ([c] ++ r))) from rfl, TL.spl_part1 h, TL.spl_part1 h2]
      have := spl_ne (c := c) r
      have := List.length_pos_iff.mpr this
      simp only [List.length_cons]
      omega
/-- the parts are no longer -/
theorem spl_small {c : Nat} : ∀ (n : Nat) (l : List Nat), l.length ≤ n → ∀ p ∈ TL.spl [c] 0 [] l, p.length ≤ l.length ∧ ∀ x ∈ p, x ∈ l
  | n, l, hn, p, hp => by
    rcases split1 c l with h | ⟨a, b, rfl, h⟩
    · rw [TL.spl_last1 h] at hp
      simp only [List.nil_append, List.mem_singleton] at hp
      subst hp
      exact ⟨Nat.le_refl _, fun _ m => m⟩
    · rw [show a ++ c :: b = a ++ ([c] ++ b) from rfl, TL.spl_part1 h] at hp
      rw [List.length_append, List.length_cons] at hn ⊢
      rcases List.mem_cons.mp hp with e | hp
      · rw [List.nil_append] at e
        subst e
        exact ⟨by omega, fun x m => List.mem_append_left _ m⟩
      · match n, hn with
        | n + 1, hn =>
        obtain ⟨h1, h2⟩ := spl_small n b (by omega) p hp
        exact ⟨by omega, fun x m => List.mem_append_right _ (List.mem_cons_of_mem _ (h2 x m))⟩
theorem spl_len (c : Nat) : ∀ (n : Nat) (l : List Nat), l.length ≤ n → (TL.spl [c] 0 [] l).length ≤ l.length + 1
  | n, l, hn => by
    rcases split1 c l with h | ⟨a, b, rfl, h⟩
    · rw [TL.spl_last1 h]; simp
    · rw [show a ++ c :: b = a ++ ([c] ++ b) from rfl, TL.spl_part1 h]
      rw [List.length_append, List.length_cons] at hn
      match n, hn with
      | n + 1, hn =>
      have := spl_len c n b (by omega)
      simp only [List.length_cons, List.length_append, List.length_nil] at this ⊢
      omega
theorem fr_none_more {p q r : List Nat} (hp : 47 ∉ p) : ∀ a b, Fr 8000 a b → SX.S (p ++ 47 :: (q ++ 47 :: r)) ≠ frS a b := fun a b f e => by
  obtain ⟨_, _, e2, _⟩ := frL_two f hp e
  exact absurd (by rw [← e2]; simp) (num_free (n := b.toNat) (s := 47) (.inl (by decide)))
theorem digits10 : (SX.S [48, 49, 50, 51, 52, 53, 54, 55, 56, 57] : Str) = "0123456789" := by decide +kernel
theorem in_digits (c : Nat) : (!(Builtin.Str.occurrences ("0123456789" : Str) ⟨#[c]⟩ 0 ("0123456789" : Str).length 1).isEmpty) = decide (48 ≤ c ∧ c ≤ 57) := by
  rw [occ_one, ← digits10]
  show decide (c ∈ [48, 49, 50, 51, 52, 53, 54, 55, 56, 57]) = _
  refine decide_eq_decide.mpr ⟨fun m => ?_, fun h => ?_⟩
  · simp only [List.mem_cons, List.not_mem_nil, or_false] at m
    omega
  · simp only [List.mem_cons, List.not_mem_nil, or_false]
    omega
/-- the signs of a text that are no digits -/
theorem comp_digits {fr : T → Fm} {S : Store} {R : List T → Store → Prop} (hfr : ∀ t, (fr t)[3]? = some (some t)) : ∀ (m : List Nat) (acc : List T), acc.length + m.length ≤ sizeLine →
    R (acc ++ (m.filter fun c => !decide (48 ≤ c ∧ c ≤ 57)).map fun c => T.str ⟨#[c]⟩) S → rComp fr (rTest (rBin (kInS true) (rVar 3) (rC (T.str (Str.ofString "0123456789"))))) (rVar 3) (m.map fun c => T.str ⟨#[c]⟩) acc S R
  | [], acc, _, q => by simpa [rComp] using q
  | c :: m, acc, hl, q => by
    rw [List.length_cons] at hl
    simp only [List.map_cons, rComp, rTest, rBin, rVar, rC, kInS, hfr]
    refine ⟨_, rfl, ⟨#[c]⟩, _, rfl, rfl, _, rfl, ?_⟩
    rw [in_digits]
    by_cases d : 48 ≤ c ∧ c ≤ 57
    · rw [decide_eq_true d, if_neg (by decide)]
      refine comp_digits hfr m acc (by omega) ?_
      rw [List.filter_cons_of_neg (by rw [decide_eq_true d]; decide)] at q
      exact q
    · rw [decide_eq_false d, if_pos (by decide)]
      refine ⟨_, rfl, by omega, comp_digits hfr m _ (by rw [List.length_append, List.length_singleton]; omega) ?_⟩
      rw [List.filter_cons_of_pos (by rw [decide_eq_false d]; rfl)] at q
      rw [List.append_assoc]
      exact q
theorem dat_strs : ∀ m : List Nat, T.datL (m.map fun c => T.str ⟨#[c]⟩) = some (m.map fun c => PyData.str ⟨#[c]⟩)
  | [] => by rw [List.map_nil, T.datL]; rfl
  | c :: m => by rw [List.map_cons, T.datL, T.dat, dat_strs m]; rfl
theorem eqv_nil (m : List Nat) : PyData.eqv (.list (m.map fun c => PyData.str ⟨#[c]⟩)) (.list []) = decide (m = []) := by
  cases m with
  | nil => simp [PyData.eqv, PyData.eqvAll]
  | cons c m => simp [PyData.eqv, PyData.eqvAll]
theorem dp_strs : ∀ m : List Nat, PyData.depthAll (m.map fun c => PyData.str ⟨#[c]⟩) ≤ 1
  | [] => by simp [PyData.depthAll]
  | c :: m => by
    have := dp_strs m
    simp only [List.map_cons, PyData.depthAll, PyData.depth]
    omega
/-- one part of a text is looked at -/
theorem part_chk {l : List Nat} {S : Store} {R : T → Store → Prop} {RE : XT} {fr : T → Fm} {GO : Store → Prop} (hfr : ∀ t, (fr t)[3]? = some (some t)) (hl : l.length ≤ 2400) (k1 : Canon l → GO S) (k2 : ¬ Canon l → R .non S) :
    kEqG false (.str (SX.S l)) (.str (Str.ofString "")) S (fun x S1 => ∃ c, x = T.bl c ∧ if c = true then R T.non S1 else
      (SX.S l).length ≤ sizeLine ∧ ∃ c, atI l 0 = some c ∧ kEqG false (T.str { cps := #[c] }) (T.str (Str.ofString "0")) S1 (fun x S1 => ∃ c, x = T.bl c ∧ if c = true then R T.non S1 else
        rComp fr (rTest (rBin (kInS true) (rVar 3) (rC (T.str (Str.ofString "0123456789"))))) (rVar 3) (signsT (SX.S l)) [] S1 fun ys S2 => 0 ≤ sizeLine ∧ kEqP true (T.lst ys) (T.lst []) S2 (fun x S1 => ∃ c, x = T.bl c ∧ if c = true then R T.non S1 else GO S1) RE) RE) RE := by
  cases l with
  | nil =>
    refine eqSt0 (v := true) (by decide +kernel) ⟨_, rfl, ?_⟩
    rw [if_pos rfl]
    exact k2 fun c => c.ne rfl
  | cons c r =>
    have e0 : ¬ SX.S (c :: r) = Str.ofString "" := fun e => by
      have : SX.S (c :: r) = SX.S [] := e.trans (by decide +kernel)
      exact absurd (SX.S_inj this) (by simp)
    refine eqSt0 (v := false) (by rw [decide_eq_false e0]; rfl) ⟨_, rfl, ?_⟩
    rw [if_neg (by decide)]
    refine ⟨by rw [SX.S_len, sizeLine_eq]; omega, c, at_0, ?_⟩
    have e1 : (({ cps := #[c] } : Str) = Str.ofString "0") ↔ c = 48 := by
      rw [show Str.ofString "0" = SX.S [48] by decide +kernel, show ({ cps := #[c] } : Str) = SX.S [c] from rfl]
      exact ⟨fun e => by simpa using SX.S_inj e, fun e => by rw [e]⟩
    by_cases h48 : c = 48
    · refine eqSt0 (v := true) (by rw [decide_eq_true (e1.mpr h48)]; rfl) ⟨_, rfl, ?_⟩
      rw [if_pos rfl]
      exact k2 fun k => k.hd (by simp [h48])
    · refine eqSt0 (v := false) (by rw [decide_eq_false fun e => h48 (e1.mp e)]; rfl) ⟨_, rfl, ?_⟩
      rw [if_neg (by decide)]
      refine comp_digits hfr (c :: r) [] (by rw [List.length_nil, sizeLine_eq]; omega) ?_
      rw [List.nil_append]
      refine ⟨Nat.zero_le _, _, _, by rw [T.dat, dat_strs]; rfl, by rw [T.dat, T.datL]; rfl, ?_, _, rfl, ?_⟩
      · have := dp_strs ((c :: r).filter fun c => !decide (48 ≤ c ∧ c ≤ 57))
        simp only [PyData.depth]
        omega
      · rw [eqv_nil]
        by_cases hf : (c :: r).filter (fun c => !decide (48 ≤ c ∧ c ≤ 57)) = []
        · rw [decide_eq_true hf, if_neg (by decide)]
          refine k1 ⟨by simp, by simpa using h48, fun x m => ?_⟩
          have := List.filter_eq_nil_iff.mp hf x m
          simpa using this
        · rw [decide_eq_false hf, if_pos (by decide)]
          refine k2 fun k => hf (List.filter_eq_nil_iff.mpr fun x m => ?_)
          have := k.dig x m
          simpa using this
theorem sc_l_read : FnScope ["_law_text_here", "_law_parts", "_law_part_here", "_law_sign", "_law_found"] ["_law_text_here"] (defScope s_l_read) := ⟨rfl, rfl, rfl, by decide +kernel, rfl, by decide +kernel, by decide +kernel⟩
def sp_l_read (K : PySem.W.Frag) : SpT := fun ts S R _ => match ts with
  | [.str z] => z.length ≤ 2400 ∧ FindR z R S
  | _ => False
set_option maxHeartbeats 3200000 in
theorem ok_l_read {P : Program} {w : World} {K : PySem.W.Frag} {mg : Str → Option Value} {base : Heap} {f : Addr} {fd : FuncData} {g_l_low : Addr} {gd_l_low : FuncData} (F : Fun K "_law_read" "_law_read" s_l_read f fd)
    (n_int : mg "int" = none)
    (n_len : mg "len" = none)
    (G_l_low : FnT P w K mg base 1 g_l_low gd_l_low ["_law_high_part", "_law_low_part"] sp_l_low)
    (m_l_low : mg "_law_low" = some (.ref g_l_low))
    (k_l_low : PySem.W.keepIn K (.ref g_l_low) = true)
    (b_l_low : Binds K gd_l_low ["_law_high_part", "_law_low_part"] [])
    (ND : base.NoDigits)
    : FnT P w K mg base 2 f fd ["_law_text_here"] (sp_l_read K) := by
  refine okT F sc_l_read (by intro ts S R RE h; unfold sp_l_read at h; split at h <;> first | rfl | exact h.elim) (fun cdv A out s H E hg hr => (bs_cons (ss_set (i := 1) sc_l_read.nd rfl (by first | exact Or.inl rfl | exact Or.inr rfl) (et_split (et_var (pv 0)) et_str))
    (bs_cons (ss_if (tt_cmp op_gt cv_B2n (et_blt call_len cv_len (by rfl) n_len PySem.boot_len (at_cons (et_var (pv 1)) at_nil)) et_int (nomark _)) (bs_one (ss_ret et_non)) bs_nil)
    (bs_cons (ss_for (passes_of rfl) rfl (it_seq (et_var (pv 1))) (gt_name (pg_name (i := 2) sc_l_read.nd rfl (by first | exact Or.inl rfl | exact Or.inr rfl))) (bs_one (ss_if (tt_w (tw_or (tt_cmp (op_eqG hr.units) cv_eq (et_var (pv 2)) et_str (nomark _)) (tw_or (tt_cmp (op_eqG hr.units) cv_eq (et_ix ix_seq cv_ix (et_var (pv 2)) et_int (fun _ _ => rfl)) et_str (nomark _)) (tw_or1 (tt_cmp (op_neP hr.units) cv_eqP (et_lc (x := "_law_sign") (j := 3) (by rfl) sc_l_read.nd (it_str (et_var (pv 2))) (blkOk_by (own := [("_law_sign", 3)]) (N := ["_law_text_here", "_law_parts", "_law_part_here", "_law_sign", "_law_found"]) (sc := defScope s_l_read) (by decide +kernel)) (fun _ _ _ _ _ => pg_name (i := 3) sc_l_read.nd rfl (by first | exact Or.inl rfl | exact Or.inr rfl)) (fun _ _ _ _ _ => (tts_one (tt_cmp op_notin_str cv_ninS (et_var (pv 3)) et_str (by rfl)))) (fun _ _ _ _ _ => (et_var (pv 3)))) (et_lst at_nil) (nomark _)))))) (bs_one (ss_ret et_non)) bs_nil)))
    (bs_cons (ss_if (tt_cmp (op_eqG hr.units) cv_eq (et_blt call_len cv_len (by rfl) n_len PySem.boot_len (at_cons (et_var (pv 1)) at_nil)) et_int (nomark _)) (bs_one (ss_ret (et_tup (at_cons (et_typ (call_int_strB ND) cv_intB (by rfl) n_int PyProof.Rows.boot_int (at_cons (et_ix ix_seq cv_ix (et_var (pv 1)) et_int (fun _ _ => rfl)) at_nil)) (at_cons et_int at_nil))))) bs_nil)
    (bs_cons (ss_set (i := 4) sc_l_read.nd rfl (by first | exact Or.inl rfl | exact Or.inr rfl) (et_tup (at_cons (et_typ (call_int_strB ND) cv_intB (by rfl) n_int PyProof.Rows.boot_int (at_cons (et_ix ix_seq cv_ix (et_var (pv 1)) et_int (fun _ _ => rfl)) at_nil)) (at_cons (et_typ (call_int_strB ND) cv_intB (by rfl) n_int PyProof.Rows.boot_int (at_cons (et_ix ix_seq cv_ix (et_var (pv 1)) et_int (fun _ _ => rfl)) at_nil)) at_nil))))
    (bs_one (ss_ret (et_if (tt_w (tw_and (tt_cmp op_gt cv_B2n (et_ix ix_seq cv_ix (et_var (pv 4)) et_int (fun _ _ => rfl)) et_int (nomark _)) (tw_and1 (tt_cmp (op_eqG hr.units) cv_eq (et_callD G_l_low hg (hr.mono (by decide)) (by rfl) m_l_low k_l_low (CallD.all b_l_low) (passL2N (L2N.takes_of rfl rfl rfl rfl)) (at_cons (et_ix ix_seq cv_ix (et_var (pv 4)) et_int (fun _ _ => rfl)) (at_cons (et_ix ix_seq cv_ix (et_var (pv 4)) et_int (fun _ _ => rfl)) at_nil))) (et_var (pv 4)) (nomark _))))) (et_var (pv 4)) et_non))))))))) ?_
  intro ts S R RE h
  unfold sp_l_read at h
  split at h
  · rename_i z
    obtain ⟨hz, q⟩ := h
    have ez : z = SX.S z.cps.toList := (SX.S_tl z).symm
    generalize hl : z.cps.toList = l at ez
    subst ez
    rw [SX.S_len] at hz
    refine sSeq_i fun N hN => ?_
    simp only [sAsg, rVar, rC, gNameT, rSplit, startT, T.str.injEq, Option.some.injEq, List.map_cons, List.map_nil, List.length_cons, List.length_nil, List.cons_append, List.nil_append, List.getElem?_cons_zero, List.set_cons_zero, List.set_cons_succ, List.replicate_succ, List.replicate_zero, exists_eq_left', Nat.reduceAdd, Nat.reduceSub, Nat.zero_add]
    refine ⟨by decide, by rw [SX.S_len, sizeLine_eq]; omega, ?_⟩
    rw [slash_S, SX.split_S (by simp) (by decide), List.map_map]
    refine hN _ _ ?_
    clear hN
    rcases split_cases 47 l with ⟨no, e⟩ | ⟨p, r, rfl, np, nr, e⟩ | ⟨e, p, r, s, rfl, np, nr⟩
    · rw [e]
      refine sSeq_i fun N hN => ?_
      simp only [sRet, sIf, sNext, rVar, rC, rBin, rTest, aNil, aCons, rArgs, kI2n, kLen, lenT, T.bl.injEq, List.cons.injEq, Option.some.injEq, List.map_cons, List.map_nil, List.length_cons, List.length_nil, List.getElem?_cons_zero, List.getElem?_cons_succ, exists_eq_left', exists_and_left, and_true, Nat.zero_add]
      rw [if_neg (by decide)]
      refine hN _ _ ?_
      clear hN
      refine sSeq_i fun N hN => ?_
      simp only [rLoop, Function.comp, rTest, bOr, iStrT, sRet, sIf, sNext, sFor, rVar, rC, rBin, rTest, bOr, aNil, rLst, gNameT, iSeq, rLc, kIx, seqOf, T.str.injEq, Option.some.injEq, List.length_nil, List.getElem?_cons_zero, List.getElem?_cons_succ, List.set_cons_zero, List.set_cons_succ, exists_eq_left', exists_and_left, reduceIte]
      refine part_chk (fun _ => rfl) hz (fun cn => ?_) fun nc => ?_
      rotate_left
      · rcases q with ⟨a, b, f, e, _⟩ | ⟨_, q⟩
        · exact absurd (frL_one f no e).2.2 nc
        · exact q
      refine hN _ _ ?_
      clear hN
      refine sSeq_i fun N hN => ?_
      simp only [kIntB, sRet, sIf, sNext, rVar, rC, rBin, rTest, aNil, aCons, rTup, rArgs, kIx, kLen, lenT, T.str.injEq, List.cons.injEq, Option.some.injEq, List.length_cons, List.length_nil, List.getElem?_cons_zero, List.getElem?_cons_succ, exists_eq_left', exists_and_left, and_true, Nat.reduceAdd, Nat.zero_add, at_0]
      obtain ⟨eb, pb⟩ := canon_back cn
      have ef : SX.S l = frS (digitsVal l : Nat) 1 := by
        rw [frS_1, nS_S (by omega), Int.toNat_natCast, eb]
      have fr : Fr 8000 ((digitsVal l : Nat) : Int) 1 := Fr.of ⟨by omega, by simpa using val_bits cn.dig hz⟩
      refine eqI0 ⟨true, rfl, ?_⟩
      rw [if_pos rfl]
      refine ⟨_, int_dig ⟨cn.ne, cn.dig⟩ (by omega), by rw [SX.S_len]; omega, by decide, ?_⟩
      rcases q with ⟨a, b, f, e, q⟩ | ⟨no2, _⟩
      · obtain ⟨rfl, rfl⟩ := frS_inj fr f (ef.symm.trans e)
        exact q
      · exact absurd ef (no2 _ _ fr)
    · rw [e]
      rw [List.length_append, List.length_cons] at hz
      refine sSeq_i fun N hN => ?_
      simp only [sRet, sIf, sNext, rVar, rC, rBin, rTest, aNil, aCons, rArgs, kI2n, kLen, lenT, T.bl.injEq, List.cons.injEq, Option.some.injEq, List.map_cons, List.map_nil, List.length_cons, List.length_nil, List.getElem?_cons_zero, List.getElem?_cons_succ, exists_eq_left', exists_and_left, and_true, Nat.reduceAdd, Nat.zero_add]
      rw [if_neg (by decide)]
      refine hN _ _ ?_
      clear hN
      have bad : (¬ Canon p ∨ ¬ Canon r) → R .non S := fun nc => by
        rcases q with ⟨a, b, f, e, _⟩ | ⟨_, q⟩
        · obtain ⟨_, _, _, c1, c2⟩ := frL_two f np e
          rcases nc with nc | nc
          · exact absurd c1 nc
          · exact absurd c2 nc
        · exact q
      refine sSeq_i fun N hN => ?_
      simp only [rLoop, Function.comp, rTest, bOr, iStrT, sRet, sIf, sNext, sFor, rVar, rC, rBin, rTest, bOr, aNil, rLst, gNameT, iSeq, rLc, kIx, seqOf, T.str.injEq, Option.some.injEq, List.length_nil, List.getElem?_cons_zero, List.getElem?_cons_succ, List.set_cons_zero, List.set_cons_succ, exists_eq_left', exists_and_left, reduceIte]
      refine part_chk (fun _ => rfl) (by omega) (fun cp => ?_) fun nc => bad (.inl nc)
      refine part_chk (fun _ => rfl) (by omega) (fun cr => ?_) fun nc => bad (.inr nc)
      refine hN _ _ ?_
      clear hN
      obtain ⟨ep, pp⟩ := canon_back cp
      obtain ⟨er, pr⟩ := canon_back cr
      have vp := val_bits cp.dig (by omega)
      have vr := val_bits cr.dig (by omega)
      refine sSeq_i fun N hN => ?_
      simp only [kIntB, sRet, sIf, sNext, rVar, rC, rBin, rTest, aNil, aCons, rTup, rArgs, kIx, kLen, lenT, T.str.injEq, List.cons.injEq, Option.some.injEq, List.length_cons, List.length_nil, List.getElem?_cons_zero, List.getElem?_cons_succ, exists_eq_left', exists_and_left, and_true, Nat.reduceAdd, Nat.zero_add, at_0]
      refine eqI0 ⟨false, rfl, ?_⟩
      rw [if_neg (by decide)]
      refine hN _ _ ?_
      clear hN
      refine sSeq_i fun N hN => ?_
      simp only [kIntB, sAsg, rVar, rC, rBin, aNil, aCons, rTup, rArgs, gNameT, kIx, T.str.injEq, List.cons.injEq, Option.some.injEq, List.length_cons, List.length_nil, List.getElem?_cons_zero, List.getElem?_cons_succ, List.set_cons_zero, List.set_cons_succ, exists_eq_left', exists_and_left, and_true, Nat.reduceAdd, Nat.zero_add, at_0, at_1]
      refine ⟨_, int_dig ⟨cp.ne, cp.dig⟩ (by omega), by rw [SX.S_len]; omega, _, int_dig ⟨cr.ne, cr.dig⟩ (by omega), by rw [SX.S_len]; omega, by decide, hN _ _ ?_⟩
      clear hN
      simp only [sp_l_low, frT, sRet, rVar, rC, rBin, rTest, bAnd, rIf, aNil, aCons, rCall, kI2n, kIx, T.bl.injEq, Option.some.injEq, List.append_nil, List.getElem?_cons_zero, List.getElem?_cons_succ, exists_eq_left', exists_and_left, reduceIte, Bool.false_eq_true, at_0, at_1]
      have un : ∀ a b, Fr 8000 a b → SX.S (p ++ 47 :: r) = frS a b → b ≠ 1 ∧ a = (digitsVal p : Nat) ∧ b = (digitsVal r : Nat) := fun a b f e => by
        obtain ⟨b1, e1, e2, _⟩ := frL_two f np e
        have ha := f.a.pos
        have hb := f.b.pos
        refine ⟨b1, ?_, ?_⟩
        · rw [e1, numL_val]; omega
        · rw [e2, numL_val]; omega
      have bad2 : (¬ 1 < digitsVal r ∨ gcdI (digitsVal p : Nat) (digitsVal r : Nat) ≠ 1) → R .non S := fun nc => by
        rcases q with ⟨a, b, f, e, _⟩ | ⟨_, q⟩
        · obtain ⟨b1, rfl, rfl⟩ := un a b f e
          have hb := f.b.pos
          rcases nc with nc | nc
          · omega
          · exact absurd f.g nc
        · exact q
      refine ite_d (fun c1 => ?_) fun c1 => ?_
      · refine ⟨⟨by omega, by simpa using vp⟩, by omega, eq_fr ?_⟩
        rw [Bool.false_xor, lw_same (by omega) (by omega)]
        refine ⟨_, rfl, ?_⟩
        by_cases g : gcdI (digitsVal p : Nat) (digitsVal r : Nat) = 1
        · rw [decide_eq_true g, if_pos rfl]
          have fr : Fr 8000 ((digitsVal p : Nat) : Int) ((digitsVal r : Nat) : Int) := ⟨⟨by omega, by simpa using vp⟩, ⟨by omega, by simpa using vr⟩, g⟩
          have ef : SX.S (p ++ 47 :: r) = frS (digitsVal p : Nat) (digitsVal r : Nat) := by
            rw [frS_S (by omega) (by omega)]
            unfold frL
            rw [if_neg (by omega), Int.toNat_natCast, Int.toNat_natCast, ep, er]
          rcases q with ⟨a, b, f, e, q⟩ | ⟨no2, _⟩
          · obtain ⟨_, rfl, rfl⟩ := un a b f e
            exact q
          · exact absurd ef (no2 _ _ fr)
        · rw [decide_eq_false g, if_neg (by decide)]
          exact bad2 (.inr g)
      · exact bad2 (.inl (by omega))
    · have q : R .non S := by
        rcases q with ⟨a, b, f, e, _⟩ | ⟨_, q⟩
        · exact absurd e (fr_none_more np a b f)
        · exact q
      refine sSeq_i fun N hN => ?_
      simp only [sRet, sIf, sNext, rVar, rC, rBin, rTest, aNil, aCons, rArgs, kI2n, kLen, lenT, T.bl.injEq, List.cons.injEq, Option.some.injEq, List.getElem?_cons_zero, List.getElem?_cons_succ, exists_eq_left', exists_and_left, and_true]
      rw [if_pos (by rw [List.length_map, decide_eq_true_eq]; omega)]
      exact q
  · exact h.elim
open TL (numL numL_val)
/-- what _law_read says of a part -/
def RdF (t y : T) : Prop := ∃ p : List Nat, t = .str (SX.S p) ∧ ((∃ a b, Fr 8000 a b ∧ SX.S p = frS a b ∧ y = frT a b) ∨ ((∀ a b, Fr 8000 a b → SX.S p ≠ frS a b) ∧ y = .non))
theorem findR_of {p : List Nat} {R : T → Store → Prop} {S : Store} (h : ∀ y, RdF (.str (SX.S p)) y → R y S) : FindR (SX.S p) R S := by
  by_cases w : ∃ a b, Fr 8000 a b ∧ SX.S p = frS a b
  · obtain ⟨a, b, f, e⟩ := w
    exact .inl ⟨a, b, f, e, h _ ⟨p, rfl, .inl ⟨a, b, f, e, rfl⟩⟩⟩
  · exact .inr ⟨fun a b f e => w ⟨a, b, f, e⟩, h _ ⟨p, rfl, .inr ⟨fun a b f e => w ⟨a, b, f, e⟩, rfl⟩⟩⟩
theorem sc_l_two : FnScope ["_law_said", "_law_parts", "_law_part_here"] ["_law_said"] (defScope s_l_two) := ⟨rfl, rfl, rfl, by decide +kernel, rfl, by decide +kernel, by decide +kernel⟩
def sp_l_two (K : PySem.W.Frag) : SpT := fun ts S R _ => match ts with
  | [.str z] => z.length ≤ 2400 ∧ ((∃ s : S4, s.ok 8000 ∧ z = s.str ∧ R (d4T s) S) ∨ ((∀ s : S4, s.ok 8000 → z ≠ s.str) ∧ R .non S))
  | _ => False
theorem ok_l_two {P : Program} {w : World} {K : PySem.W.Frag} {mg : Str → Option Value} {base : Heap} {f : Addr} {fd : FuncData} {g_l_read : Addr} {gd_l_read : FuncData} (F : Fun K "_law_two" "_law_two" s_l_two f fd)
    (n_len : mg "len" = none)
    (n_tuple : mg "tuple" = none)
    (G_l_read : FnT P w K mg base 2 g_l_read gd_l_read ["_law_text_here"] (sp_l_read K))
    (m_l_read : mg "_law_read" = some (.ref g_l_read))
    (k_l_read : PySem.W.keepIn K (.ref g_l_read) = true)
    (b_l_read : Binds K gd_l_read ["_law_text_here"] [])
    : FnT P w K mg base 3 f fd ["_law_said"] (sp_l_two K) := by
  refine okT F sc_l_two (by intro ts S R RE h; unfold sp_l_two at h; split at h <;> first | rfl | exact h.elim) (fun cdv A out s H E hg hr => (bs_cons (ss_setLc (i := 1) (x := "_law_part_here") (j := 2) (by rfl) sc_l_two.nd rfl rfl (sw_true rfl rfl rfl (by decide +kernel)) (it_seq (et_split (et_var (pv 0)) et_str)) (blkOk_by (own := [("_law_part_here", 2)]) (N := ["_law_said", "_law_parts", "_law_part_here"]) (sc := defScope s_l_two) (by decide +kernel)) (fun _ _ _ _ _ => pg_name (i := 2) sc_l_two.nd rfl (by first | exact Or.inl rfl | exact Or.inr rfl)) (fun _ _ _ _ _ => tts_nil) (fun _ _ _ _ _ => (et_callD G_l_read hg (hr.mono (by decide)) (by rfl) m_l_read k_l_read (CallD.all b_l_read) passN (at_cons (et_var (pv 2)) at_nil))))
    (bs_one (ss_ret (et_if (tt_w (tw_or (tt_cmp (op_neG hr.units) cv_ne (et_blt call_len cv_len (by rfl) n_len PySem.boot_len (at_cons (et_var (pv 1)) at_nil)) et_int (nomark _)) (tw_or1 (tt_cmp (op_inP (Nat.lt_of_le_of_lt (Nat.add_le_add_left (by decide : 65 ≤ 70) _) (roomR hr))) cv_inP et_non (et_var (pv 1)) (by rfl))))) et_non (et_typ call_tuple_of cv_tuple (by rfl) n_tuple PyProof.Rows.boot_tuple (at_cons (et_var (pv 1)) at_nil))))))) ?_
  intro ts S R RE h
  unfold sp_l_two at h
  split at h
  · rename_i z
    obtain ⟨hz, q⟩ := h
    have ez : z = SX.S z.cps.toList := (SX.S_tl z).symm
    generalize hl : z.cps.toList = l at ez
    subst ez
    rw [SX.S_len] at hz
    refine sSeq_i fun N hN => ?_
    simp only [sAsg, rVar, rC, gNameT, iSeq, rLc, rSplit, seqOf, startT, T.str.injEq, Option.some.injEq, List.map_cons, List.map_nil, List.length_cons, List.length_nil, List.cons_append, List.nil_append, List.getElem?_cons_zero, List.set_cons_zero, List.set_cons_succ, List.replicate_succ, List.replicate_zero, exists_eq_left', Nat.reduceAdd, Nat.reduceSub, Nat.zero_add]
    refine ⟨by decide, by rw [SX.S_len, sizeLine_eq]; omega, ?_⟩
    rw [ex_S, SX.split_S (by simp) (by decide), List.map_map]
    refine rComp_all (fun _ S2 => S2 = S) (fun _ t y => RdF t y) rfl ?_ ?_ ?_
    · have := spl_len 120 l.length l (Nat.le_refl _)
      rw [List.length_map, sizeLine_eq]
      omega
    · rintro i t S2 hi rfl N2 hN2
      rw [List.getElem?_map] at hi
      obtain ⟨p, hp, rfl⟩ := Option.map_eq_some_iff.mp hi
      obtain ⟨h1, _⟩ := spl_small l.length l (Nat.le_refl _) p (List.mem_of_getElem? hp)
      simp only [sp_l_read, Function.comp, rVar, aNil, aCons, rCall, Option.some.injEq, List.append_nil, List.getElem?_cons_zero, List.getElem?_cons_succ, exists_eq_left']
      exact ⟨by rw [SX.S_len]; omega, findR_of fun y hy => hN2 _ _ hy rfl⟩
    rintro ys S2 hly hF rfl
    refine hN _ _ ?_
    clear hN
    rw [List.length_map] at hly
    have rd : ∀ (i : Nat) p, (TL.spl [120] 0 [] l)[i]? = some p → ∀ y, ys[i]? = some y → (∃ a b, Fr 8000 a b ∧ SX.S p = frS a b ∧ y = frT a b) ∨ ((∀ a b, Fr 8000 a b → SX.S p ≠ frS a b) ∧ y = .non) := fun i p hp y hy => by
      obtain ⟨p', e, h⟩ := hF i (.str (SX.S p)) y (by rw [List.getElem?_map, hp]; rfl) hy
      have e := SX.S_inj (T.str.inj e)
      subst e
      exact h
    rcases split_cases 120 l with ⟨no, e⟩ | ⟨p, r, rfl, np, nr, e⟩ | ⟨e, p, r, s, rfl, np, nr⟩
    · have q : R .non S2 := by
        rcases q with ⟨s, o, e, _⟩ | ⟨_, q⟩
        · exact absurd (sz_has o e) no
        · exact q
      rw [e] at hly
      have e2 : decide ((ys.length : Int) = 2) = false := decide_eq_false (by rw [hly]; simp)
      simp only [sRet, rVar, rC, rBin, rTest, bOr, rIf, aNil, aCons, rArgs, kLen, kTuple, lenT, T.lst.injEq, List.cons.injEq, Option.some.injEq, List.getElem?_cons_zero, List.getElem?_cons_succ, exists_eq_left', exists_and_left, and_true, reduceIte]
      refine eqI1 ⟨_, rfl, ?_⟩
      rw [e2, if_pos (by decide)]
      exact q
    · rw [e] at hly rd
      match ys, hly with
      | [y1, y2], _ =>
      have r1 := rd 0 p rfl y1 rfl
      have r2 := rd 1 r rfl y2 rfl
      simp only [sRet, rVar, rC, rBin, rTest, bOr, rIf, aNil, aCons, rArgs, kLen, kTuple, lenT, T.lst.injEq, List.cons.injEq, Option.some.injEq, List.length_cons, List.length_nil, List.getElem?_cons_zero, List.getElem?_cons_succ, exists_eq_left', exists_and_left, and_true, Nat.reduceAdd, Nat.zero_add, reduceIte]
      refine eqI1 ⟨_, rfl, ?_⟩
      rw [if_neg (by decide)]
      rcases r1 with ⟨a, b, f, e1, rfl⟩ | ⟨no, rfl⟩
      · rcases r2 with ⟨c, d, g, e2, rfl⟩ | ⟨no, rfl⟩
        · refine ⟨.none, _, by rw [T.dat], .inr (by rw [T.dat, T.datL, T.datL, T.datL, fr_dat, fr_dat]; rfl), by simp [PyData.depth], _, rfl, ?_⟩
          rw [if_neg (by simp [PyData.eqv])]
          have ej : SX.S (p ++ 120 :: r) = szS a b c d := sz_join e1 e2
          refine ⟨_, .inl rfl, ?_⟩
          rcases q with ⟨s, o, e, q⟩ | ⟨no, _⟩
          · obtain ⟨h1, h2⟩ := sz_parts np o e
            have u1 := frS_inj f o.w (e1.symm.trans h1)
            have u2 := frS_inj g o.h (e2.symm.trans h2)
            obtain ⟨sa, sb, sc, sd⟩ := s
            obtain ⟨rfl, rfl⟩ := u1
            obtain ⟨rfl, rfl⟩ := u2
            exact q
          · exact absurd ej (no ⟨a, b, c, d⟩ ⟨f, g⟩)
        · have q : R .non S2 := by
            rcases q with ⟨s, o, e, _⟩ | ⟨_, q⟩
            · exact absurd (sz_parts np o e).2 (no _ _ o.h)
            · exact q
          refine ⟨.none, _, by rw [T.dat], .inr (by rw [T.dat, T.datL, T.datL, T.datL, fr_dat, T.dat]; rfl), by simp [PyData.depth], _, rfl, ?_⟩
          rw [if_pos (by simp [PyData.eqv])]
          exact q
      · have q : R .non S2 := by
          rcases q with ⟨s, o, e, _⟩ | ⟨_, q⟩
          · exact absurd (sz_parts np o e).1 (no _ _ o.w)
          · exact q
        have w : ∃ d2, y2.dat = some d2 := by
          rcases r2 with ⟨c, d, g, e2, rfl⟩ | ⟨no, rfl⟩
          · exact ⟨_, fr_dat⟩
          · exact ⟨_, by rw [T.dat]⟩
        obtain ⟨d2, hd2⟩ := w
        refine ⟨.none, _, by rw [T.dat], .inr (by rw [T.dat, T.datL, T.datL, T.datL, hd2, T.dat]; rfl), by simp [PyData.depth], _, rfl, ?_⟩
        rw [if_pos (by simp [PyData.eqv])]
        exact q
    · have q : R .non S2 := by
        rcases q with ⟨sz, o, e, _⟩ | ⟨_, q⟩
        · have h2 := (sz_parts np o e).2
          have hc := o.h.a.pos
          have hd := o.h.b.pos
          rw [frS_S (by omega) (by omega)] at h2
          exact absurd (by rw [← SX.S_inj h2]; simp) (frL_free (a := sz.c) (b := sz.d) (s := 120) (.inr (by decide)))
        · exact q
      have e2 : decide ((ys.length : Int) = 2) = false := decide_eq_false (by omega)
      simp only [sRet, rVar, rC, rBin, rTest, bOr, rIf, aNil, aCons, rArgs, kLen, kTuple, lenT, T.lst.injEq, List.cons.injEq, Option.some.injEq, List.getElem?_cons_zero, List.getElem?_cons_succ, exists_eq_left', exists_and_left, and_true, reduceIte]
      refine eqI1 ⟨_, rfl, ?_⟩
      rw [e2, if_pos (by decide)]
      exact q
  · exact h.elim
/-- data with integers of many digits: short enough -/
structure SB (k n : Nat) (d : PyData) : Prop where
  sh : showB d
  dp : d.depth ≤ k
  ln : d.shown.length ≤ n
structure SBA (k n : Nat) (ds : List PyData) : Prop where
  sh : showBAll ds
  dp : PyData.depthAll ds ≤ k
  ln : ((PyData.shownAll ds).map (·.length)).sum + 2 * ds.length ≤ n
theorem SB.up {j k n m : Nat} {d : PyData} (h : SB j n d) (le2 : j ≤ k) (le : n ≤ m) : SB k m d := ⟨h.sh, Nat.le_trans h.dp le2, Nat.le_trans h.ln le⟩
theorem SBA.nil {k : Nat} : SBA k 0 [] := ⟨by simp only [showBAll], by simp only [PyData.depthAll]; omega, by rw [PyData.shownAll_nil]; exact Nat.le_refl _⟩
theorem SBA.cons {k n m : Nat} {d : PyData} {ds : List PyData} (h : SB k n d) (t : SBA k m ds) : SBA k (n + m + 2) (d :: ds) := by
  refine ⟨by simp only [showBAll]; exact ⟨h.sh, t.sh⟩, ?_, ?_⟩
  · have h1 := h.dp
    have h2 := t.dp
    simp only [PyData.depthAll]
    omega
  · have h1 := h.ln
    have h2 := t.ln
    rw [PyData.shownAll_cons]
    simp only [List.map_cons, List.sum_cons, List.length_cons]
    omega
theorem SB.lst {k n : Nat} {ds : List PyData} (h : SBA k n ds) : SB (k + 1) (n + 3) (.list ds) := by
  refine ⟨by simp only [showB]; exact h.sh, ?_, ?_⟩
  · have := h.dp
    simp only [PyData.depth]
    omega
  · have h1 := h.ln
    have h2 := listText_len_le (PyData.shownAll ds)
    rw [PyData.shownAll_length] at h2
    simp only [PyData.shown]
    omega
theorem SB.tup {k n : Nat} {ds : List PyData} (h : SBA k n ds) : SB (k + 1) (n + 3) (.tuple ds) := by
  refine ⟨by simp only [showB]; exact h.sh, ?_, ?_⟩
  · have := h.dp
    simp only [PyData.depth]
    omega
  · have h1 := h.ln
    have h2 := tupleText_len_le (PyData.shownAll ds)
    rw [PyData.shownAll_length] at h2
    simp only [PyData.shown]
    omega
theorem SB.int {a : Int} (h : Pn 8000 a) : SB 1 2409 (.int a) := ⟨by simp only [showB]; exact big14 h (by decide), by simp only [PyData.depth]; omega, by rw [PyData.shown_int]; exact nS_len h⟩
theorem SB.str {x : Str} {n : Nat} (h : (reprText x).length ≤ n) : SB 1 n (.str x) := ⟨by simp only [showB], by simp only [PyData.depth]; omega, by rw [PyData.shown_str]; exact h⟩
theorem SB.fr {a b : Int} (f : Fr 8000 a b) : SB 2 4825 (.tuple [.int a, .int b]) := (SB.tup (SBA.cons (SB.int f.a) (SBA.cons (SB.int f.b) SBA.nil))).up (by decide) (by decide)
theorem SB.q {k n : Nat} {d : PyData} (h : SB k n d) (hk : k ≤ 64) (hn : n ≤ 16777216) : SqB d := ⟨h.sh, Nat.le_trans h.dp hk, Nat.le_trans h.ln hn⟩
theorem fr_datD {a b : Int} : (frT a b).datD = some (.tuple [.int a, .int b]) := by simp [frT, T.datD, T.datDL]
/-- a value that is to be read -/
inductive SaidV (K : PySem.W.Frag) (C : Addr) : T → Prop
  | str {z : Str} (l : z.length ≤ 2400) (s : ∀ c ∈ z.cps.toList, c < 16 ^ 8) : SaidV K C (.str z)
  | dat {x : T} {d : PyData} (e : x.datD = some d) (s : Sq 64 16777216 d) (v : ∀ S, ValT K S x) (n : isK x "str" = false) : SaidV K C x
  | sz (s : S4) (o : s.ok 1900) (v : ∀ S, ValT K S (s.t C)) : SaidV K C (s.t C)
/-- what repr shows of it -/
theorem SaidV.repr {K : PySem.W.Frag} {C : Addr} {x : T} (h : SaidV K C x) : ∃ txt : Str, ∀ (S' : Store) (R : T → Store → Prop) (RE : XT), R (.str txt) S' → kReprX (one C (sp_Size_repr_h C)) [x] S' R RE ∧ kReprX (one C (sp_Size_repr C)) [x] S' R RE := by
  cases h with
  | @str z l s =>
    have hl := StrLaws.reprText_len z s
    have sq : Sq 64 16777216 (.str z) := (Sq.str (n := 24002) (by omega)).up (by decide) (by decide)
    refine ⟨PyData.shown (.str z), fun S' R RE q => ⟨.inl ⟨_, _, rfl, by rw [T.datD], sq, q⟩, .inl ⟨_, _, rfl, by rw [T.datD], sq, q⟩⟩⟩
  | @dat _ d e s v n => exact ⟨d.shown, fun S' R RE q => ⟨.inl ⟨_, _, rfl, e, s, q⟩, .inl ⟨_, _, rfl, e, s, q⟩⟩⟩
  | sz s o v => exact ⟨s.rep, fun S' R RE q => ⟨.inr ⟨_, C, _, _, rfl, rfl, ⟨rfl, rfl⟩, s, rfl, o, ⟨_, rfl⟩, q⟩, .inr ⟨_, C, _, _, rfl, rfl, ⟨rfl, rfl⟩, s, rfl, Sz.up o (by decide), ⟨_, rfl⟩, q⟩⟩⟩
theorem sc_l_read_right : FnScope ["_law_said", "_law_found", "_law_due", "_law_told", "_law_thing"] ["_law_said"] (defScope s_l_read_right) := ⟨rfl, rfl, rfl, by decide +kernel, rfl, by decide +kernel, by decide +kernel⟩
def sp_l_rr (K : PySem.W.Frag) (C : Addr) : SpT := fun ts S R _ => match ts with
  | [x] => SaidV K C x ∧ TabsIn T0 S ∧ R (.bl true) S
  | _ => False
set_option maxHeartbeats 3200000 in
theorem ok_l_read_right {P : Program} {w : World} {K : PySem.W.Frag} {mg : Str → Option Value} {base : Heap} {f : Addr} {fd : FuncData} {g_Size_str C_Size g_Size_read C_InvalidText g_l_caught g_l_kind g_Size_repr g_l_two c0_l_read_right p_Size_read : Addr} {gd_Size_str : FuncData} {gd_Size_read : FuncData} {gd_l_caught : FuncData} {cE : Nat → Addr} {gd_l_kind : FuncData} {gd_Size_repr : FuncData} {gd_l_two : FuncData} (F : Fun K "_law_read_right" "_law_read_right" s_l_read_right f fd)
    (n_str : mg "str" = none)
    (n_repr : mg "repr" = none)
    (n_isinstance : mg "isinstance" = none)
    (G_Size_str : FnT P w K mg base 6 g_Size_str gd_Size_str ["self"] (sp_Size_str C_Size))
    (b_Size_str : Binds K gd_Size_str ["self"] [])
    (G_Size_read : FnT P w K mg base 8 g_Size_read gd_Size_read ["cls", "text"] (sp_Size_read K C_Size C_InvalidText))
    (b_Size_read : Binds K gd_Size_read ["cls", "text"] [])
    (kb_Size_read_1_text : CallB K gd_Size_read ["cls", "text"] 1 ["text"] (fun ts zs => pickG [(0, 0), (2, 0)] ts [] zs))
    (CAU : CauD P w K mg base cE g_l_caught g_l_kind gd_l_caught gd_l_kind)
    (G_Size_repr : FnT P w K mg base 9 g_Size_repr gd_Size_repr ["self"] (sp_Size_repr C_Size))
    (b_Size_repr : Binds K gd_Size_repr ["self"] [])
    (G_l_two : FnT P w K mg base 3 g_l_two gd_l_two ["_law_said"] (sp_l_two K))
    (m_l_two : mg "_law_two" = some (.ref g_l_two))
    (k_l_two : PySem.W.keepIn K (.ref g_l_two) = true)
    (b_l_two : Binds K gd_l_two ["_law_said"] [])
    (ND : base.NoDigits)
    (SYS : ∃ o, base.get? sysModules = some o)
    (P_Size_repr : FnPT P w K mg base 9 g_Size_repr gd_Size_repr ["self"] (sp_Size_repr_h C_Size))
    (er_InvalidText : ErN K cE C_InvalidText 8)
    (tc_l_read_right : fd.code = .ref c0_l_read_right)
    (TB_l_read_right : LamX.TabB base mg c0_l_read_right 715)
    (od_Size_str : OwnDef K C_Size "__str__" g_Size_str)
    (m_Size : mg "Size" = some (.ref C_Size))
    (cr_Size : ClX.CRead K C_Size (.type "type"))
    (cmt_Size_read : ClX.CMet K C_Size (.type "type") "read" p_Size_read g_Size_read)
    (od_Size_repr : OwnDef K C_Size "__repr__" g_Size_repr)
    (is_Size : InsC K C_Size)
    (nf_Size_width : InF K C_Size "width")
    (nf_Size_height : InF K C_Size "height")
    : FnT P w K mg base 24 f fd ["_law_said"] (sp_l_rr K C_Size) := by
  refine okTC tc_l_read_right F sc_l_read_right (by intro ts S R RE h; unfold sp_l_rr at h; split at h <;> first | rfl | exact h.elim) (fun A out s H E hg hr => (bs_cons (ss_set (i := 1) sc_l_read_right.nd rfl (by first | exact Or.inl rfl | exact Or.inr rfl) (et_if (tt_val (et_blt call_isiY (cv_isi (K := K)) (by rfl) n_isinstance PyProof.Rows.boot_isinstance (at_cons (et_var (pv 0)) (at_cons (et_blty (by rfl) n_str PyProof.Rows.boot_str) at_nil)))) (et_callD G_l_two hg (hr.mono (by decide)) (by rfl) m_l_two k_l_two (CallD.all b_l_two) (passL2N (L2N.takes_of rfl rfl rfl rfl)) (at_cons (et_var (pv 0)) at_nil)) et_non))
    (bs_cons (ss_set (i := 2) sc_l_read_right.nd rfl (by first | exact Or.inl rfl | exact Or.inr rfl) (et_if (tt_cmp op_isN cv_isN (et_var (pv 1)) et_non (nomark _)) (et_lst (at_cons et_int (at_cons (et_blt (reprX CAU.sys (StrD.one od_Size_repr G_Size_repr (hr.mono (by decide)) b_Size_repr) hg (roomR hr)) cv_reprX (by rfl) n_repr PyProof.Rows.boot_repr (at_cons (et_var (pv 0)) at_nil)) at_nil))) (et_lst (at_cons et_str (at_cons et_str at_nil)))))
    (bs_cons (ss_set (i := 3) sc_l_read_right.nd rfl (by first | exact Or.inl rfl | exact Or.inr rfl) (et_lstC (at_cons (et_caughtK K rfl (j := 11) (k := 9) CAU (StrDH.one od_Size_repr P_Size_repr (by decide) b_Size_repr) (by decide) (by rfl) hg TB_l_read_right rfl mem_l_read_right only_l_read_right (hr.mono (by decide)) (LamX.lamS_by (by show LamX.lamSB (defScope s_l_read_right) _ = true; decide +kernel)) rfl (fun _ _ _ _ _ => rfl) (fun A outer s H E f c' hg hr => (et_cmeth cr_Size cmt_Size_read G_Size_read b_Size_read (hr.mono (by decide)) hg (passL2N (L2N.takes_of rfl rfl rfl rfl)) (by rfl) m_Size (at_cons (et_var (pv 0)) at_nil)))) at_nil)))
    (bs_cons (ss_expr (et_mut PySem.F.slot_list_append PySem.F.type_list_append mt_append cv_append (et_var (pv 3)) (at_cons (et_caughtK K rfl (j := 11) (k := 9) CAU (StrDH.one od_Size_repr P_Size_repr (by decide) b_Size_repr) (by decide) (by rfl) hg TB_l_read_right rfl mem_l_read_right only_l_read_right (hr.mono (by decide)) (LamX.lamS_by (by show LamX.lamSB (defScope s_l_read_right) _ = true; decide +kernel)) rfl (fun _ _ _ _ _ => rfl) (fun A outer s H E f c' hg hr => (et_cmethK cr_Size cmt_Size_read G_Size_read kb_Size_read_1_text (hr.mono (by decide)) hg (passL2N (L2N.takes_of rfl rfl rfl rfl)) (by rfl) m_Size (kt_cons (et_var (pv 0)) kt_nil)))) at_nil)))
    (bs_cons (ss_if (tt_cmp (op_neP hr.units) cv_eqP (et_frz (pv 3)) (et_op op_mulG cv_mul (et_lst (at_cons (et_var (pv 2)) at_nil)) et_int) (nomark _)) (bs_one (ss_ret et_bl)) bs_nil)
    (bs_cons (ss_if (tt_cmp op_isN cv_isN (et_var (pv 1)) et_non (nomark _)) (bs_one (ss_ret et_bl)) bs_nil)
    (bs_cons (ss_set (i := 4) sc_l_read_right.nd rfl (by first | exact Or.inl rfl | exact Or.inr rfl) (et_cmeth cr_Size cmt_Size_read G_Size_read b_Size_read (hr.mono (by decide)) hg (passL2N (L2N.takes_of rfl rfl rfl rfl)) (by rfl) m_Size (at_cons (et_var (pv 0)) at_nil)))
    (bs_cons (ss_if (tt_not (tt_val (et_blt call_isiY (cv_isi (K := K)) (by rfl) n_isinstance PyProof.Rows.boot_isinstance (at_cons (et_var (pv 4)) (at_cons (et_glob (by rfl) m_Size) at_nil))))) (bs_one (ss_ret et_bl)) bs_nil)
    (bs_one (ss_ret (et_cmp (op_eqG hr.units) cv_eq (et_blt (reprDB ND SYS hg (roomR hr)) cv_reprB (by rfl) n_repr PyProof.Rows.boot_repr (at_cons (et_lst (at_cons (et_fldK K rfl (et_var (pv 4))) (at_cons (et_fldK K rfl (et_var (pv 4))) (at_cons (et_typ (strOwnT (StrD.one od_Size_str G_Size_str (hr.mono (by decide)) b_Size_str) hg) cv_strOwn (by rfl) n_str PyProof.Rows.boot_str (at_cons (et_var (pv 4)) at_nil)) at_nil)))) at_nil)) (et_blt (reprDB ND SYS hg (roomR hr)) cv_reprB (by rfl) n_repr PyProof.Rows.boot_repr (at_cons (et_lst (at_cons (et_ix ix_seq cv_ix (et_var (pv 1)) et_int (fun _ _ => rfl)) (at_cons (et_ix ix_seq cv_ix (et_var (pv 1)) et_int (fun _ _ => rfl)) (at_cons (et_var (pv 0)) at_nil)))) at_nil)) (nomark _))))))))))))) ?_
  intro ts S R RE h
  unfold sp_l_rr at h
  split at h
  · rename_i x
    obtain ⟨sv, tin, q⟩ := h
    obtain ⟨txt, rp⟩ := sv.repr
    refine sSeq_i fun N hN => ?_
    suffices hh : ∀ fnd, ((fnd = .non ∧ ((isK x "str" = false ∧ ∀ S, ValT K S x) ∨ ∃ z, x = .str z ∧ z.length ≤ 2400 ∧ ∀ s : S4, s.ok 8000 → z ≠ s.str)) ∨ ∃ s : S4, s.ok 8000 ∧ x = .str s.str ∧ s.str.length ≤ 2400 ∧ (∀ c ∈ s.str.cps.toList, c < 16 ^ 8) ∧ fnd = d4T s) → N [some x, some fnd, none, none, none] S by
      simp only [sp_l_two, sAsg, rVar, rC, rTest, rIf, aNil, aCons, rArgs, gNameT, rCall, startT, Option.some.injEq, List.map_cons, List.map_nil, List.length_cons, List.length_nil, List.cons_append, List.nil_append, List.append_nil, List.getElem?_cons_zero, List.set_cons_zero, List.set_cons_succ, List.replicate_succ, List.replicate_zero, exists_eq_left', Nat.reduceAdd, Nat.reduceSub, Nat.zero_add]
      cases sv with
      | @str z l sg =>
        refine isStr0 ⟨true, rfl, ?_⟩
        rw [if_pos rfl]
        refine ⟨l, ?_⟩
        by_cases w : ∃ s : S4, s.ok 8000 ∧ z = s.str
        · obtain ⟨s, o, rfl⟩ := w
          exact .inl ⟨s, o, rfl, hh _ (.inr ⟨s, o, rfl, l, sg, rfl⟩)⟩
        · have w2 : ∀ s : S4, s.ok 8000 → z ≠ s.str := fun s o e => w ⟨s, o, e⟩
          exact .inr ⟨w2, hh _ (.inl ⟨rfl, .inr ⟨z, rfl, l, w2⟩⟩)⟩
      | @dat _ d e s v n =>
        refine (v S).is (n := "str") (by decide) ⟨_, rfl, ?_⟩
        rw [n, if_neg (by decide)]
        exact hh _ (.inl ⟨rfl, .inl ⟨n, v⟩⟩)
      | sz s o v =>
        refine (v S).is (n := "str") (by decide) ⟨_, rfl, ?_⟩
        rw [show isK (s.t C_Size) "str" = false from rfl, if_neg (by decide)]
        exact hh _ (.inl ⟨rfl, .inl ⟨rfl, v⟩⟩)
    intro fnd hf
    refine hN _ _ ?_
    clear hN sv
    rcases hf with ⟨rfl, bad⟩ | ⟨s, o, rfl, sl, sg, rfl⟩
    · have rd : ∀ (R' : T → Store → Prop) (RE' : XT) (S' : Store), RE' C_InvalidText [("value", x)] S' → sp_Size_read K C_Size C_InvalidText [.st C_Size, x] S' R' RE' := fun R' RE' S' k => by
        refine ⟨rfl, ?_⟩
        rcases bad with ⟨n, v⟩ | ⟨z, rfl, l, no⟩
        · exact .inr ⟨v S', n, k⟩
        · exact .inl ⟨z, rfl, l, .inr ⟨no, k⟩⟩
      refine sSeq_i fun N hN => ?_
      simp only [sAsg, rVar, rC, rBin, rTest, rIf, aNil, aCons, rLst, rArgs, gNameT, Option.some.injEq, List.length_cons, List.length_nil, List.getElem?_cons_zero, List.getElem?_cons_succ, List.set_cons_zero, List.set_cons_succ, exists_eq_left', Nat.reduceAdd, Nat.zero_add]
      refine ⟨rfl, true, rfl, ?_⟩
      rw [if_pos rfl]
      refine (rp _ _ _ ⟨by decide, hN _ _ ?_⟩).2
      clear hN
      refine sSeq_i fun N hN => ?_
      simp only [rCaught, sAsg, rVar, aNil, aCons, rLstC, gNameT, rCMeth, Option.some.injEq, List.length_cons, List.length_nil, List.getElem?_cons_zero, List.set_cons_zero, List.set_cons_succ, exists_eq_left', exists_and_left, Nat.zero_add]
      refine ⟨tin, rd _ _ _ ⟨8, er_InvalidText, _, rfl, (rp _ _ _ ⟨_, rfl, ?_⟩).1⟩⟩
      refine ⟨by decide, fun a ha => hN _ _ ?_⟩
      clear hN
      have tin2 := tin.putl (p := a) (l := [T.lst [T.int (8 : Nat), T.str txt]]) fun q e => by rw [ha] at e; cases e
      refine sSeq_i fun N hN => ?_
      simp only [rCaught, put_same, sDrop, rVar, aNil, aCons, rCMethK, rMut, kAppend, pickG, selG, T.cell.injEq, Cell.lst.injEq, List.cons.injEq, Option.some.injEq, List.length_cons, List.length_nil, List.getElem?_cons_zero, List.getElem?_cons_succ, exists_eq_left', exists_and_left, and_true, true_and, Nat.zero_add, put_same]
      refine ⟨⟨_, rfl⟩, tin2, rd _ _ _ ⟨8, er_InvalidText, _, rfl, (rp _ _ _ ⟨_, rfl, ?_⟩).1⟩⟩
      refine ⟨_, put_same, by simp only [List.length_cons, List.length_nil]; rw [sizeLine_eq]; decide, hN _ _ ?_⟩
      clear hN
      refine sSeq_i fun N hN => ?_
      simp only [put_same, sRet, sIf, sNext, rVar, rFrz, rC, rBin, rTest, aNil, aCons, rLst, kMul, T.cell.injEq, Cell.lst.injEq, Option.some.injEq, List.length_cons, List.length_nil, List.cons_append, List.nil_append, List.getElem?_cons_zero, List.getElem?_cons_succ, exists_eq_left', exists_and_left, and_assoc, Nat.zero_add, put_put, put_same]
      rw [put_drop ha]
      refine ⟨by decide, by decide, by decide, by decide, ?_⟩
      refine eqP_same (x := .lst [.lst [.int 8, .str txt], .lst [.int 8, .str txt]]) (by simp [T.dat, T.datL]; rfl) (by simp [PyData.depth, PyData.depthAll]) ⟨_, rfl, ?_⟩
      rw [if_neg (by decide)]
      refine hN _ _ ?_
      clear hN
      refine sSeq_i fun N hN => ?_
      simp only [sRet, sIf, sNext, rVar, rC, rBin, rTest, Option.some.injEq, List.getElem?_cons_zero, List.getElem?_cons_succ, exists_eq_left']
      refine ⟨rfl, true, rfl, ?_⟩
      rw [if_pos rfl]
      exact q
    · have rd : ∀ (R' : T → Store → Prop) (RE' : XT) (S' : Store), R' (s.t C_Size) S' → sp_Size_read K C_Size C_InvalidText [.st C_Size, .str s.str] S' R' RE' := fun R' RE' S' k =>
        ⟨rfl, .inl ⟨_, rfl, sl, .inl ⟨s, o, rfl, k⟩⟩⟩
      refine sSeq_i fun N hN => ?_
      simp only [sAsg, rVar, rC, rBin, rTest, rIf, aNil, aCons, rLst, rArgs, gNameT, Option.some.injEq, List.length_cons, List.length_nil, List.getElem?_cons_zero, List.getElem?_cons_succ, List.set_cons_zero, List.set_cons_succ, exists_eq_left', Nat.reduceAdd, Nat.zero_add]
      refine ⟨rfl, false, rfl, ?_⟩
      rw [if_neg (by decide)]
      refine ⟨by decide, hN _ _ ?_⟩
      clear hN
      refine sSeq_i fun N hN => ?_
      simp only [rCaught, sAsg, rVar, aNil, aCons, rLstC, gNameT, rCMeth, Option.some.injEq, List.length_cons, List.length_nil, List.getElem?_cons_zero, List.set_cons_zero, List.set_cons_succ, exists_eq_left', exists_and_left, Nat.zero_add]
      refine ⟨tin, rd _ _ _ ?_⟩
      refine ⟨by decide, fun a ha => hN _ _ ?_⟩
      clear hN
      have tin2 := tin.putl (p := a) (l := [T.lst [T.str "none", T.str ""]]) fun q e => by rw [ha] at e; cases e
      refine sSeq_i fun N hN => ?_
      simp only [rCaught, put_same, sDrop, rVar, aNil, aCons, rCMethK, rMut, kAppend, pickG, selG, T.cell.injEq, Cell.lst.injEq, List.cons.injEq, Option.some.injEq, List.length_cons, List.length_nil, List.getElem?_cons_zero, List.getElem?_cons_succ, exists_eq_left', exists_and_left, and_true, true_and, Nat.zero_add, put_same]
      refine ⟨⟨_, rfl⟩, tin2, rd _ _ _ ?_⟩
      refine ⟨_, put_same, by simp only [List.length_cons, List.length_nil]; rw [sizeLine_eq]; decide, hN _ _ ?_⟩
      clear hN
      refine sSeq_i fun N hN => ?_
      simp only [put_same, sRet, sIf, sNext, rVar, rFrz, rC, rBin, rTest, aNil, aCons, rLst, kMul, T.cell.injEq, Cell.lst.injEq, Option.some.injEq, List.length_cons, List.length_nil, List.cons_append, List.nil_append, List.getElem?_cons_zero, List.getElem?_cons_succ, exists_eq_left', exists_and_left, and_assoc, Nat.zero_add, put_put, put_same]
      rw [put_drop ha]
      refine ⟨by decide, by decide, by decide, by decide, ?_⟩
      refine eqP_same (x := .lst [.lst [.str "none", .str ""], .lst [.str "none", .str ""]]) (by simp [T.dat, T.datL]; rfl) (by simp [PyData.depth, PyData.depthAll]) ⟨_, rfl, ?_⟩
      rw [if_neg (by decide)]
      refine hN _ _ ?_
      clear hN
      refine sSeq_i fun N hN => ?_
      simp only [sRet, sIf, sNext, rVar, rC, rBin, rTest, Option.some.injEq, List.getElem?_cons_zero, List.getElem?_cons_succ, exists_eq_left']
      refine ⟨rfl, false, rfl, ?_⟩
      rw [if_neg (by decide)]
      refine hN _ _ ?_
      clear hN
      refine sSeq_i fun N hN => ?_
      simp only [sAsg, rVar, aNil, aCons, gNameT, rCMeth, Option.some.injEq, List.getElem?_cons_zero, List.set_cons_zero, List.set_cons_succ, exists_eq_left']
      refine rd _ _ _ (hN _ _ ?_)
      clear hN
      refine sSeq_i fun N hN => ?_
      simp only [sRet, sIf, sNext, rVar, rC, rTest, bNot, aNil, aCons, rArgs, Option.some.injEq, List.getElem?_cons_zero, List.getElem?_cons_succ, exists_eq_left']
      refine isSz is_Size ⟨true, rfl, ?_⟩
      rw [if_neg (by decide)]
      refine hN _ _ ?_
      clear hN
      simp only [S4.t, szT, szF_w, szF_h, d4T, sp_Size_str, sRet, rVar, rC, rBin, aNil, aCons, rLst, rArgs, rFld, kStrOwn, kIx, one, insOf, T.str.injEq, T.ins.injEq, Prod.mk.injEq, List.cons.injEq, Option.some.injEq, List.length_cons, List.length_nil, List.getElem?_cons_zero, List.getElem?_cons_succ, exists_eq_left, exists_eq_left', exists_and_left, and_true, true_and, and_assoc, Nat.reduceAdd, Nat.zero_add, at_0, at_1]
      have hl := StrLaws.reprText_len s.str sg
      have sb : SqB (.list [.tuple [.int s.a, .int s.b], .tuple [.int s.c, .int s.d], .str s.str]) := (SB.lst (k := 2) (SBA.cons (SB.fr o.w) (SBA.cons (SB.fr o.h) (SBA.cons ((SB.str (n := 24002) (by omega)).up (by decide) (Nat.le_refl _)) SBA.nil)))).q (by decide) (by decide)
      have dd : (T.lst [frT s.a s.b, frT s.c s.d, T.str s.str]).datD = some (.list [.tuple [.int s.a, .int s.b], .tuple [.int s.c, .int s.d], .str s.str]) := by
        rw [T.datD, T.datDL, T.datDL, T.datDL, T.datDL, fr_datD, fr_datD, T.datD]; rfl
      refine ⟨nf_Size_width, nf_Size_height, s, rfl, o, ⟨_, rfl⟩, by decide, _, _, rfl, dd, sb, by decide, _, _, rfl, dd, sb, ?_⟩
      refine eqSt0 (v := true) (by simp) ?_
      exact q
  · exact h.elim
theorem sc_l_is_side : FnScope ["_law_thing"] ["_law_thing"] (defScope s_l_is_side) := ⟨rfl, rfl, rfl, by decide +kernel, rfl, by decide +kernel, by decide +kernel⟩
def sp_l_is_side (K : PySem.W.Frag) : SpT := fun ts S R _ => match ts with
  | [x] => AnyV K S x ∧ R (.bl (isPos x || goodF x)) S
  | _ => False
theorem ok_l_is_side {P : Program} {w : World} {K : PySem.W.Frag} {mg : Str → Option Value} {base : Heap} {f : Addr} {fd : FuncData} {g_l_is_part g_l_whole : Addr} {gd_l_is_part : FuncData} {gd_l_whole : FuncData} (F : Fun K "_law_is_side" "_law_is_side" s_l_is_side f fd)
    (G_l_is_part : FnT P w K mg base 2 g_l_is_part gd_l_is_part ["_law_thing"] (sp_l_is_part K))
    (m_l_is_part : mg "_law_is_part" = some (.ref g_l_is_part))
    (k_l_is_part : PySem.W.keepIn K (.ref g_l_is_part) = true)
    (b_l_is_part : Binds K gd_l_is_part ["_law_thing"] [])
    (G_l_whole : FnT P w K mg base 1 g_l_whole gd_l_whole ["_law_thing"] (sp_l_whole K))
    (m_l_whole : mg "_law_whole" = some (.ref g_l_whole))
    (k_l_whole : PySem.W.keepIn K (.ref g_l_whole) = true)
    (b_l_whole : Binds K gd_l_whole ["_law_thing"] [])
    : FnT P w K mg base 3 f fd ["_law_thing"] (sp_l_is_side K) := by
  refine okT F sc_l_is_side (by intro ts S R RE h; unfold sp_l_is_side at h; split at h <;> first | rfl | exact h.elim) (fun cdv A out s H E hg hr => (bs_one (ss_ret (et_or (et_callD G_l_whole hg (hr.mono (by decide)) (by rfl) m_l_whole k_l_whole (CallD.all b_l_whole) (passL2N (L2N.takes_of rfl rfl rfl rfl)) (at_cons (et_var (pv 0)) at_nil)) (et_one (et_callD G_l_is_part hg (hr.mono (by decide)) (by rfl) m_l_is_part k_l_is_part (CallD.all b_l_is_part) (passL2N (L2N.takes_of rfl rfl rfl rfl)) (at_cons (et_var (pv 0)) at_nil))))))) ?_
  intro ts S R RE h
  unfold sp_l_is_side at h
  split at h
  · rename_i x
    obtain ⟨av, q⟩ := h
    simp only [sp_l_whole, sp_l_is_part, sRet, rVar, vOr, aNil, aCons, rCall, startT, T.bl.injEq, Option.some.injEq, List.map_cons, List.map_nil, List.length_cons, List.length_nil, List.append_nil, List.getElem?_cons_zero, List.replicate_zero, exists_eq_left', Nat.sub_self, Nat.zero_add]
    refine ⟨av.v, ?_⟩
    cases e : isPos x
    · rw [e] at q
      rw [if_neg (by decide)]
      exact ⟨av, q⟩
    · rw [e] at q
      rw [if_pos rfl]
      exact q
  · exact h.elim
def Grow (S S' : Store) : Prop := ∀ a c, S a = some c → S' a = some c
theorem Grow.refl {S : Store} : Grow S S := fun _ _ h => h
theorem Grow.trans {S S1 S2 : Store} (h : Grow S S1) (k : Grow S1 S2) : Grow S S2 := fun a c e => k a c (h a c e)
theorem Grow.put {S : Store} {u : Addr} {c : Cell} (h : S u = none) : Grow S (S.put u c) := fun a c' e => by
  by_cases z : a = u
  · subst z; rw [h] at e; cases e
  · rw [put_ne z]; exact e
theorem Grow.drop {S S' : Store} {u : Addr} (g : Grow S S') (h : S u = none) : Grow S (S'.drop u) := fun a c e => by
  by_cases z : a = u
  · subst z; rw [h] at e; cases e
  · rw [drop_ne z]; exact g a c e
theorem put_drop2 {S : Store} {a : Addr} {c : Cell} : (S.put a c).drop a = S.drop a := funext fun b => by
  by_cases z : b = a
  · subst z; rw [drop_same, drop_same]
  · rw [drop_ne z, drop_ne z, put_ne z]
/-- a value for a side -/
structure SideV (K : PySem.W.Frag) (C : Addr) (x : T) : Prop where
  any : ∀ S, AnyV K S x
  gd : (isPos x || goodF x) = true → ∃ a b, Side 8000 x a b
  rp : ∃ txt : Str, ∀ (S' : Store) (R : T → Store → Prop) (RE : XT), R (.str txt) S' → kReprX (one C (sp_Size_repr_h C)) [x] S' R RE ∧ kReprX (one C (sp_Size_repr C)) [x] S' R RE
theorem OddV.side {K : PySem.W.Frag} {C : Addr} {x : T} (o : OddV x) : SideV K C x := by
  refine ⟨o.v K, fun g => ?_, ?_⟩
  · cases e1 : isPos x with
    | true =>
      obtain ⟨a, rfl, h⟩ := isPos_int e1
      exact ⟨a, 1, .int ⟨h, Nat.lt_of_lt_of_le (o.i a rfl) (Nat.pow_le_pow_right (by decide) (by decide))⟩⟩
    | false =>
      rw [e1, Bool.false_or] at g
      unfold goodF at g
      split at g
      · rename_i a b
        simp only [Bool.and_eq_true, decide_eq_true_eq] at g
        obtain ⟨⟨h1, h2⟩, h3⟩ := g
        obtain ⟨k1, k2⟩ := o.p a b rfl
        exact ⟨a, b, .fr ⟨⟨h1, Nat.lt_of_lt_of_le k1 (Nat.pow_le_pow_right (by decide) (by decide))⟩, ⟨h2, Nat.lt_of_lt_of_le k2 (Nat.pow_le_pow_right (by decide) (by decide))⟩, h3⟩⟩
      · cases g
  · obtain ⟨d, e, s⟩ := o.d
    exact ⟨d.shown, fun S' R RE q => ⟨.inl ⟨_, _, rfl, e, s, q⟩, .inl ⟨_, _, rfl, e, s, q⟩⟩⟩
theorem mk9 {K : PySem.W.Frag} {C CE : Addr} {x y : T} (hx : SideV K C x) (hy : SideV K C y) {S : Store} {R : T → Store → Prop} {RE : XT} (tin : TabsIn T0 S)
    (ok : (isPos x || goodF x) = true → (isPos y || goodF y) = true → ∀ t, R t S)
    (b1 : (isPos x || goodF x) = false → ∀ S', TabsIn T0 S' → Grow S S' → RE CE [("value", x)] S')
    (b2 : (isPos x || goodF x) = true → (isPos y || goodF y) = false → ∀ S', TabsIn T0 S' → Grow S S' → RE CE [("value", y)] S') :
    ∀ u, S u = none → sp_Size_init K C CE [.cell u, x, y] (S.put u (.ins C [])) (fun z S2 => z = .non ∧ ∃ gs, S2 u = some (.ins C gs) ∧ R (.ins C gs) (S2.drop u)) RE := fun u hu => by
  refine ⟨put_same, ?_⟩
  have nt : ∀ q, S u ≠ some (.tab q) := fun q e => by rw [hu] at e; cases e
  cases e1 : isPos x || goodF x with
  | false =>
    obtain ⟨p1, p2⟩ := Bool.or_eq_false_iff.mp e1
    exact .inr (.inl ⟨hx.any _, p1, p2, b1 e1 _ (tin.puti nt) (Grow.put hu)⟩)
  | true =>
    obtain ⟨a, b, s1⟩ := hx.gd e1
    cases e2 : isPos y || goodF y with
    | false =>
      obtain ⟨p1, p2⟩ := Bool.or_eq_false_iff.mp e2
      refine .inr (.inr ⟨a, b, s1, hy.any, p1, p2, ?_⟩)
      rw [put_put]
      exact b2 e1 e2 _ (tin.puti nt) (Grow.put hu)
    | true =>
      obtain ⟨c, d, s2⟩ := hy.gd e2
      exact .inl ⟨a, b, c, d, s1, s2, rfl, _, put_same, by rw [put_put, put_drop hu]; exact ok e1 e2 _⟩
theorem sc_l_sides_right : FnScope ["_law_wide", "_law_tall", "_law_due", "_law_told"] ["_law_wide", "_law_tall"] (defScope s_l_sides_right) := ⟨rfl, rfl, rfl, by decide +kernel, rfl, by decide +kernel, by decide +kernel⟩
def sp_l_sr (K : PySem.W.Frag) (C : Addr) : SpT := fun ts S R _ => match ts with
  | [x, y] => SideV K C x ∧ SideV K C y ∧ TabsIn T0 S ∧ ∀ S', TabsIn T0 S' → Grow S S' → R (.bl true) S'
  | _ => False
set_option maxHeartbeats 3200000 in
theorem ok_l_sides_right {P : Program} {w : World} {K : PySem.W.Frag} {mg : Str → Option Value} {base : Heap} {f : Addr} {fd : FuncData} {g_l_caught g_l_kind g_Size_init C_Size C_InvalidFraction g_l_is_side g_Size_repr c0_l_sides_right : Addr} {gd_l_caught : FuncData} {cE : Nat → Addr} {gd_l_kind : FuncData} {gd_Size_init : FuncData} {gd_l_is_side : FuncData} {gd_Size_repr : FuncData} (F : Fun K "_law_sides_right" "_law_sides_right" s_l_sides_right f fd)
    (n_repr : mg "repr" = none)
    (CAU : CauD P w K mg base cE g_l_caught g_l_kind gd_l_caught gd_l_kind)
    (G_Size_init : FnT P w K mg base 6 g_Size_init gd_Size_init ["self", "width", "height"] (sp_Size_init K C_Size C_InvalidFraction))
    (b_Size_init : Binds K gd_Size_init ["self", "width", "height"] [])
    (kb_Size_init_1_height_width : CallB K gd_Size_init ["self", "width", "height"] 1 ["height", "width"] (fun ts zs => pickG [(0, 0), (2, 1), (2, 0)] ts [] zs))
    (G_l_is_side : FnT P w K mg base 3 g_l_is_side gd_l_is_side ["_law_thing"] (sp_l_is_side K))
    (m_l_is_side : mg "_law_is_side" = some (.ref g_l_is_side))
    (k_l_is_side : PySem.W.keepIn K (.ref g_l_is_side) = true)
    (b_l_is_side : Binds K gd_l_is_side ["_law_thing"] [])
    (G_Size_repr : FnT P w K mg base 9 g_Size_repr gd_Size_repr ["self"] (sp_Size_repr C_Size))
    (b_Size_repr : Binds K gd_Size_repr ["self"] [])
    (P_Size_repr : FnPT P w K mg base 9 g_Size_repr gd_Size_repr ["self"] (sp_Size_repr_h C_Size))
    (er_InvalidFraction : ErN K cE C_InvalidFraction 0)
    (tc_l_sides_right : fd.code = .ref c0_l_sides_right)
    (TB_l_sides_right : LamX.TabB base mg c0_l_sides_right 729)
    (m_Size : mg "Size" = some (.ref C_Size))
    (M_Size : Mk K C_Size g_Size_init)
    (od_Size_repr : OwnDef K C_Size "__repr__" g_Size_repr)
    : FnT P w K mg base 22 f fd ["_law_wide", "_law_tall"] (sp_l_sr K C_Size) := by
  refine okTC tc_l_sides_right F sc_l_sides_right (by intro ts S R RE h; unfold sp_l_sr at h; split at h <;> first | rfl | exact h.elim) (fun A out s H E hg hr => (bs_cons (ss_set (i := 2) sc_l_sides_right.nd rfl (by first | exact Or.inl rfl | exact Or.inr rfl) (et_lst (at_cons et_str (at_cons et_str at_nil))))
    (bs_cons (ss_if (tt_w (tw_or (tt_not (tt_val (et_callD G_l_is_side hg (hr.mono (by decide)) (by rfl) m_l_is_side k_l_is_side (CallD.all b_l_is_side) (passL2N (L2N.takes_of rfl rfl rfl rfl)) (at_cons (et_var (pv 0)) at_nil)))) (tw_or1 (tt_not (tt_val (et_callD G_l_is_side hg (hr.mono (by decide)) (by rfl) m_l_is_side k_l_is_side (CallD.all b_l_is_side) (passL2N (L2N.takes_of rfl rfl rfl rfl)) (at_cons (et_var (pv 1)) at_nil))))))) (bs_one (ss_set (i := 2) sc_l_sides_right.nd rfl (by first | exact Or.inl rfl | exact Or.inr rfl) (et_lst (at_cons et_int (at_cons (et_blt (reprX CAU.sys (StrD.one od_Size_repr G_Size_repr (hr.mono (by decide)) b_Size_repr) hg (roomR hr)) cv_reprX (by rfl) n_repr PyProof.Rows.boot_repr (at_cons (et_if (tt_val (et_callD G_l_is_side hg (hr.mono (by decide)) (by rfl) m_l_is_side k_l_is_side (CallD.all b_l_is_side) (passL2N (L2N.takes_of rfl rfl rfl rfl)) (at_cons (et_var (pv 0)) at_nil))) (et_var (pv 1)) (et_var (pv 0))) at_nil)) at_nil))))) bs_nil)
    (bs_cons (ss_set (i := 3) sc_l_sides_right.nd rfl (by first | exact Or.inl rfl | exact Or.inr rfl) (et_lstC (at_cons (et_caughtK K rfl (j := 11) (k := 7) CAU (StrDH.one od_Size_repr P_Size_repr (by decide) b_Size_repr) (by decide) (by rfl) hg TB_l_sides_right rfl mem_l_sides_right only_l_sides_right (hr.mono (by decide)) (LamX.lamS_by (by show LamX.lamSB (defScope s_l_sides_right) _ = true; decide +kernel)) rfl (fun _ _ _ _ _ => rfl) (fun A outer s H E f c' hg hr => (et_make M_Size G_Size_init hg (hr.mono (by decide)) (by rfl) m_Size (CallD.all b_Size_init) (passL2N (L2N.takes_of rfl rfl rfl rfl)) (at_cons (et_var (pv 0)) (at_cons (et_var (pv 1)) at_nil))))) at_nil)))
    (bs_cons (ss_expr (et_mut PySem.F.slot_list_append PySem.F.type_list_append mt_append cv_append (et_var (pv 3)) (at_cons (et_caughtK K rfl (j := 11) (k := 7) CAU (StrDH.one od_Size_repr P_Size_repr (by decide) b_Size_repr) (by decide) (by rfl) hg TB_l_sides_right rfl mem_l_sides_right only_l_sides_right (hr.mono (by decide)) (LamX.lamS_by (by show LamX.lamSB (defScope s_l_sides_right) _ = true; decide +kernel)) rfl (fun _ _ _ _ _ => rfl) (fun A outer s H E f c' hg hr => (et_makeK0 M_Size G_Size_init hg (hr.mono (by decide)) (by rfl) m_Size kb_Size_init_1_height_width (passL2N (L2N.takes_of rfl rfl rfl rfl)) (kt_cons (et_var (pv 1)) (kt_cons (et_var (pv 0)) kt_nil))))) at_nil)))
    (bs_one (ss_ret (et_cmp (op_eqP hr.units) cv_eqP (et_frz (pv 3)) (et_op op_mulG cv_mul (et_lst (at_cons (et_var (pv 2)) at_nil)) et_int) (nomark _))))))))) ?_
  intro ts S R RE h
  unfold sp_l_sr at h
  split at h
  · rename_i x y
    obtain ⟨hx, hy, tin, q⟩ := h
    obtain ⟨tx, rx⟩ := hx.rp
    obtain ⟨ty, ry⟩ := hy.rp
    refine sSeq_i fun N hN => ?_
    simp only [sAsg, rC, aNil, aCons, rLst, gNameT, startT, List.map_cons, List.map_nil, List.length_cons, List.length_nil, List.cons_append, List.nil_append, List.set_cons_zero, List.set_cons_succ, List.replicate_succ, List.replicate_zero, Nat.reduceAdd, Nat.reduceSub, Nat.zero_add]
    refine ⟨by decide, hN _ _ ?_⟩
    clear hN
    refine sSeq_i fun N hN => ?_
    suffices hh : ∀ D : T, ((isPos x || goodF x) = true → (isPos y || goodF y) = true → D = .lst [.str "none", .str ""]) → ((isPos x || goodF x) = false → D = .lst [.int 0, .str tx]) → ((isPos x || goodF x) = true → (isPos y || goodF y) = false → D = .lst [.int 0, .str ty]) → N [some x, some y, some D, none] S by
      simp only [sp_l_is_side, sAsg, sIf, sNext, rVar, rC, rTest, bOr, bNot, rIf, aNil, aCons, rLst, rArgs, gNameT, rCall, T.bl.injEq, Option.some.injEq, List.length_cons, List.length_nil, List.append_nil, List.getElem?_cons_zero, List.getElem?_cons_succ, List.set_cons_zero, List.set_cons_succ, exists_eq_left', Nat.reduceAdd, Nat.zero_add, reduceIte]
      refine ⟨hx.any _, ?_⟩
      cases e1 : isPos x || goodF x with
      | false =>
        rw [if_pos (by decide)]
        refine ⟨hx.any _, ?_⟩
        rw [if_neg (by decide)]
        exact (rx _ _ _ ⟨by decide, hh _ (fun h => by rw [e1] at h; cases h) (fun _ => rfl) (fun h => by rw [e1] at h; cases h)⟩).2
      | true =>
        rw [if_neg (by decide)]
        refine ⟨hy.any _, ?_⟩
        cases e2 : isPos y || goodF y with
        | false =>
          rw [if_pos (by decide)]
          refine ⟨hx.any _, ?_⟩
          rw [if_pos rfl]
          exact (ry _ _ _ ⟨by decide, hh _ (fun _ h => by rw [e2] at h; cases h) (fun h => by rw [e1] at h; cases h) (fun _ _ => rfl)⟩).2
        | true =>
          rw [if_neg (by decide)]
          exact hh _ (fun _ _ => rfl) (fun h => by rw [e1] at h; cases h) (fun _ h => by rw [e2] at h; cases h)
    intro D h0 h1 h2
    refine hN _ _ ?_
    clear hN
    have dat : ∃ d, D.dat = some d ∧ d.depth ≤ 2 := by
      cases e1 : isPos x || goodF x with
      | false => rw [h1 e1]; exact ⟨.list [.int 0, .str tx], by simp [T.dat, T.datL], by simp [PyData.depth, PyData.depthAll]⟩
      | true =>
        cases e2 : isPos y || goodF y with
        | false => rw [h2 e1 e2]; exact ⟨.list [.int 0, .str ty], by simp [T.dat, T.datL], by simp [PyData.depth, PyData.depthAll]⟩
        | true => rw [h0 e1 e2]; exact ⟨.list [.str "none", .str ""], by simp [T.dat, T.datL], by simp [PyData.depth, PyData.depthAll]⟩
    refine sSeq_i fun N hN => ?_
    simp only [rCaught, sAsg, rVar, aNil, aCons, rLstC, gNameT, rMake, Option.some.injEq, List.length_cons, List.length_nil, List.append_nil, List.getElem?_cons_zero, List.getElem?_cons_succ, List.set_cons_zero, List.set_cons_succ, exists_eq_left', exists_and_left, Nat.zero_add]
    refine ⟨tin, ?_⟩
    have go : ∀ S1, TabsIn T0 S1 → Grow S S1 → (1 ≤ sizeLine ∧ ∀ a : Addr, S1 a = none → N [some x, some y, some D, some (.cell a)] (S1.put a (Cell.lst [D]))) := by
      intro S1 t1 g1
      refine ⟨by decide, fun a ha => hN _ _ ?_⟩
      clear hN
      have t2 := t1.putl (p := a) (l := [D]) fun q e => by rw [ha] at e; cases e
      have na : S a = none := by
        cases e : S a with
        | none => rfl
        | some c => have := g1 a c e; rw [ha] at this; cases this
      refine sSeq_i fun N hN => ?_
      simp only [rCaught, put_same, sDrop, rVar, aNil, aCons, rMakeN, rMut, kAppend, pickG, selG, T.cell.injEq, Cell.lst.injEq, List.cons.injEq, Option.some.injEq, List.length_cons, List.length_nil, List.getElem?_cons_zero, List.getElem?_cons_succ, exists_eq_left', exists_and_left, and_true, true_and, Nat.reduceAdd, Nat.zero_add, put_same]
      have fin : ∀ S3, TabsIn T0 S3 → Grow (S1.put a (Cell.lst [D])) S3 → (∃ l, S3 a = some (Cell.lst l) ∧ l.length < sizeLine ∧ N [some x, some y, some D, some (.cell a)] (S3.put a (Cell.lst (l ++ [D])))) := by
        intro S3 t3 g3
        have e3 : S3 a = some (Cell.lst [D]) := g3 a _ put_same
        refine ⟨_, e3, by simp only [List.length_cons, List.length_nil]; rw [sizeLine_eq]; decide, hN _ _ ?_⟩
        clear hN
        simp only [put_same, sRet, rVar, rFrz, rC, rBin, aNil, aCons, rLst, kMul, T.cell.injEq, Cell.lst.injEq, Option.some.injEq, List.length_cons, List.length_nil, List.cons_append, List.nil_append, List.getElem?_cons_zero, List.getElem?_cons_succ, exists_eq_left', exists_and_left, and_assoc, Nat.zero_add, put_same]
        obtain ⟨d, hd, hp⟩ := dat
        refine ⟨by decide, by decide, by decide, by decide, ?_⟩
        refine eqP_same (x := .lst [D, D]) (d := .list [d, d]) (by simp [T.dat, T.datL, hd]) (by simp [PyData.depth, PyData.depthAll]; omega) ?_
        have e4 : (S3.put a (Cell.lst ([D] ++ [D]))).drop a = S3.drop a := put_drop2
        refine q _ ?_ ?_
        · refine (t3.putl (p := a) (l := [D] ++ [D]) fun q e => by rw [e3] at e; cases e).drop (p := a) fun q e => by rw [put_same] at e; cases e
        · rw [show (S3.put a (Cell.lst [D, D])).drop a = S3.drop a from put_drop2]
          exact Grow.drop (g1.trans ((Grow.put ha).trans g3)) na
      refine ⟨⟨_, rfl⟩, t2, ?_⟩
      refine mk9 hx hy (R := fun _ S' => ∃ l, S' a = some (Cell.lst l) ∧ l.length < sizeLine ∧ N [some x, some y, some D, some (T.cell a)] (S'.put a (Cell.lst (l ++ [T.lst [T.str (Str.ofString "none"), T.str (Str.ofString "")]])))) t2 (fun e1 e2 t => ?_) (fun e1 S' t3 g3 => ?_) (fun e1 e2 S' t3 g3 => ?_)
      · have := fin _ t2 Grow.refl
        rw [h0 e1 e2] at this ⊢
        exact this
      · refine ⟨0, er_InvalidFraction, _, rfl, (rx _ _ _ ⟨_, rfl, ?_⟩).1⟩
        have := fin _ t3 g3
        rw [h1 e1] at this ⊢
        exact this
      · refine ⟨0, er_InvalidFraction, _, rfl, (ry _ _ _ ⟨_, rfl, ?_⟩).1⟩
        have := fin _ t3 g3
        rw [h2 e1 e2] at this ⊢
        exact this
    refine mk9 hx hy (R := fun _ S' => 1 ≤ sizeLine ∧ ∀ (a : Addr), S' a = none → N [some x, some y, some D, some (T.cell a)] (S'.put a (Cell.lst [T.lst [T.str (Str.ofString "none"), T.str (Str.ofString "")]]))) tin (fun e1 e2 t => ?_) (fun e1 S' t3 g3 => ?_) (fun e1 e2 S' t3 g3 => ?_)
    · have := go _ tin Grow.refl
      rw [h0 e1 e2] at this ⊢
      exact this
    · refine ⟨0, er_InvalidFraction, _, rfl, (rx _ _ _ ⟨_, rfl, ?_⟩).1⟩
      have := go _ t3 g3
      rw [h1 e1] at this ⊢
      exact this
    · refine ⟨0, er_InvalidFraction, _, rfl, (ry _ _ _ ⟨_, rfl, ?_⟩).1⟩
      have := go _ t3 g3
      rw [h2 e1 e2] at this ⊢
      exact this
  · exact h.elim
open TL (numL numL_val)
/-- texts of few signs -/
structure TxS (n : Nat) (z : Str) : Prop where
  l : z.length ≤ n
  s : ∀ c ∈ z.cps.toList, c < 16 ^ 8
theorem TxS.up {n m : Nat} {z : Str} (h : TxS n z) (k : n ≤ m) : TxS m z := ⟨Nat.le_trans h.l k, h.s⟩
theorem TxS.cat {n m : Nat} {a b : Str} (h : TxS n a) (k : TxS m b) : TxS (n + m) (a ++ b) := by
  have h1 := h.l
  have h2 := k.l
  refine ⟨by rw [sLen0]; omega, fun c hc => ?_⟩
  have e : (a ++ b).cps.toList = a.cps.toList ++ b.cps.toList := TL.tl_append a b
  rw [e] at hc
  rcases List.mem_append.mp hc with m | m
  · exact h.s c m
  · exact k.s c m
theorem TxS.S {n : Nat} {l : List Nat} (h : l.length ≤ n) (k : ∀ c ∈ l, c < 16 ^ 8) : TxS n (SX.S l) := ⟨by rw [SX.S_len]; exact h, k⟩
theorem TxS.of {z : Str} {n : Nat} (h : z.length ≤ n) (k : (z.cps.toList.all fun c => decide (c < 16 ^ 8)) = true) : TxS n z := ⟨h, fun c m => of_decide_eq_true (List.all_eq_true.mp k c m)⟩
theorem TxS.cut {n : Nat} {z : Str} (h : TxS n z) {lo hi : Option Int} : TxS n (cutS z lo hi) := by
  have := h.l
  have e : z.cps.toList.length = z.length := Array.length_toList
  unfold cutS
  exact .S (by rw [List.length_take, List.length_drop]; omega) fun c m => h.s c (List.mem_of_mem_drop (List.mem_of_mem_take m))
theorem TxS.num {a : Int} (h : Pn 210 a) : TxS 64 (nS a) := by
  have hp := h.pos
  rw [nS_S (by omega)]
  refine .S (TL.numL_len (by decide) ?_) fun c m => ?_
  · have := h.lt
    have t : (2 : Nat) ^ 210 < 10 ^ 64 := by decide +kernel
    omega
  · have := TL.numL_digits a.toNat c m
    omega
theorem TxS.fr {a b : Int} (f : Fr 210 a b) : TxS 129 (frS a b) := by
  unfold frS
  split
  · exact (TxS.num f.a).up (by decide)
  · exact ((TxS.num f.a).cat ((TxS.of (n := 1) (by decide) (by decide +kernel)))).cat (TxS.num f.b)
theorem kAdd_ss {a b : Str} {S : Store} {R : T → Store → Prop} {RE : XT} : kAdd (.str a) (.str b) S R RE = (a.length + b.length ≤ sizeLine ∧ R (.str (a ++ b)) S) := rfl
theorem kAdd_ii {a b : Int} {S : Store} {R : T → Store → Prop} {RE : XT} : kAdd (.int a) (.int b) S R RE = R (.int (a + b)) S := rfl
theorem kSl_s {z : Str} {lo hi : Option Int} {S : Store} {R : T → Store → Prop} : kSl (.str z) lo hi S R = (z.length ≤ sizeLine ∧ R (.str (cutS z lo hi)) S) := rfl
theorem kAdd_ll {a b : List T} {S : Store} {R : T → Store → Prop} {RE : XT} : kAdd (.lst a) (.lst b) S R RE = (a.length + b.length ≤ sizeLine ∧ R (.lst (a ++ b)) S) := rfl
theorem ex_int {i : Int} {P : Int → Prop} : (∃ j, T.int i = T.int j ∧ P j) = P i := propext ⟨fun ⟨j, e, h⟩ => by cases e; exact h, fun h => ⟨i, rfl, h⟩⟩
theorem sc_l_shown : FnScope ["_law_part_here"] ["_law_part_here"] (defScope s_l_shown) := ⟨rfl, rfl, rfl, by decide +kernel, rfl, by decide +kernel, by decide +kernel⟩
def sp_l_shown : SpT := fun ts S R _ => match ts with
  | [x] => ∃ a b, x = frT a b ∧ Fr 1900 a b ∧ R (.str (frS a b)) S
  | _ => False
theorem ok_l_shown {P : Program} {w : World} {K : PySem.W.Frag} {mg : Str → Option Value} {base : Heap} {f : Addr} {fd : FuncData}   (F : Fun K "_law_shown" "_law_shown" s_l_shown f fd)
    (n_str : mg "str" = none)
    : FnT P w K mg base 1 f fd ["_law_part_here"] sp_l_shown := by
  refine okT F sc_l_shown (by intro ts S R RE h; unfold sp_l_shown at h; split at h <;> first | rfl | exact h.elim) (fun cdv A out s H E hg hr => (bs_one (ss_ret (et_if (tt_cmp (op_eqG hr.units) cv_eq (et_ix ix_seq cv_ix (et_var (pv 0)) et_int (fun _ _ => rfl)) et_int (nomark _)) (et_typ call_str_int cv_strI (by rfl) n_str PyProof.Rows.boot_str (at_cons (et_ix ix_seq cv_ix (et_var (pv 0)) et_int (fun _ _ => rfl)) at_nil)) (et_op op_addG cv_add (et_op op_addG cv_add (et_typ call_str_int cv_strI (by rfl) n_str PyProof.Rows.boot_str (at_cons (et_ix ix_seq cv_ix (et_var (pv 0)) et_int (fun _ _ => rfl)) at_nil)) et_str) (et_typ call_str_int cv_strI (by rfl) n_str PyProof.Rows.boot_str (at_cons (et_ix ix_seq cv_ix (et_var (pv 0)) et_int (fun _ _ => rfl)) at_nil))))))) ?_
  intro ts S R RE h
  unfold sp_l_shown at h
  split at h
  · obtain ⟨a, b, rfl, f, q⟩ := h
    have lga := lg1920 f.a (by decide)
    have lgb := lg1920 f.b (by decide)
    have la : (Str.ofString (toString a)).length ≤ 2409 := nS_len (f.a.up (by decide))
    have lb : (Str.ofString (toString b)).length ≤ 2409 := nS_len (f.b.up (by decide))
    clear f
    simp only [frT, sRet, rVar, rC, rBin, rTest, rIf, aNil, aCons, rArgs, kAdd, kIx, kStrI, startT, T.int.injEq, List.cons.injEq, Option.some.injEq, List.map_cons, List.map_nil, List.length_cons, List.length_nil, List.append_nil, List.getElem?_cons_zero, List.replicate_zero, exists_eq_left', exists_and_left, and_true, Nat.sub_self, Nat.zero_add, at_0, at_1]
    refine eqI0 ⟨_, rfl, ?_⟩
    by_cases hb : b = 1
    · subst hb
      rw [if_pos (by decide)]
      rw [frS_1] at q
      exact ⟨lga, q⟩
    · rw [if_neg (by rw [decide_eq_true_eq]; exact hb)]
      rw [frS_n hb] at q
      have ls : ("/" : Str).length = 1 := by decide
      exact ⟨lga, by rw [ls, sizeLine_eq]; omega, lgb, by rw [sLen0, ls, sizeLine_eq]; omega, q⟩
  · exact h.elim
theorem sc_l_bent : FnScope ["_law_pool_here", "_law_sides_here", "_law_wide", "_law_tall", "_law_said", "_law_many", "_law_at", "_law_sign", "_law_some", "_law_high", "_law_low_here"] ["_law_pool_here", "_law_sides_here"] (defScope s_l_bent) := ⟨rfl, rfl, rfl, by decide +kernel, rfl, by decide +kernel, by decide +kernel⟩
def sp_l_bent : SpT := fun ts S R _ => match ts with
  | [.cell p, x] => ∃ s : S4, x = d4T s ∧ s.ok 100 ∧ PoolT S p ∧ ∀ z S', TxS 2400 z → PS S p S' → R (.str z) S'
  | _ => False
set_option maxHeartbeats 3200000 in
theorem ok_l_bent {P : Program} {w : World} {K : PySem.W.Frag} {mg : Str → Option Value} {base : Heap} {f : Addr} {fd : FuncData} {g_l_draw g_l_shown : Addr} {gd_l_draw : FuncData} {gd_l_shown : FuncData} (F : Fun K "_law_bent" "_law_bent" s_l_bent f fd)
    (n_str : mg "str" = none)
    (n_len : mg "len" = none)
    (G_l_draw : FnT P w K mg base 1 g_l_draw gd_l_draw ["_law_pool_here", "_law_most"] sp_l_draw)
    (m_l_draw : mg "_law_draw" = some (.ref g_l_draw))
    (k_l_draw : PySem.W.keepIn K (.ref g_l_draw) = true)
    (b_l_draw : Binds K gd_l_draw ["_law_pool_here", "_law_most"] [])
    (G_l_shown : FnT P w K mg base 1 g_l_shown gd_l_shown ["_law_part_here"] sp_l_shown)
    (m_l_shown : mg "_law_shown" = some (.ref g_l_shown))
    (k_l_shown : PySem.W.keepIn K (.ref g_l_shown) = true)
    (b_l_shown : Binds K gd_l_shown ["_law_part_here"] [])
    : FnT P w K mg base 2 f fd ["_law_pool_here", "_law_sides_here"] sp_l_bent := by
  refine okT F sc_l_bent (by intro ts S R RE h; unfold sp_l_bent at h; split at h <;> first | rfl | exact h.elim) (fun cdv A out s H E hg hr => (bs_cons (ss_par (i := 2) (j := 3) (by rfl) sc_l_bent.nd rfl rfl (by decide) rfl rfl (at_cons (et_callD G_l_shown hg (hr.mono (by decide)) (by rfl) m_l_shown k_l_shown (CallD.all b_l_shown) (passL2N (L2N.takes_of rfl rfl rfl rfl)) (at_cons (et_ix ix_seq cv_ix (et_var (pv 1)) et_int (fun _ _ => rfl)) at_nil)) (at_cons (et_callD G_l_shown hg (hr.mono (by decide)) (by rfl) m_l_shown k_l_shown (CallD.all b_l_shown) (passL2N (L2N.takes_of rfl rfl rfl rfl)) (at_cons (et_ix ix_seq cv_ix (et_var (pv 1)) et_int (fun _ _ => rfl)) at_nil)) at_nil)) (by rfl))
    (bs_cons (ss_par (i := 4) (j := 5) (by rfl) sc_l_bent.nd rfl rfl (by decide) rfl rfl (at_cons (et_op op_addG cv_add (et_op op_addG cv_add (et_var (pv 2)) et_str) (et_var (pv 3))) (at_cons (et_op op_addG cv_add et_int (et_callD G_l_draw hg (hr.mono (by decide)) (by rfl) m_l_draw k_l_draw (CallD.all b_l_draw) (passL2N (L2N.takes_of rfl rfl rfl rfl)) (at_cons (et_var (pv 0)) (at_cons et_int at_nil)))) at_nil)) (by rfl))
    (bs_cons (ss_par (i := 6) (j := 7) (by rfl) sc_l_bent.nd rfl rfl (by decide) rfl rfl (at_cons (et_callD G_l_draw hg (hr.mono (by decide)) (by rfl) m_l_draw k_l_draw (CallD.all b_l_draw) (passL2N (L2N.takes_of rfl rfl rfl rfl)) (at_cons (et_var (pv 0)) (at_cons (et_op op_addG cv_add (et_blt call_len cv_len (by rfl) n_len PySem.boot_len (at_cons (et_var (pv 4)) at_nil)) et_int) at_nil))) (at_cons (et_ix ix_seq cv_ix et_str (et_callD G_l_draw hg (hr.mono (by decide)) (by rfl) m_l_draw k_l_draw (CallD.all b_l_draw) (passL2N (L2N.takes_of rfl rfl rfl rfl)) (at_cons (et_var (pv 0)) (at_cons et_int at_nil))) (fun _ _ => rfl)) at_nil)) (by rfl))
    (bs_cons (ss_set (i := 8) sc_l_bent.nd rfl (by first | exact Or.inl rfl | exact Or.inr rfl) (et_lst (at_cons (et_op op_addG cv_add (et_op op_addG cv_add (et_slice (et_var (pv 4)) ot_none (ot_some (et_var (pv 6)))) (et_var (pv 7))) (et_slice (et_var (pv 4)) (ot_some (et_var (pv 6))) ot_none)) (at_cons (et_op op_addG cv_add (et_slice (et_var (pv 4)) ot_none (ot_some (et_var (pv 6)))) (et_slice (et_var (pv 4)) (ot_some (et_op op_addG cv_add (et_var (pv 6)) et_int)) ot_none)) (at_cons (et_op op_addG cv_add (et_op op_addG cv_add (et_slice (et_var (pv 4)) ot_none (ot_some (et_var (pv 6)))) (et_var (pv 7))) (et_slice (et_var (pv 4)) (ot_some (et_op op_addG cv_add (et_var (pv 6)) et_int)) ot_none)) at_nil)))))
    (bs_cons (ss_set (i := 8) sc_l_bent.nd rfl (by first | exact Or.inl rfl | exact Or.inr rfl) (et_op op_addG cv_add (et_var (pv 8)) (et_lst (at_cons (et_op op_addG cv_add (et_op op_addG cv_add (et_var (pv 3)) et_str) (et_var (pv 2))) (at_cons (et_var (pv 2)) (at_cons (et_op op_addG cv_add et_str (et_var (pv 3))) (at_cons (et_op op_addG cv_add (et_var (pv 2)) et_str) (at_cons (et_op op_addG cv_add (et_op op_addG cv_add (et_var (pv 4)) et_str) (et_var (pv 3))) (at_cons (et_op op_addG cv_add (et_op op_addG cv_add (et_var (pv 2)) et_str) (et_var (pv 3))) at_nil)))))))))
    (bs_cons (ss_set (i := 8) sc_l_bent.nd rfl (by first | exact Or.inl rfl | exact Or.inr rfl) (et_op op_cat cv_addC (et_var (pv 8)) (et_lst (at_cons (et_op op_addG cv_add (et_op op_addG cv_add (et_var (pv 2)) et_str) (et_var (pv 3))) (at_cons (et_op op_addG cv_add (et_op op_addG cv_add (et_var (pv 2)) et_str) (et_var (pv 3))) at_nil)))))
    (bs_cons (ss_asg (et_ix ix_seq cv_ix (et_var (pv 1)) et_int (fun _ _ => rfl)) (gt_tup (n := 2) (by rfl) (gts_cons (gt_name (pg_name (i := 9) sc_l_bent.nd rfl (by first | exact Or.inl rfl | exact Or.inr rfl))) (gts_cons (gt_name (pg_name (i := 10) sc_l_bent.nd rfl (by first | exact Or.inl rfl | exact Or.inr rfl))) gts_nil))))
    (bs_cons (ss_expr (et_mut PySem.F.slot_list_append PySem.F.type_list_append mt_append cv_append (et_var (pv 8)) (at_cons (et_op op_addG cv_add (et_op op_addG cv_add (et_op op_addG cv_add (et_op op_addG cv_add (et_var (pv 2)) et_str) (et_typ call_str_int cv_strI (by rfl) n_str PyProof.Rows.boot_str (at_cons (et_op op_mulG cv_mul (et_var (pv 9)) (et_var (pv 5))) at_nil))) et_str) (et_typ call_str_int cv_strI (by rfl) n_str PyProof.Rows.boot_str (at_cons (et_op op_mulG cv_mul (et_var (pv 10)) (et_var (pv 5))) at_nil))) at_nil)))
    (bs_one (ss_ret (et_ix ix_seq cv_ix (et_frz (pv 8)) (et_callD G_l_draw hg (hr.mono (by decide)) (by rfl) m_l_draw k_l_draw (CallD.all b_l_draw) (passL2N (L2N.takes_of rfl rfl rfl rfl)) (at_cons (et_var (pv 0)) (at_cons et_int at_nil))) (fun _ _ => rfl))))))))))))) ?_
  intro ts S R RE h
  unfold sp_l_bent at h
  split at h
  · rename_i p x
    obtain ⟨s, rfl, o, hp, q⟩ := h
    have ow := o.w
    have oh := o.h
    refine sSeq_i fun N hN => ?_
    simp only [d4T, sp_l_shown, sPar, rVar, rC, rBin, aNil, aCons, rCall, kIx, startT, List.cons.injEq, Option.some.injEq, List.map_cons, List.map_nil, List.length_cons, List.length_nil, List.cons_append, List.nil_append, List.append_nil, List.getElem?_cons_zero, List.getElem?_cons_succ, List.set_cons_zero, List.set_cons_succ, List.replicate_succ, List.replicate_zero, exists_eq_left', exists_and_left, and_true, and_assoc, Nat.reduceAdd, Nat.reduceSub, Nat.zero_add, at_0, at_1]
    refine ⟨_, _, rfl, ow.up (by decide), _, _, rfl, oh.up (by decide), hN _ _ ?_⟩
    clear hN
    have tw := (TxS.fr (ow.up (m := 210) (by decide)))
    have tt := (TxS.fr (oh.up (m := 210) (by decide)))
    generalize frS s.a s.b = W at tw ⊢
    generalize frS s.c s.d = H at tt ⊢
    refine sSeq_i fun N hN => ?_
    simp only [sp_l_draw, sPar, rVar, rC, rBin, aNil, aCons, rCall, kAdd, List.cons.injEq, Option.some.injEq, List.append_nil, List.getElem?_cons_zero, List.getElem?_cons_succ, List.set_cons_zero, List.set_cons_succ, exists_eq_left', exists_and_left, and_true, and_assoc]
    have lW := tw.l
    have lH := tt.l
    have lx : ("x" : Str).length = 1 := by decide
    have sm : ∀ n : Nat, n ≤ 10000 → n ≤ sizeLine := fun n h => by rw [sizeLine_eq]; omega
    refine ⟨by rw [lx]; exact sm _ (by omega), by rw [sLen0, lx]; exact sm _ (by omega), hp, Pn.of (by decide) (by decide), fun m S1 m0 m1 p1 => hN _ _ ?_⟩
    clear hN
    have tx : TxS 1 ("x" : Str) := TxS.of (by decide) (by decide +kernel)
    have td := (tw.cat tx).cat tt
    generalize hD : W ++ Str.ofString "x" ++ H = D at td ⊢
    have lD := td.l
    refine sSeq_i fun N hN => ?_
    simp only [sp_l_draw, sPar, rVar, rC, rBin, aNil, aCons, rArgs, rCall, kAdd, kIx, kLen, lenT, List.cons.injEq, Option.some.injEq, List.append_nil, List.getElem?_cons_zero, List.getElem?_cons_succ, List.set_cons_zero, List.set_cons_succ, exists_eq_left', exists_and_left, and_true, and_assoc]
    refine ⟨_, if_pos (sm _ (by omega)), p1.pool, Pn.of (by omega) (by omega), fun i S2 i0 i1 p2 => ⟨p2.pool, Pn.of (by decide) (by decide), fun j S3 j0 j1 p3 => ?_⟩⟩
    have lt : j.toNat < ("0123456789/x -+.X" : Str).cps.toList.length := by
      have : ("0123456789/x -+.X" : Str).cps.toList.length = 17 := by decide
      omega
    refine ⟨by decide, _, (by rw [← Int.toNat_of_nonneg j0]; exact atI_nat (List.getElem?_eq_getElem lt)), hN _ _ ?_⟩
    clear hN
    have tg : TxS 1 (⟨#[("0123456789/x -+.X" : Str).cps.toList[j.toNat]'lt]⟩ : Str) := by
      refine ⟨Nat.le_refl _, fun c hc => ?_⟩
      have : c = ("0123456789/x -+.X" : Str).cps.toList[j.toNat]'lt := by simpa using hc
      rw [this]
      have all : (("0123456789/x -+.X" : Str).cps.toList.all fun c => decide (c < 16 ^ 8)) = true := by decide +kernel
      exact of_decide_eq_true (List.all_eq_true.mp all _ (List.getElem_mem lt))
    generalize (⟨#[("0123456789/x -+.X" : Str).cps.toList[j.toNat]'lt]⟩ : Str) = G at tg ⊢
    have lG := tg.l
    refine sSeq_i fun N hN => ?_
    simp only [sAsg, rLst, aCons, aNil, rBin, rSl, oNone, oSome, rVar, rC, kAdd_ss, kAdd_ii, kSl_s, ex_int, gNameT, List.getElem?_cons_zero, List.getElem?_cons_succ, Option.some.injEq, exists_eq_left', List.length_cons, List.length_nil, List.set_cons_zero, List.set_cons_succ]
    have t0 : ∀ lo hi, TxS 259 (cutS D lo hi) := fun lo hi => td.cut
    have z1 := (t0 none (some i)).l
    have z2 := (t0 (some i) none).l
    have z3 := (t0 (some (i + 1)) none).l
    have lc : ∀ a b : Str, (a ++ b).length = a.length + b.length := sLen0
    refine ⟨sm _ (by omega), sm _ (by omega), sm _ (by omega), sm _ (by rw [lc]; omega), sm _ (by omega), sm _ (by omega), sm _ (by omega), sm _ (by omega), sm _ (by omega), sm _ (by omega), sm _ (by rw [lc]; omega), by decide, hN _ _ ?_⟩
    clear hN
    have x1 : TxS 2400 (cutS D none (some i) ++ G ++ cutS D (some i) none) := (((t0 _ _).cat tg).cat (t0 _ _)).up (by decide)
    have x2 : TxS 2400 (cutS D none (some i) ++ cutS D (some (i + 1)) none) := ((t0 _ _).cat (t0 _ _)).up (by decide)
    have x3 : TxS 2400 (cutS D none (some i) ++ G ++ cutS D (some (i + 1)) none) := (((t0 _ _).cat tg).cat (t0 _ _)).up (by decide)
    generalize cutS D none (some i) ++ G ++ cutS D (some i) none = X1 at x1 ⊢
    generalize cutS D none (some i) ++ cutS D (some (i + 1)) none = X2 at x2 ⊢
    generalize cutS D none (some i) ++ G ++ cutS D (some (i + 1)) none = X3 at x3 ⊢
    clear z1 z2 z3 t0
    refine sSeq_i fun N hN => ?_
    simp only [kAdd_ll, sAsg, rLst, aCons, aNil, rBin, rVar, rC, kAdd_ss, gNameT, List.getElem?_cons_zero, List.getElem?_cons_succ, Option.some.injEq, exists_eq_left', List.nil_append, List.cons_append, List.length_cons, List.length_nil, List.set_cons_zero, List.set_cons_succ]
    have lx2 : (Str.ofString " x ").length = 3 := by decide
    have l1x : (Str.ofString "/1x").length = 3 := by decide
    have lX : (Str.ofString "X").length = 1 := by decide
    refine ⟨sm _ (by omega), sm _ (by rw [lc]; omega), sm _ (by omega), sm _ (by omega), sm _ (by omega), sm _ (by rw [lc]; omega), sm _ (by omega), sm _ (by rw [lc]; omega), by decide, by decide, hN _ _ ?_⟩
    clear hN
    refine sSeq_i fun N hN => ?_
    simp only [kAddC, sAsg, rLst, aCons, aNil, rBin, rVar, rC, kAdd_ss, gNameT, List.getElem?_cons_zero, List.getElem?_cons_succ, Option.some.injEq, exists_eq_left', List.nil_append, List.cons_append, List.length_cons, List.length_nil, List.set_cons_zero, List.set_cons_succ]
    refine ⟨sm _ (by omega), sm _ (by rw [lc]; omega), sm _ (by omega), sm _ (by rw [lc]; omega), by decide, by decide, fun a ha => hN _ _ ?_⟩
    clear hN
    refine sSeq_i fun N hN => ?_
    simp only [frT, sAsg, rVar, rC, rBin, gNameT, gNilT, gConsT, gTupT, kIx, T.tup.injEq, List.cons.injEq, Option.some.injEq, List.length_cons, List.length_nil, List.getElem?_cons_zero, List.getElem?_cons_succ, List.set_cons_zero, List.set_cons_succ, exists_eq_left', exists_and_left, true_and, and_assoc, Nat.reduceAdd, Nat.zero_add, at_1]
    refine hN _ _ ?_
    clear hN
    refine sSeq_i fun N hN => ?_
    simp only [rMut, sDrop, kMul, rArgs, kStrI, kAppend, aCons, aNil, rBin, rVar, rC, kAdd_ss, List.getElem?_cons_zero, List.getElem?_cons_succ, Option.some.injEq, exists_eq_left', and_assoc]
    have pm : Pn 4 (2 + m) := Pn.of (by omega) (by omega)
    have n1 : Pn 210 (s.c * (2 + m)) := (oh.a.mul pm).up (by decide)
    have n2 : Pn 210 (s.d * (2 + m)) := (oh.b.mul pm).up (by decide)
    have g1 := TxS.num n1
    have g2 := TxS.num n2
    have h1 : (Str.ofString (toString (s.c * (2 + m)))).length ≤ 64 := g1.l
    have h2 : (Str.ofString (toString (s.d * (2 + m)))).length ≤ 64 := g2.l
    have lsl : ("/" : Str).length = 1 := by decide
    have ly : (W ++ Str.ofString "x" ++ Str.ofString (toString (s.c * (2 + m))) ++ Str.ofString "/").length ≤ 200 := by rw [lc, lc, lc, lx, lsl]; omega
    refine ⟨a, rfl, ⟨_, put_same⟩, by rw [lx]; exact sm _ (by omega), oh.a.mulW pm, _, rfl, lg1920 n1 (by decide), sm _ (by rw [lc, lx]; omega), sm _ (by rw [lc, lc, lx, lsl]; omega), oh.b.mulW pm, _, rfl, lg1920 n2 (by decide), sm _ (by omega), _, put_same, _, rfl, by simp only [List.length_cons, List.length_nil]; rw [sizeLine_eq]; decide, hN _ _ ?_⟩
    clear hN
    have tX : TxS 1 ("X" : Str) := TxS.of (by decide) (by decide +kernel)
    have tbx : TxS 3 (" x " : Str) := TxS.of (by decide) (by decide +kernel)
    have t1x : TxS 3 ("/1x" : Str) := TxS.of (by decide) (by decide +kernel)
    have tsl : TxS 1 ("/" : Str) := TxS.of (by decide) (by decide +kernel)
    have all : ∀ x ∈ [T.str X1, T.str X2, T.str X3, T.str (H ++ Str.ofString "x" ++ W), T.str W, T.str (Str.ofString "x" ++ H), T.str (W ++ Str.ofString "x"), T.str (D ++ Str.ofString "x" ++ H), T.str (W ++ Str.ofString "X" ++ H), T.str (W ++ Str.ofString " x " ++ H), T.str (W ++ Str.ofString "/1x" ++ H)] ++ [T.str (W ++ Str.ofString "x" ++ Str.ofString (toString (s.c * (2 + m))) ++ Str.ofString "/" ++ Str.ofString (toString (s.d * (2 + m))))], ∃ z, x = .str z ∧ TxS 2400 z := by
      intro x hx
      simp only [List.cons_append, List.nil_append, List.mem_cons, List.not_mem_nil, or_false] at hx
      rcases hx with rfl | rfl | rfl | rfl | rfl | rfl | rfl | rfl | rfl | rfl | rfl | rfl
      · exact ⟨_, rfl, x1⟩
      · exact ⟨_, rfl, x2⟩
      · exact ⟨_, rfl, x3⟩
      · exact ⟨_, rfl, ((tt.cat tx).cat tw).up (by decide)⟩
      · exact ⟨_, rfl, tw.up (by decide)⟩
      · exact ⟨_, rfl, (tx.cat tt).up (by decide)⟩
      · exact ⟨_, rfl, (tw.cat tx).up (by decide)⟩
      · exact ⟨_, rfl, ((td.cat tx).cat tt).up (by decide)⟩
      · exact ⟨_, rfl, ((tw.cat tX).cat tt).up (by decide)⟩
      · exact ⟨_, rfl, ((tw.cat tbx).cat tt).up (by decide)⟩
      · exact ⟨_, rfl, ((tw.cat t1x).cat tt).up (by decide)⟩
      · exact ⟨_, rfl, ((((tw.cat tx).cat g1).cat tsl).cat g2).up (by decide)⟩
    generalize hL : [T.str X1, T.str X2, T.str X3, T.str (H ++ Str.ofString "x" ++ W), T.str W, T.str (Str.ofString "x" ++ H), T.str (W ++ Str.ofString "x"), T.str (D ++ Str.ofString "x" ++ H), T.str (W ++ Str.ofString "X" ++ H), T.str (W ++ Str.ofString " x " ++ H), T.str (W ++ Str.ofString "/1x" ++ H)] ++ [T.str (W ++ Str.ofString "x" ++ Str.ofString (toString (s.c * (2 + m))) ++ Str.ofString "/" ++ Str.ofString (toString (s.d * (2 + m))))] = L at all ⊢
    have lL : L.length = 12 := by rw [← hL]; rfl
    clear hL
    simp only [sp_l_draw, put_same, sRet, rVar, rFrz, rC, rBin, aNil, aCons, rCall, kIx, T.cell.injEq, Cell.lst.injEq, Option.some.injEq, List.append_nil, List.getElem?_cons_zero, List.getElem?_cons_succ, exists_eq_left', exists_and_left, put_put, put_same]
    rw [put_drop ha]
    refine ⟨p3.pool, Pn.of (by decide) (by decide), fun r S4 r0 r1 p4 => ?_⟩
    have lt : r.toNat < L.length := by omega
    obtain ⟨z, ez, tz⟩ := all _ (List.getElem_mem lt)
    refine ⟨_, (by rw [← Int.toNat_of_nonneg r0]; exact atI_nat (List.getElem?_eq_getElem lt)), ?_⟩
    rw [ez]
    exact q z _ tz (((p1.trans p2).trans p3).trans p4)
  · exact h.elim
theorem sv_s {K : PySem.W.Frag} {C : Addr} (z : String) (h : ((Str.ofString z).length ≤ 2400 ∧ ((Str.ofString z).cps.toList.all fun c => decide (c < 16 ^ 8)) = true) := by decide +kernel) : SaidV K C (.str (Str.ofString z)) := .str h.1 fun c m => of_decide_eq_true (List.all_eq_true.mp h.2 c m)
theorem sv_o {K : PySem.W.Frag} {C : Addr} {x : T} (o : OddV x) (n : isK x "str" = false) : SaidV K C x := by
  obtain ⟨d, e, s⟩ := o.d
  exact .dat e s (fun S => (o.v K S).v) n
theorem TxS.rep {n : Nat} {z : Str} (h : TxS n z) (k : Nat) : TxS (k * n) (repS z k) := by
  have e := repS_tl z k
  refine ⟨?_, fun c m => ?_⟩
  · show (repS z k).cps.size ≤ _
    rw [← Array.length_toList, e, List.length_flatten, List.map_replicate, List.sum_replicate_nat, Array.length_toList]
    exact Nat.mul_le_mul_left _ h.l
  · rw [e] at m
    obtain ⟨l, hl, hc⟩ := List.mem_flatten.mp m
    rw [List.eq_of_mem_replicate hl] at hc
    exact h.s c hc
theorem TxS.said {K : PySem.W.Frag} {C : Addr} {n : Nat} {z : Str} (h : TxS n z) (k : n ≤ 2400) : SaidV K C (.str z) := .str (Nat.le_trans h.l k) h.s
theorem Str.small (z : String) (h : (reprText (Str.ofString z)).length ≤ 3000 := by decide +kernel) : Leaf (.str (Str.ofString z)) := leaf_str h
theorem sc_l_by_hand : FnScope ["_law_bad", "_law_said", "_law_rows", "_law_row"] [] (defScope s_l_by_hand) := ⟨rfl, rfl, rfl, by decide +kernel, rfl, by decide +kernel, by decide +kernel⟩
def sp_l_hand (C : Addr) : SpT := fun ts S R _ => match ts with
  | [] => TabsIn T0 S ∧ ∀ S', TabsIn T0 S' → Grow S S' → R (.bl true) S'
  | _ => False
set_option maxHeartbeats 6400000 in
theorem ok_l_by_hand {P : Program} {w : World} {K : PySem.W.Frag} {mg : Str → Option Value} {base : Heap} {f : Addr} {fd : FuncData} {g_l_sides_right C_Size g_Size_init C_InvalidFraction g_l_read_right : Addr} {gd_l_sides_right : FuncData} {gd_Size_init : FuncData} {gd_l_read_right : FuncData} (F : Fun K "_law_by_hand" "_law_by_hand" s_l_by_hand f fd)
    (n_all : mg "all" = none)
    (G_l_sides_right : FnT P w K mg base 22 g_l_sides_right gd_l_sides_right ["_law_wide", "_law_tall"] (sp_l_sr K C_Size))
    (m_l_sides_right : mg "_law_sides_right" = some (.ref g_l_sides_right))
    (k_l_sides_right : PySem.W.keepIn K (.ref g_l_sides_right) = true)
    (b_l_sides_right : Binds K gd_l_sides_right ["_law_wide", "_law_tall"] [])
    (G_Size_init : FnT P w K mg base 6 g_Size_init gd_Size_init ["self", "width", "height"] (sp_Size_init K C_Size C_InvalidFraction))
    (b_Size_init : Binds K gd_Size_init ["self", "width", "height"] [])
    (G_l_read_right : FnT P w K mg base 24 g_l_read_right gd_l_read_right ["_law_said"] (sp_l_rr K C_Size))
    (m_l_read_right : mg "_law_read_right" = some (.ref g_l_read_right))
    (k_l_read_right : PySem.W.keepIn K (.ref g_l_read_right) = true)
    (b_l_read_right : Binds K gd_l_read_right ["_law_said"] [])
    (m_Size : mg "Size" = some (.ref C_Size))
    (M_Size : Mk K C_Size g_Size_init)
    (is_Size : InsC K C_Size)
    (kt_Size_int : PySem.W.kitOne K (.ref C_Size) (.type "int") = some false)
    (kt_Size_bool : PySem.W.kitOne K (.ref C_Size) (.type "bool") = some false)
    (kt_Size_str : PySem.W.kitOne K (.ref C_Size) (.type "str") = some false)
    (kt_Size_tuple : PySem.W.kitOne K (.ref C_Size) (.type "tuple") = some false)
    (kt_Size_list : PySem.W.kitOne K (.ref C_Size) (.type "list") = some false)
    : FnT P w K mg base 26 f fd [] (sp_l_hand C_Size) := by
  refine okT F sc_l_by_hand (by intro ts S R RE h; unfold sp_l_hand at h; split at h <;> first | rfl | exact h.elim) (fun cdv A out s H E hg hr => (bs_cons (ss_set (i := 0) sc_l_by_hand.nd rfl (by first | exact Or.inl rfl | exact Or.inr rfl) (et_lst (at_cons et_str (at_cons et_str (at_cons et_str (at_cons et_str (at_cons et_str (at_cons et_str (at_cons et_str (at_cons et_str (at_cons et_str (at_cons et_str (at_cons et_str (at_cons et_str (at_cons et_str (at_cons et_str (at_cons et_str at_nil)))))))))))))))))
    (bs_cons (ss_set (i := 0) sc_l_by_hand.nd rfl (by first | exact Or.inl rfl | exact Or.inr rfl) (et_op op_cat cv_addC (et_var (pv 0)) (et_lst (at_cons et_str (at_cons et_str (at_cons et_str (at_cons et_str (at_cons et_str (at_cons et_str (at_cons et_non (at_cons et_int (at_cons et_bl (at_cons (et_tup (at_cons et_int (at_cons et_int at_nil))) (at_cons (et_tup (at_cons et_str at_nil)) (at_cons (et_lst at_nil) (at_cons et_dct (at_cons (et_lst (at_cons et_str at_nil)) at_nil)))))))))))))))))
    (bs_cons (ss_expr (et_mut PySem.F.slot_list_append PySem.F.type_list_append mt_append cv_append (et_var (pv 0)) (at_cons (et_make M_Size G_Size_init hg (hr.mono (by decide)) (by rfl) m_Size (CallD.all b_Size_init) (passL2N (L2N.takes_of rfl rfl rfl rfl)) (at_cons et_int (at_cons et_int at_nil))) at_nil)))
    (bs_cons (ss_if (tt_not (tt_val (et_blt (cr_all (by rfl)) cv_all (by rfl) n_all (by decide +kernel) (at_cons (et_lc (x := "_law_said") (j := 1) (by rfl) sc_l_by_hand.nd (it_seq (et_op op_addG cv_add (et_frz (pv 0)) (et_lst (at_cons et_str (at_cons et_str (at_cons et_str (at_cons (et_op op_addG cv_add (et_op op_addG cv_add (et_op op_mulS cv_mulS et_str et_int) et_str) (et_op op_mulS cv_mulS et_str et_int)) at_nil))))))) (blkOk_by (own := [("_law_said", 1)]) (N := ["_law_bad", "_law_said", "_law_rows", "_law_row"]) (sc := defScope s_l_by_hand) (by decide +kernel)) (fun _ _ _ _ _ => pg_name (i := 1) sc_l_by_hand.nd rfl (by first | exact Or.inl rfl | exact Or.inr rfl)) (fun _ _ _ _ _ => tts_nil) (fun _ _ _ _ _ => (et_callD G_l_read_right hg (hr.mono (by decide)) (by rfl) m_l_read_right k_l_read_right (CallD.all b_l_read_right) passN (at_cons (et_var (pv 1)) at_nil)))) at_nil)))) (bs_one (ss_ret et_bl)) bs_nil)
    (bs_cons (ss_set (i := 2) sc_l_by_hand.nd rfl (by first | exact Or.inl rfl | exact Or.inr rfl) (et_lst (at_cons (et_tup (at_cons et_int (at_cons et_int at_nil))) (at_cons (et_tup (at_cons et_bl (at_cons et_int at_nil))) (at_cons (et_tup (at_cons et_int (at_cons et_bl at_nil))) (at_cons (et_tup (at_cons (et_tup (at_cons et_int (at_cons et_int at_nil))) (at_cons (et_tup (at_cons et_int (at_cons et_int at_nil))) at_nil))) (at_cons (et_tup (at_cons (et_tup (at_cons et_int (at_cons et_int at_nil))) (at_cons (et_tup (at_cons et_int (at_cons et_int at_nil))) at_nil))) (at_cons (et_tup (at_cons (et_tup (at_cons et_int (at_cons et_bl at_nil))) (at_cons et_int at_nil))) (at_cons (et_tup (at_cons et_int (at_cons et_non at_nil))) (at_cons (et_tup (at_cons et_non (at_cons et_int at_nil))) at_nil))))))))))
    (bs_cons (ss_set (i := 2) sc_l_by_hand.nd rfl (by first | exact Or.inl rfl | exact Or.inr rfl) (et_op op_addG cv_add (et_var (pv 2)) (et_lst (at_cons (et_tup (at_cons et_int (at_cons (et_neg et_int) at_nil))) (at_cons (et_tup (at_cons et_str (at_cons et_int at_nil))) (at_cons (et_tup (at_cons et_int (at_cons et_str at_nil))) (at_cons (et_tup (at_cons (et_lst (at_cons et_int (at_cons et_int at_nil))) (at_cons et_int at_nil))) (at_cons (et_tup (at_cons et_dct (at_cons (et_lst at_nil) at_nil))) (at_cons (et_tup (at_cons (et_lst at_nil) (at_cons et_dct at_nil))) (at_cons (et_tup (at_cons (et_tup (at_cons et_int (at_cons et_int (at_cons et_int at_nil)))) (at_cons (et_tup at_nil) at_nil))) (at_cons (et_tup (at_cons (et_make M_Size G_Size_init hg (hr.mono (by decide)) (by rfl) m_Size (CallD.all b_Size_init) (passL2N (L2N.takes_of rfl rfl rfl rfl)) (at_cons et_int (at_cons et_int at_nil))) (at_cons et_int at_nil))) at_nil)))))))))))
    (bs_cons (ss_set (i := 2) sc_l_by_hand.nd rfl (by first | exact Or.inl rfl | exact Or.inr rfl) (et_op op_addG cv_add (et_var (pv 2)) (et_lst (at_cons (et_tup (at_cons et_int (at_cons et_bl at_nil))) (at_cons (et_tup (at_cons et_int (at_cons et_int at_nil))) at_nil)))))
    (bs_one (ss_ret (et_blt (cr_all (by rfl)) cv_all (by rfl) n_all (by decide +kernel) (at_cons (et_lc (x := "_law_row") (j := 3) (by rfl) sc_l_by_hand.nd (it_seq (et_var (pv 2))) (blkOk_by (own := [("_law_row", 3)]) (N := ["_law_bad", "_law_said", "_law_rows", "_law_row"]) (sc := defScope s_l_by_hand) (by decide +kernel)) (fun _ _ _ _ _ => pg_name (i := 3) sc_l_by_hand.nd rfl (by first | exact Or.inl rfl | exact Or.inr rfl)) (fun _ _ _ _ _ => tts_nil) (fun _ _ _ _ _ => (et_callD G_l_sides_right hg (hr.mono (by decide)) (by rfl) m_l_sides_right k_l_sides_right (CallD.all b_l_sides_right) passN (at_cons (et_ix ix_seq cv_ix (et_var (pv 3)) et_int (fun _ _ => rfl)) (at_cons (et_ix ix_seq cv_ix (et_var (pv 3)) et_int (fun _ _ => rfl)) at_nil))))) at_nil)))))))))))) ?_
  intro ts S R RE h
  unfold sp_l_hand at h
  split at h
  · obtain ⟨tin, q⟩ := h
    have VS : ∀ (s : S4) (S : Store), ValT K S (s.t C_Size) := fun s S => ⟨_, .ins is_Size, by
      intro n m
      simp only [kindsT, List.mem_cons, List.not_mem_nil, or_false] at m
      rcases m with rfl | rfl | rfl | rfl | rfl <;> assumption⟩
    refine sSeq_i fun N hN => ?_
    simp only [sAsg, rC, aNil, aCons, rLst, gNameT, startT, List.map_nil, List.length_cons, List.length_nil, List.nil_append, List.set_cons_zero, List.replicate_succ, List.replicate_zero, Nat.reduceAdd, Nat.reduceSub, Nat.zero_add]
    refine ⟨by decide, hN _ _ ?_⟩
    clear hN
    refine sSeq_i fun N hN => ?_
    simp only [sAsg, rVar, rC, rBin, aNil, aCons, rTup, rLst, gNameT, kAddC, rDct, Option.some.injEq, List.length_cons, List.length_nil, List.cons_append, List.nil_append, List.getElem?_cons_zero, List.set_cons_zero, exists_eq_left', Nat.reduceAdd, Nat.zero_add]
    repeat refine ⟨by decide, ?_⟩
    refine fun p hp => hN _ _ ?_
    clear hN
    refine sSeq_i fun N hN => ?_
    simp only [put_same, sDrop, rVar, rC, aNil, aCons, rMake, rMut, kAppend, T.cell.injEq, Cell.lst.injEq, List.cons.injEq, Option.some.injEq, List.append_nil, List.getElem?_cons_zero, exists_eq_left', and_true, put_same]
    have s1 : ∀ k : Int, 0 < k → k < 100 → Side 8000 (.int k) k 1 := fun k h0 h1 => .int (Pn.up (Pn.of (n := 7) h0 (by omega)) (by decide))
    refine ⟨⟨_, rfl⟩, fun u hu => ⟨put_same, .inl ⟨8, 1, 9, 1, s1 8 (by decide) (by decide), s1 9 (by decide) (by decide), rfl, _, put_same, ?_⟩⟩⟩
    rw [put_put, put_drop hu]
    refine ⟨_, put_same, by simp only [List.length_cons, List.length_nil]; rw [sizeLine_eq]; decide, hN _ _ ?_⟩
    clear hN
    have li : ∀ k : Int, k.natAbs < 100 → Leaf (.int k) := fun k h => leaf_int (Nat.lt_of_lt_of_le h (by decide +kernel))
    have o1 : ∀ a b : Int, 0 < a → a < 50 → 0 < b → b < 50 → gcdI a b = 1 → Fr 8000 a b := fun a b a0 a1 b0 b1 g => ⟨Pn.up (Pn.of (n := 7) a0 (by omega)) (by decide), Pn.up (Pn.of (n := 7) b0 (by omega)) (by decide), g⟩
    have rows : ∀ x ∈ [T.str (Str.ofString ""), T.str (Str.ofString "x"), T.str (Str.ofString "8"), T.str (Str.ofString "8x"), T.str (Str.ofString "x9"), T.str (Str.ofString "0x1"), T.str (Str.ofString "1x0"), T.str (Str.ofString "8x9x10"), T.str (Str.ofString "8 x9"), T.str (Str.ofString "8x 9"), T.str (Str.ofString "8X9"), T.str (Str.ofString "08x9"), T.str (Str.ofString "8x2/4"), T.str (Str.ofString "8/1x9"), T.str (Str.ofString "-8x9"), T.str (Str.ofString "8*9"), T.str (Str.ofString "8x9/2x"), T.str (Str.ofString "(8, 9)"), T.str (Str.ofString "8,9"), T.str (Str.ofString "8x9.5"), T.str (Str.ofString "8x9 "), T.non, T.int 8, T.bl true, T.tup [T.int 8, T.int 9], T.tup [T.str (Str.ofString "8x9")], T.lst [], T.dct, T.lst [T.str (Str.ofString "8x9")]] ++ [T.ins C_Size (szF 8 1 9 1)], SaidV K C_Size x := by
      simp only [List.cons_append, List.nil_append]
      refine List.forall_mem_cons.mpr ⟨sv_s "", ?_⟩
      refine List.forall_mem_cons.mpr ⟨sv_s "x", ?_⟩
      refine List.forall_mem_cons.mpr ⟨sv_s "8", ?_⟩
      refine List.forall_mem_cons.mpr ⟨sv_s "8x", ?_⟩
      refine List.forall_mem_cons.mpr ⟨sv_s "x9", ?_⟩
      refine List.forall_mem_cons.mpr ⟨sv_s "0x1", ?_⟩
      refine List.forall_mem_cons.mpr ⟨sv_s "1x0", ?_⟩
      refine List.forall_mem_cons.mpr ⟨sv_s "8x9x10", ?_⟩
      refine List.forall_mem_cons.mpr ⟨sv_s "8 x9", ?_⟩
      refine List.forall_mem_cons.mpr ⟨sv_s "8x 9", ?_⟩
      refine List.forall_mem_cons.mpr ⟨sv_s "8X9", ?_⟩
      refine List.forall_mem_cons.mpr ⟨sv_s "08x9", ?_⟩
      refine List.forall_mem_cons.mpr ⟨sv_s "8x2/4", ?_⟩
      refine List.forall_mem_cons.mpr ⟨sv_s "8/1x9", ?_⟩
      refine List.forall_mem_cons.mpr ⟨sv_s "-8x9", ?_⟩
      refine List.forall_mem_cons.mpr ⟨sv_s "8*9", ?_⟩
      refine List.forall_mem_cons.mpr ⟨sv_s "8x9/2x", ?_⟩
      refine List.forall_mem_cons.mpr ⟨sv_s "(8, 9)", ?_⟩
      refine List.forall_mem_cons.mpr ⟨sv_s "8,9", ?_⟩
      refine List.forall_mem_cons.mpr ⟨sv_s "8x9.5", ?_⟩
      refine List.forall_mem_cons.mpr ⟨sv_s "8x9 ", ?_⟩
      refine List.forall_mem_cons.mpr ⟨sv_o (odd_leaf leaf_non fun l e => (by cases e)) rfl, ?_⟩
      refine List.forall_mem_cons.mpr ⟨sv_o (odd_leaf (li 8 (by decide)) fun l e => (by cases e)) rfl, ?_⟩
      refine List.forall_mem_cons.mpr ⟨sv_o (odd_leaf leaf_bl fun l e => (by cases e)) rfl, ?_⟩
      refine List.forall_mem_cons.mpr ⟨sv_o (odd_tup (two_mem (li 8 (by decide)) (li 9 (by decide))) (by decide)) rfl, ?_⟩
      refine List.forall_mem_cons.mpr ⟨sv_o (odd_tup (one_mem (Str.small "8x9")) (by decide)) rfl, ?_⟩
      refine List.forall_mem_cons.mpr ⟨sv_o (odd_lst (fun _ m => nomatch m) (by decide)) rfl, ?_⟩
      refine List.forall_mem_cons.mpr ⟨sv_o (odd_leaf leaf_dct fun l e => (by cases e)) rfl, ?_⟩
      refine List.forall_mem_cons.mpr ⟨sv_o (odd_lst (one_mem (Str.small "8x9")) (by decide)) rfl, ?_⟩
      exact List.forall_mem_cons.mpr ⟨.sz ⟨8, 1, 9, 1⟩ ⟨Fr.of (Pn.of (by decide) (by decide)), Fr.of (Pn.of (by decide) (by decide))⟩ (VS ⟨8, 1, 9, 1⟩), fun _ m => nomatch m⟩
    generalize hl : [T.str (Str.ofString ""), T.str (Str.ofString "x"), T.str (Str.ofString "8"), T.str (Str.ofString "8x"), T.str (Str.ofString "x9"), T.str (Str.ofString "0x1"), T.str (Str.ofString "1x0"), T.str (Str.ofString "8x9x10"), T.str (Str.ofString "8 x9"), T.str (Str.ofString "8x 9"), T.str (Str.ofString "8X9"), T.str (Str.ofString "08x9"), T.str (Str.ofString "8x2/4"), T.str (Str.ofString "8/1x9"), T.str (Str.ofString "-8x9"), T.str (Str.ofString "8*9"), T.str (Str.ofString "8x9/2x"), T.str (Str.ofString "(8, 9)"), T.str (Str.ofString "8,9"), T.str (Str.ofString "8x9.5"), T.str (Str.ofString "8x9 "), T.non, T.int 8, T.bl true, T.tup [T.int 8, T.int 9], T.tup [T.str (Str.ofString "8x9")], T.lst [], T.dct, T.lst [T.str (Str.ofString "8x9")]] ++ [T.ins C_Size (szF 8 1 9 1)] = l at rows ⊢
    have ll : l.length = 30 := by rw [← hl]; rfl
    clear hl
    refine sSeq_i fun N hN => sIf_i fun A B hA hB => ?_
    simp only [kMulS, kAdd_ss, put_same, rFrz, rC, rBin, rTest, bNot, aNil, aCons, rLst, rArgs, iSeq, rLc, kAll, seqOf, T.int.injEq, T.bl.injEq, T.str.injEq, T.lst.injEq, T.cell.injEq, Cell.lst.injEq, List.cons.injEq, Option.some.injEq, List.length_cons, List.length_nil, List.getElem?_cons_zero, List.set_cons_zero, List.set_cons_succ, exists_eq_left', exists_and_left, and_true, Nat.reduceAdd, Nat.zero_add, put_put, put_same]
    rw [put_drop hp]
    have t9 : TxS 999 (repS (Str.ofString "9") (Int.toNat 999)) := (TxS.of (n := 1) (by decide) (by decide +kernel) : TxS 1 (Str.ofString "9")).rep 999
    have t1 : TxS 1000 (repS (Str.ofString "1") (Int.toNat 1000)) := (TxS.of (n := 1) (by decide) (by decide +kernel) : TxS 1 (Str.ofString "1")).rep 1000
    have tx : TxS 1 ("x" : Str) := TxS.of (by decide) (by decide +kernel)
    have t2 := (t9.cat tx).cat t1
    have l9 := t9.l
    have l1 := t1.l
    have lx : ("x" : Str).length = 1 := by decide
    have lc : ∀ a b : Str, (a ++ b).length = a.length + b.length := sLen0
    generalize repS (Str.ofString "9") (Int.toNat 999) = X9 at t9 t2 l9 ⊢
    generalize repS (Str.ofString "1") (Int.toNat 1000) = X1 at t1 t2 l1 ⊢
    refine ⟨by decide, by decide, by decide, by decide, by rw [lx, sizeLine_eq]; omega, by decide, by decide, by decide, by decide, by rw [lc, lx, sizeLine_eq]; omega, by decide, ?_⟩
    refine ⟨by rw [ll, sizeLine_eq]; simp, _, rfl, ?_⟩
    have rows2 : ∀ x ∈ l ++ [T.str (Str.ofString "8x9"), T.str (Str.ofString "8x9/2"), T.str (Str.ofString "1/2x1/2"), T.str (X9 ++ Str.ofString "x" ++ X1)], SaidV K C_Size x := by
      intro x hx
      rcases List.mem_append.mp hx with hx | hx
      · exact rows x hx
      · simp only [List.mem_cons, List.not_mem_nil, or_false] at hx
        rcases hx with rfl | rfl | rfl | rfl
        · exact sv_s "8x9"
        · exact sv_s "8x9/2"
        · exact sv_s "1/2x1/2"
        · exact t2.said (by decide)
    refine rComp_all (fun _ S2 => S2 = S) (fun _ _ y => y = .bl true) rfl (by rw [List.length_append, ll, sizeLine_eq]; simp) ?_ ?_
    · rintro i t' S7 hi' rfl N3 hN3
      simp only [sp_l_rr, rVar, aNil, aCons, rCall, Option.some.injEq, List.append_nil, List.getElem?_cons_zero, List.getElem?_cons_succ, exists_eq_left']
      exact ⟨rows2 t' (List.mem_of_getElem? hi'), tin, hN3 _ _ rfl rfl⟩
    rintro bs S7 hbs hG rfl
    obtain ⟨a1, a2⟩ := allT hbs hG
    refine ⟨_, a1, ?_⟩
    rw [a2, if_neg (by decide)]
    refine hB _ (hN _ _ ?_)
    clear hN hA hB hG hbs a1 a2
    refine sSeq_i fun N hN => ?_
    simp only [sAsg, rC, aNil, aCons, rTup, rLst, gNameT, List.length_cons, List.length_nil, List.set_cons_zero, List.set_cons_succ, Nat.reduceAdd, Nat.zero_add]
    repeat refine ⟨by decide, ?_⟩
    refine hN _ _ ?_
    clear hN
    refine sSeq_i fun N hN => ?_
    simp only [sAsg, rVar, rC, rBin, rNeg, aNil, aCons, rTup, rLst, gNameT, rMake, rDct, kAdd, T.int.injEq, Option.some.injEq, List.length_cons, List.length_nil, List.cons_append, List.nil_append, List.append_nil, List.getElem?_cons_zero, List.getElem?_cons_succ, List.set_cons_zero, List.set_cons_succ, exists_eq_left', Nat.reduceAdd, Nat.zero_add]
    repeat refine ⟨by decide, ?_⟩
    refine fun u hu => ⟨put_same, .inl ⟨1, 1, 1, 1, s1 1 (by decide) (by decide), s1 1 (by decide) (by decide), rfl, _, put_same, ?_⟩⟩
    rw [put_put, put_drop hu]
    repeat refine ⟨by decide, ?_⟩
    refine hN _ _ ?_
    clear hN
    refine sSeq_i fun N hN => ?_
    simp only [sAsg, rVar, rC, rBin, aNil, aCons, rTup, rLst, gNameT, kAdd, Option.some.injEq, List.length_cons, List.length_nil, List.cons_append, List.nil_append, List.getElem?_cons_zero, List.getElem?_cons_succ, List.set_cons_zero, List.set_cons_succ, exists_eq_left', Nat.reduceAdd, Nat.zero_add]
    repeat refine ⟨by decide, ?_⟩
    refine hN _ _ ?_
    clear hN
    have sI : ∀ k : Int, k.natAbs < 100 → SideV K C_Size (.int k) := fun k h => (odd_int (Nat.lt_of_lt_of_le h (by decide +kernel))).side
    have sB : ∀ b : Bool, SideV K C_Size (.bl b) := fun b => (odd_leaf leaf_bl fun l e => (by cases e)).side
    have sN : SideV K C_Size .non := (odd_leaf leaf_non fun l e => (by cases e)).side
    have sD : SideV K C_Size .dct := (odd_leaf leaf_dct fun l e => (by cases e)).side
    have s2 : ∀ a b : Int, a.natAbs < 100 → b.natAbs < 100 → SideV K C_Size (.tup [.int a, .int b]) := fun a b h k => (odd_tup (two_mem (li a h) (li b k)) (by simp)).side
    have sZ : SideV K C_Size (.ins C_Size (szF 1 1 1 1)) := by
      refine ⟨fun S => ⟨VS ⟨1, 1, 1, 1⟩ S, fun _ e => (by cases e), fun _ _ e => (by cases e)⟩, fun g => (by cases g), ?_⟩
      have o : (⟨1, 1, 1, 1⟩ : S4).ok 1900 := ⟨Fr.of (Pn.of (by decide) (by decide)), Fr.of (Pn.of (by decide) (by decide))⟩
      exact ⟨S4.rep ⟨1, 1, 1, 1⟩, fun S' R RE q => ⟨.inr ⟨_, C_Size, _, _, rfl, rfl, ⟨rfl, rfl⟩, ⟨1, 1, 1, 1⟩, rfl, o, ⟨_, rfl⟩, q⟩, .inr ⟨_, C_Size, _, _, rfl, rfl, ⟨rfl, rfl⟩, ⟨1, 1, 1, 1⟩, rfl, Sz.up o (by decide), ⟨_, rfl⟩, q⟩⟩⟩
    have rows3 : ∀ x ∈ [T.tup [T.int 1, T.int 1], T.tup [T.bl true, T.int 1], T.tup [T.int 1, T.bl true], T.tup [T.tup [T.int 1, T.int 2], T.tup [T.int 1, T.int 2]], T.tup [T.tup [T.int 1, T.int 2], T.tup [T.int 2, T.int 4]], T.tup [T.tup [T.int 1, T.bl true], T.int 1], T.tup [T.int 0, T.non], T.tup [T.non, T.int 0], T.tup [T.int 1, T.int (-1)], T.tup [T.str (Str.ofString "8"), T.int 9], T.tup [T.int 8, T.str (Str.ofString "9")], T.tup [T.lst [T.int 1, T.int 2], T.int 1], T.tup [T.dct, T.lst []], T.tup [T.lst [], T.dct], T.tup [T.tup [T.int 1, T.int 2, T.int 3], T.tup []], T.tup [T.ins C_Size (szF 1 1 1 1), T.int 1], T.tup [T.int 1, T.bl false], T.tup [T.int 1, T.int 1]], ∃ a b, x = .tup [a, b] ∧ SideV K C_Size a ∧ SideV K C_Size b := by
      refine List.forall_mem_cons.mpr ⟨⟨_, _, rfl, sI 1 (by decide), sI 1 (by decide)⟩, ?_⟩
      refine List.forall_mem_cons.mpr ⟨⟨_, _, rfl, sB _, sI 1 (by decide)⟩, ?_⟩
      refine List.forall_mem_cons.mpr ⟨⟨_, _, rfl, sI 1 (by decide), sB _⟩, ?_⟩
      refine List.forall_mem_cons.mpr ⟨⟨_, _, rfl, s2 1 2 (by decide) (by decide), s2 1 2 (by decide) (by decide)⟩, ?_⟩
      refine List.forall_mem_cons.mpr ⟨⟨_, _, rfl, s2 1 2 (by decide) (by decide), s2 2 4 (by decide) (by decide)⟩, ?_⟩
      refine List.forall_mem_cons.mpr ⟨⟨_, _, rfl, (odd_tup (two_mem (li 1 (by decide)) leaf_bl) (by simp)).side, sI 1 (by decide)⟩, ?_⟩
      refine List.forall_mem_cons.mpr ⟨⟨_, _, rfl, sI 0 (by decide), sN⟩, ?_⟩
      refine List.forall_mem_cons.mpr ⟨⟨_, _, rfl, sN, sI 0 (by decide)⟩, ?_⟩
      refine List.forall_mem_cons.mpr ⟨⟨_, _, rfl, sI 1 (by decide), sI (-1) (by decide)⟩, ?_⟩
      refine List.forall_mem_cons.mpr ⟨⟨_, _, rfl, (odd_leaf (Str.small "8") fun l e => (by cases e)).side, sI 9 (by decide)⟩, ?_⟩
      refine List.forall_mem_cons.mpr ⟨⟨_, _, rfl, sI 8 (by decide), (odd_leaf (Str.small "9") fun l e => (by cases e)).side⟩, ?_⟩
      refine List.forall_mem_cons.mpr ⟨⟨_, _, rfl, (odd_lst (two_mem (li 1 (by decide)) (li 2 (by decide))) (by simp)).side, sI 1 (by decide)⟩, ?_⟩
      refine List.forall_mem_cons.mpr ⟨⟨_, _, rfl, sD, (odd_lst (l := []) (fun _ m => nomatch m) (by simp)).side⟩, ?_⟩
      refine List.forall_mem_cons.mpr ⟨⟨_, _, rfl, (odd_lst (l := []) (fun _ m => nomatch m) (by simp)).side, sD⟩, ?_⟩
      refine List.forall_mem_cons.mpr ⟨⟨_, _, rfl, (odd_tup (List.forall_mem_cons.mpr ⟨li 1 (by decide), two_mem (li 2 (by decide)) (li 3 (by decide))⟩) (by simp)).side, (odd_tup (l := []) (fun _ m => nomatch m) (by simp)).side⟩, ?_⟩
      refine List.forall_mem_cons.mpr ⟨⟨_, _, rfl, sZ, sI 1 (by decide)⟩, ?_⟩
      refine List.forall_mem_cons.mpr ⟨⟨_, _, rfl, sI 1 (by decide), sB _⟩, ?_⟩
      exact List.forall_mem_cons.mpr ⟨⟨_, _, rfl, sI 1 (by decide), sI 1 (by decide)⟩, fun _ m => nomatch m⟩
    generalize hl : [T.tup [T.int 1, T.int 1], T.tup [T.bl true, T.int 1], T.tup [T.int 1, T.bl true], T.tup [T.tup [T.int 1, T.int 2], T.tup [T.int 1, T.int 2]], T.tup [T.tup [T.int 1, T.int 2], T.tup [T.int 2, T.int 4]], T.tup [T.tup [T.int 1, T.bl true], T.int 1], T.tup [T.int 0, T.non], T.tup [T.non, T.int 0], T.tup [T.int 1, T.int (-1)], T.tup [T.str (Str.ofString "8"), T.int 9], T.tup [T.int 8, T.str (Str.ofString "9")], T.tup [T.lst [T.int 1, T.int 2], T.int 1], T.tup [T.dct, T.lst []], T.tup [T.lst [], T.dct], T.tup [T.tup [T.int 1, T.int 2, T.int 3], T.tup []], T.tup [T.ins C_Size (szF 1 1 1 1), T.int 1], T.tup [T.int 1, T.bl false], T.tup [T.int 1, T.int 1]] = l3 at rows3 ⊢
    have l18 : l3.length = 18 := by rw [← hl]; rfl
    clear hl
    simp only [sRet, rVar, aNil, aCons, rArgs, iSeq, rLc, kAll, seqOf, T.lst.injEq, List.cons.injEq, Option.some.injEq, List.getElem?_cons_zero, List.getElem?_cons_succ, List.set_cons_zero, List.set_cons_succ, exists_eq_left', and_true]
    refine rComp_all (fun _ S2 => TabsIn T0 S2 ∧ Grow S7 S2) (fun _ _ y => y = .bl true) ⟨tin, Grow.refl⟩ (by rw [l18, sizeLine_eq]; decide) ?_ ?_
    · rintro i t' S8 hi' ⟨t8, g8⟩ N3 hN3
      obtain ⟨a, b, rfl, ha, hb⟩ := rows3 t' (List.mem_of_getElem? hi')
      simp only [sp_l_sr, rVar, rC, rBin, aNil, aCons, rCall, kIx, Option.some.injEq, List.append_nil, List.getElem?_cons_zero, List.getElem?_cons_succ, exists_eq_left', exists_and_left, at_0, at_1]
      exact ⟨ha, hb, t8, fun S9 t9 g9 => hN3 _ _ rfl ⟨t9, g8.trans g9⟩⟩
    rintro bs S8 hbs hG ⟨t8, g8⟩
    obtain ⟨a1, a2⟩ := allT hbs hG
    refine ⟨_, a1, ?_⟩
    rw [a2]
    exact q _ t8 g8
  · exact h.elim
theorem PoolT.grow {S S' : Store} {p : Addr} (h : PoolT S p) (g : Grow S S') : PoolT S' p := by
  obtain ⟨x, d, c, e, r⟩ := h
  exact ⟨x, d, c, g _ _ e, r⟩
theorem fr_odd {a b : Int} (f : Fr 100 a b) : OddV (frT a b) := odd_tup (two_mem (leaf_int (f.a.up (m := 200) (by decide)).lt) (leaf_int (f.b.up (m := 200) (by decide)).lt)) (by simp)
theorem sc_l_right : FnScope ["_law_pool_here", "_law_turn", "_law_sides_here", "_law_go", "_law_wide", "_law_tall", "_law_pairs", "_law_pair"] ["_law_pool_here"] (defScope s_l_right) := ⟨rfl, rfl, rfl, by decide +kernel, rfl, by decide +kernel, by decide +kernel⟩
def sp_l_right9 (C : Addr) : SpT := fun ts S R _ => match ts with
  | [.cell p] => PoolT S p ∧ TabsIn T0 S ∧ ∀ S', TabsIn T0 S' → R (.bl true) S'
  | _ => False
set_option maxHeartbeats 6400000 in
theorem ok_l_right {P : Program} {w : World} {K : PySem.W.Frag} {mg : Str → Option Value} {base : Heap} {f : Addr} {fd : FuncData} {g_l_sides_right C_Size g_l_odd g_l_read_right g_l_bent g_l_shown g_l_sides : Addr} {gd_l_sides_right : FuncData} {gd_l_odd : FuncData} {gd_l_read_right : FuncData} {gd_l_bent : FuncData} {gd_l_shown : FuncData} {gd_l_sides : FuncData} (F : Fun K "_law_right" "_law_right" s_l_right f fd)
    (n_range : mg "range" = none)
    (n_all : mg "all" = none)
    (G_l_sides_right : FnT P w K mg base 22 g_l_sides_right gd_l_sides_right ["_law_wide", "_law_tall"] (sp_l_sr K C_Size))
    (m_l_sides_right : mg "_law_sides_right" = some (.ref g_l_sides_right))
    (k_l_sides_right : PySem.W.keepIn K (.ref g_l_sides_right) = true)
    (b_l_sides_right : Binds K gd_l_sides_right ["_law_wide", "_law_tall"] [])
    (G_l_odd : FnT P w K mg base 3 g_l_odd gd_l_odd ["_law_pool_here"] sp_l_odd)
    (m_l_odd : mg "_law_odd" = some (.ref g_l_odd))
    (k_l_odd : PySem.W.keepIn K (.ref g_l_odd) = true)
    (b_l_odd : Binds K gd_l_odd ["_law_pool_here"] [])
    (G_l_read_right : FnT P w K mg base 24 g_l_read_right gd_l_read_right ["_law_said"] (sp_l_rr K C_Size))
    (m_l_read_right : mg "_law_read_right" = some (.ref g_l_read_right))
    (k_l_read_right : PySem.W.keepIn K (.ref g_l_read_right) = true)
    (b_l_read_right : Binds K gd_l_read_right ["_law_said"] [])
    (G_l_bent : FnT P w K mg base 2 g_l_bent gd_l_bent ["_law_pool_here", "_law_sides_here"] sp_l_bent)
    (m_l_bent : mg "_law_bent" = some (.ref g_l_bent))
    (k_l_bent : PySem.W.keepIn K (.ref g_l_bent) = true)
    (b_l_bent : Binds K gd_l_bent ["_law_pool_here", "_law_sides_here"] [])
    (G_l_shown : FnT P w K mg base 1 g_l_shown gd_l_shown ["_law_part_here"] sp_l_shown)
    (m_l_shown : mg "_law_shown" = some (.ref g_l_shown))
    (k_l_shown : PySem.W.keepIn K (.ref g_l_shown) = true)
    (b_l_shown : Binds K gd_l_shown ["_law_part_here"] [])
    (G_l_sides : FnT P w K mg base 3 g_l_sides gd_l_sides ["_law_pool_here", "_law_great"] sp_l_sides)
    (m_l_sides : mg "_law_sides" = some (.ref g_l_sides))
    (k_l_sides : PySem.W.keepIn K (.ref g_l_sides) = true)
    (b_l_sides : Binds K gd_l_sides ["_law_pool_here", "_law_great"] [])
    : FnT P w K mg base 25 f fd ["_law_pool_here"] (sp_l_right9 C_Size) := by
  refine okT F sc_l_right (by intro ts S R RE h; unfold sp_l_right9 at h; split at h <;> first | rfl | exact h.elim) (fun cdv A out s H E hg hr => (bs_cons (ss_for (passes_of rfl) rfl (it_range1 (by rfl) n_range (at_cons et_int at_nil)) (gt_name (pg_name (i := 1) sc_l_right.nd rfl (by first | exact Or.inl rfl | exact Or.inr rfl))) (bs_cons (ss_set (i := 2) sc_l_right.nd rfl (by first | exact Or.inl rfl | exact Or.inr rfl) (et_callD G_l_sides hg (hr.mono (by decide)) (by rfl) m_l_sides k_l_sides (CallD.all b_l_sides) (passL2N (L2N.takes_of rfl rfl rfl rfl)) (at_cons (et_var (pv 0)) (at_cons et_bl at_nil))))
    (bs_cons (ss_if (tt_not (tt_val (et_callD G_l_read_right hg (hr.mono (by decide)) (by rfl) m_l_read_right k_l_read_right (CallD.all b_l_read_right) (passL2N (L2N.takes_of rfl rfl rfl rfl)) (at_cons (et_op op_addG cv_add (et_op op_addG cv_add (et_callD G_l_shown hg (hr.mono (by decide)) (by rfl) m_l_shown k_l_shown (CallD.all b_l_shown) (passL2N (L2N.takes_of rfl rfl rfl rfl)) (at_cons (et_ix ix_seq cv_ix (et_var (pv 2)) et_int (fun _ _ => rfl)) at_nil)) et_str) (et_callD G_l_shown hg (hr.mono (by decide)) (by rfl) m_l_shown k_l_shown (CallD.all b_l_shown) (passL2N (L2N.takes_of rfl rfl rfl rfl)) (at_cons (et_ix ix_seq cv_ix (et_var (pv 2)) et_int (fun _ _ => rfl)) at_nil))) at_nil)))) (bs_one (ss_ret et_bl)) bs_nil)
    (bs_cons (ss_if (tt_not (tt_val (et_blt (cr_all (by rfl)) cv_all (by rfl) n_all (by decide +kernel) (at_cons (et_lc (x := "_law_go") (j := 3) (by rfl) sc_l_right.nd (it_range1 (by rfl) n_range (at_cons et_int at_nil)) (blkOk_by (own := [("_law_go", 3)]) (N := ["_law_pool_here", "_law_turn", "_law_sides_here", "_law_go", "_law_wide", "_law_tall", "_law_pairs", "_law_pair"]) (sc := defScope s_l_right) (by decide +kernel)) (fun _ _ _ _ _ => pg_name (i := 3) sc_l_right.nd rfl (by first | exact Or.inl rfl | exact Or.inr rfl)) (fun _ _ _ _ _ => tts_nil) (fun _ _ _ _ _ => (et_callD G_l_read_right hg (hr.mono (by decide)) (by rfl) m_l_read_right k_l_read_right (CallD.all b_l_read_right) passN (at_cons (et_callD G_l_bent hg (hr.mono (by decide)) (by rfl) m_l_bent k_l_bent (CallD.all b_l_bent) passN (at_cons (et_var (pv 0)) (at_cons (et_var (pv 2)) at_nil))) at_nil)))) at_nil)))) (bs_one (ss_ret et_bl)) bs_nil)
    (bs_cons (ss_par (i := 4) (j := 5) (by rfl) sc_l_right.nd rfl rfl (by decide) rfl rfl (at_cons (et_callD G_l_odd hg (hr.mono (by decide)) (by rfl) m_l_odd k_l_odd (CallD.all b_l_odd) (passL2N (L2N.takes_of rfl rfl rfl rfl)) (at_cons (et_var (pv 0)) at_nil)) (at_cons (et_callD G_l_odd hg (hr.mono (by decide)) (by rfl) m_l_odd k_l_odd (CallD.all b_l_odd) (passL2N (L2N.takes_of rfl rfl rfl rfl)) (at_cons (et_var (pv 0)) at_nil)) at_nil)) (by rfl))
    (bs_cons (ss_set (i := 6) sc_l_right.nd rfl (by first | exact Or.inl rfl | exact Or.inr rfl) (et_lst (at_cons (et_tup (at_cons (et_var (pv 4)) (at_cons (et_var (pv 5)) at_nil))) (at_cons (et_tup (at_cons (et_ix ix_seq cv_ix (et_var (pv 2)) et_int (fun _ _ => rfl)) (at_cons (et_var (pv 5)) at_nil))) (at_cons (et_tup (at_cons (et_var (pv 4)) (at_cons (et_ix ix_seq cv_ix (et_var (pv 2)) et_int (fun _ _ => rfl)) at_nil))) (at_cons (et_var (pv 2)) (at_cons (et_tup (at_cons (et_var (pv 4)) (at_cons (et_ix ix_seq cv_ix (et_ix ix_seq cv_ix (et_var (pv 2)) et_int (fun _ _ => rfl)) et_int (fun _ _ => rfl)) at_nil))) at_nil)))))))
    (bs_one (ss_if (tt_not (tt_val (et_blt (cr_all (by rfl)) cv_all (by rfl) n_all (by decide +kernel) (at_cons (et_lc (x := "_law_pair") (j := 7) (by rfl) sc_l_right.nd (it_seq (et_var (pv 6))) (blkOk_by (own := [("_law_pair", 7)]) (N := ["_law_pool_here", "_law_turn", "_law_sides_here", "_law_go", "_law_wide", "_law_tall", "_law_pairs", "_law_pair"]) (sc := defScope s_l_right) (by decide +kernel)) (fun _ _ _ _ _ => pg_name (i := 7) sc_l_right.nd rfl (by first | exact Or.inl rfl | exact Or.inr rfl)) (fun _ _ _ _ _ => tts_nil) (fun _ _ _ _ _ => (et_callD G_l_sides_right hg (hr.mono (by decide)) (by rfl) m_l_sides_right k_l_sides_right (CallD.all b_l_sides_right) passN (at_cons (et_ix ix_seq cv_ix (et_var (pv 7)) et_int (fun _ _ => rfl)) (at_cons (et_ix ix_seq cv_ix (et_var (pv 7)) et_int (fun _ _ => rfl)) at_nil))))) at_nil)))) (bs_one (ss_ret et_bl)) bs_nil))))))))
    (bs_one (ss_ret et_bl)))) ?_
  intro ts S R RE h
  unfold sp_l_right9 at h
  split at h
  · rename_i p
    obtain ⟨hp, tin, q⟩ := h
    refine sSeq_i fun N hN => ?_
    simp only [sFor, rC, aNil, aCons, iRng1T, startT, T.int.injEq, List.cons.injEq, List.map_cons, List.map_nil, List.length_cons, List.length_nil, List.cons_append, List.nil_append, List.replicate_succ, List.replicate_zero, exists_eq_left', and_true, Nat.reduceAdd, Nat.reduceSub, Nat.zero_add]
    refine ⟨by decide, by decide, ?_⟩
    refine rLoop_inv (fun _ σ S' => PoolT S' p ∧ TabsIn T0 S' ∧ ∃ v : List (Option T), σ = some (.cell p) :: v ∧ v.length = 7) ⟨hp, tin, _, by rfl, by rfl⟩ ?_ ?_
    · rintro i t σ S' hi ⟨hp', tin', v, rfl, hv⟩ N2 hN2
      match v, hv with
      | [v1, v2, v3, v4, v5, v6, v7], _ =>
      show sSeq _ _ _ _ _
      refine sSeq_i fun N hN => ?_
      simp only [sp_l_sides, sAsg, rVar, rC, aNil, aCons, gNameT, rCall, Option.some.injEq, List.append_nil, List.getElem?_cons_zero, List.set_cons_zero, List.set_cons_succ, exists_eq_left']
      refine ⟨hp', fun s S1 o p1 => hN _ _ ?_⟩
      clear hN
      have t1 := tin'.ps hp' p1
      have ow := o.w
      have oh := o.h
      have lc : ∀ a b : Str, (a ++ b).length = a.length + b.length := sLen0
      have lx : ("x" : Str).length = 1 := by decide
      have tx : TxS 1 ("x" : Str) := TxS.of (by decide) (by decide +kernel)
      have tw := TxS.fr (ow.up (m := 210) (by decide))
      have th := TxS.fr (oh.up (m := 210) (by decide))
      have lw := tw.l
      have lh := th.l
      have tt := (tw.cat tx).cat th
      refine sSeq_i fun N hN => sIf_i fun A B hA hB => ?_
      simp only [sp_l_shown, sp_l_rr, d4T, kAdd_ss, rVar, rC, rBin, rTest, bNot, aNil, aCons, rCall, kIx, T.bl.injEq, Option.some.injEq, List.append_nil, List.getElem?_cons_zero, List.getElem?_cons_succ, exists_eq_left', exists_and_left, reduceIte, Bool.false_eq_true, Bool.not_true, at_0, at_1]
      refine ⟨_, _, rfl, ow.up (by decide), by rw [lx, sizeLine_eq]; omega, _, _, rfl, oh.up (by decide), by rw [lc, lx, sizeLine_eq]; omega, tt.said (by decide), t1, ?_⟩
      refine hB _ (hN _ _ ?_)
      clear hN hA hB
      refine sSeq_i fun N hN => sIf_i fun A B hA hB => ?_
      simp only [d4T, rC, rTest, bNot, aNil, aCons, rArgs, iRng1T, rLc, kAll, T.int.injEq, T.bl.injEq, T.lst.injEq, List.cons.injEq, List.set_cons_zero, List.set_cons_succ, exists_eq_left', and_true]
      refine ⟨by decide, by decide, ?_⟩
      refine rComp_all (fun _ S2 => PoolT S2 p ∧ TabsIn T0 S2) (fun _ _ y => y = .bl true) ⟨p1.pool, t1⟩ (by rw [sizeLine_eq]; decide) ?_ ?_
      · rintro i2 t' S7 hi' ⟨h7, t7⟩ N3 hN3
        simp only [sp_l_bent, sp_l_rr, rVar, aNil, aCons, rCall, Option.some.injEq, List.append_nil, List.getElem?_cons_zero, List.getElem?_cons_succ, exists_eq_left']
        refine ⟨s, rfl, o, h7, fun z S8 tz p8 => ?_⟩
        have t8 := t7.ps h7 p8
        exact ⟨tz.said (by decide), t8, hN3 _ _ rfl ⟨p8.pool, t8⟩⟩
      rintro bs S2 hbs hG ⟨h2, t2⟩
      obtain ⟨a1, a2⟩ := allT hbs hG
      refine ⟨_, a1, ?_⟩
      rw [a2, if_neg (by decide)]
      refine hB _ (hN _ _ ?_)
      clear hN hA hB hG hbs a1 a2
      refine sSeq_i fun N hN => ?_
      simp only [sp_l_odd, sPar, rVar, aNil, aCons, rCall, List.cons.injEq, Option.some.injEq, List.append_nil, List.getElem?_cons_zero, List.set_cons_zero, List.set_cons_succ, exists_eq_left', exists_and_left, and_true, and_assoc]
      refine ⟨h2, fun x S3 ox p3 => ⟨p3.pool, fun y S4 oy p4 => hN _ _ ?_⟩⟩
      clear hN
      have t4 := (t2.ps h2 p3).ps p3.pool p4
      have k4 := p4.pool
      refine sSeq_i fun N hN => ?_
      simp only [d4T, frT, sAsg, rVar, rC, rBin, aNil, aCons, rTup, rLst, gNameT, kIx, Option.some.injEq, List.length_cons, List.length_nil, List.getElem?_cons_zero, List.getElem?_cons_succ, List.set_cons_zero, List.set_cons_succ, exists_eq_left', exists_and_left, Nat.reduceAdd, Nat.zero_add, at_0, at_1]
      repeat refine ⟨by decide, ?_⟩
      refine hN _ _ ?_
      clear hN
      have rows : ∀ z ∈ [T.tup [x, y], T.tup [T.tup [T.int s.a, T.int s.b], y], T.tup [x, T.tup [T.int s.c, T.int s.d]], T.tup [T.tup [T.int s.a, T.int s.b], T.tup [T.int s.c, T.int s.d]], T.tup [x, T.int s.a]], ∃ a b, z = .tup [a, b] ∧ SideV K C_Size a ∧ SideV K C_Size b := by
        have sx := ox.side (K := K) (C := C_Size)
        have sy := oy.side (K := K) (C := C_Size)
        have sw := (fr_odd ow).side (K := K) (C := C_Size)
        have sh := (fr_odd oh).side (K := K) (C := C_Size)
        have sa := (odd_int (ow.a.up (m := 200) (by decide)).lt).side (K := K) (C := C_Size)
        refine List.forall_mem_cons.mpr ⟨⟨_, _, rfl, sx, sy⟩, ?_⟩
        refine List.forall_mem_cons.mpr ⟨⟨_, _, rfl, sw, sy⟩, ?_⟩
        refine List.forall_mem_cons.mpr ⟨⟨_, _, rfl, sx, sh⟩, ?_⟩
        refine List.forall_mem_cons.mpr ⟨⟨_, _, rfl, sw, sh⟩, ?_⟩
        exact List.forall_mem_cons.mpr ⟨⟨_, _, rfl, sx, sa⟩, fun _ m => nomatch m⟩
      generalize hl : [T.tup [x, y], T.tup [T.tup [T.int s.a, T.int s.b], y], T.tup [x, T.tup [T.int s.c, T.int s.d]], T.tup [T.tup [T.int s.a, T.int s.b], T.tup [T.int s.c, T.int s.d]], T.tup [x, T.int s.a]] = l at rows ⊢
      have ll : l.length = 5 := by rw [← hl]; rfl
      clear hl
      refine sIf_i fun A B hA hB => ?_
      simp only [rVar, rTest, bNot, aNil, aCons, rArgs, iSeq, rLc, kAll, seqOf, T.bl.injEq, T.lst.injEq, List.cons.injEq, Option.some.injEq, List.getElem?_cons_zero, List.getElem?_cons_succ, List.set_cons_zero, List.set_cons_succ, exists_eq_left', and_true]
      refine rComp_all (fun _ S2 => TabsIn T0 S2 ∧ Grow S4 S2) (fun _ _ y => y = .bl true) ⟨t4, Grow.refl⟩ (by rw [ll, sizeLine_eq]; decide) ?_ ?_
      · rintro i2 t' S8 hi' ⟨t8, g8⟩ N3 hN3
        obtain ⟨a, b, rfl, ha, hb⟩ := rows t' (List.mem_of_getElem? hi')
        simp only [sp_l_sr, rVar, rC, rBin, aNil, aCons, rCall, kIx, Option.some.injEq, List.append_nil, List.getElem?_cons_zero, List.getElem?_cons_succ, exists_eq_left', exists_and_left, at_0, at_1]
        exact ⟨ha, hb, t8, fun S9 t9 g9 => hN3 _ _ rfl ⟨t9, g8.trans g9⟩⟩
      rintro bs S8 hbs hG ⟨t8, g8⟩
      obtain ⟨a1, a2⟩ := allT hbs hG
      refine ⟨_, a1, ?_⟩
      rw [a2, if_neg (by decide)]
      exact hB _ (hN2 _ _ ⟨k4.grow g8, t8, _, rfl, rfl⟩)
    · rintro σ S' ⟨hp', tin', v, rfl, hv⟩
      refine hN _ _ ?_
      simp only [sRet, rC]
      exact q _ tin'
  · exact h.elim
theorem sc_law : FnScope ["_law_script", "_law_k"] ["_law_script"] (defScope s_law) := ⟨rfl, rfl, rfl, by decide +kernel, rfl, by decide +kernel, by decide +kernel⟩

theorem ok_law {P : Program} {w : World} {K : PySem.W.Frag} {mg : Str → Option Value} {base : Heap} {f : Addr} {fd : FuncData} {g_l_right C_Size g_l_pool g_l_cell g_l_by_hand : Addr} {gd_l_right : FuncData} {gd_l_pool : FuncData} {gd_l_cell : FuncData} {gd_l_by_hand : FuncData} (F : Fun K "law" "law" s_law f fd)
    (n_range : mg "range" = none)
    (n_len : mg "len" = none)
    (n_min : mg "min" = none)
    (n_max : mg "max" = none)
    (n_all : mg "all" = none)
    (G_l_right : FnT P w K mg base 25 g_l_right gd_l_right ["_law_pool_here"] (sp_l_right9 C_Size))
    (m_l_right : mg "_law_right" = some (.ref g_l_right))
    (k_l_right : PySem.W.keepIn K (.ref g_l_right) = true)
    (b_l_right : Binds K gd_l_right ["_law_pool_here"] [])
    (G_l_pool : FnT P w K mg base 1 g_l_pool gd_l_pool ["_law_figure"] sp_l_pool)
    (m_l_pool : mg "_law_pool" = some (.ref g_l_pool))
    (k_l_pool : PySem.W.keepIn K (.ref g_l_pool) = true)
    (b_l_pool : Binds K gd_l_pool ["_law_figure"] [])
    (G_l_cell : FnT P w K mg base 1 g_l_cell gd_l_cell ["_law_script", "_law_k"] sp_l_cell)
    (m_l_cell : mg "_law_cell" = some (.ref g_l_cell))
    (k_l_cell : PySem.W.keepIn K (.ref g_l_cell) = true)
    (b_l_cell : Binds K gd_l_cell ["_law_script", "_law_k"] [])
    (G_l_by_hand : FnT P w K mg base 26 g_l_by_hand gd_l_by_hand [] (sp_l_hand C_Size))
    (m_l_by_hand : mg "_law_by_hand" = some (.ref g_l_by_hand))
    (k_l_by_hand : PySem.W.keepIn K (.ref g_l_by_hand) = true)
    (b_l_by_hand : Binds K gd_l_by_hand [] [])
    : FnT P w K mg base 27 f fd ["_law_script"] (sp_lawT T0) := by
  refine okT F sc_law (by intro ts S R RE h; unfold sp_lawT at h; split at h <;> first | rfl | exact h.elim) (fun cdv A out s H E hg hr => (bs_cons (ss_if (tt_not (tt_val (et_call0D G_l_by_hand hg (hr.mono (by decide)) (by rfl) m_l_by_hand k_l_by_hand (CallD.all b_l_by_hand) (passL2N (L2N.takes_of rfl rfl rfl rfl))))) (bs_one (ss_ret et_bl)) bs_nil)
    (bs_one (ss_ret (et_blt (cr_all (by rfl)) cv_all (by rfl) n_all (by decide +kernel) (at_cons (et_lc (x := "_law_k") (j := 1) (by rfl) sc_law.nd (it_range1 (by rfl) n_range (at_cons (et_blt (call_max2 (by rfl)) cv_A2 (by rfl) n_max (by decide +kernel) (at_cons et_int (at_cons (et_blt (call_min2 (by rfl)) cv_A2 (by rfl) n_min (by decide +kernel) (at_cons (et_blt call_len cv_len (by rfl) n_len PySem.boot_len (at_cons (et_var (pv 0)) at_nil)) (at_cons et_int at_nil))) at_nil))) at_nil)) (blkOk_by (own := [("_law_k", 1)]) (N := ["_law_script", "_law_k"]) (sc := defScope s_law) (by decide +kernel)) (fun _ _ _ _ _ => pg_name (i := 1) sc_law.nd rfl (by first | exact Or.inl rfl | exact Or.inr rfl)) (fun _ _ _ _ _ => tts_nil) (fun _ _ _ _ _ => (et_callD G_l_right hg (hr.mono (by decide)) (by rfl) m_l_right k_l_right (CallD.all b_l_right) passN (at_cons (et_callD G_l_pool hg (hr.mono (by decide)) (by rfl) m_l_pool k_l_pool (CallD.all b_l_pool) passN (at_cons (et_callD G_l_cell hg (hr.mono (by decide)) (by rfl) m_l_cell k_l_cell (CallD.all b_l_cell) passN (at_cons (et_var (pv 0)) (at_cons (et_var (pv 1)) at_nil))) at_nil)) at_nil)))) at_nil)))))) ?_
  intro ts S R RE h
  unfold sp_lawT at h
  split at h
  · rename_i l
    obtain ⟨⟨ns, rfl, h63⟩, tin, q⟩ := h
    refine sSeq_i fun N hN => ?_
    simp only [sp_l_hand, sRet, sIf, sNext, rC, rTest, bNot, aNil, rCall, startT, T.bl.injEq, List.map_cons, List.map_nil, List.length_cons, List.length_nil, List.cons_append, List.nil_append, List.append_nil, List.replicate_succ, List.replicate_zero, exists_eq_left', Nat.reduceAdd, Nat.reduceSub, Nat.zero_add, reduceIte, Bool.false_eq_true, Bool.not_true]
    refine ⟨tin, fun S1 t1 _ => ?_⟩
    refine hN _ _ ?_
    clear hN
    simp only [sRet, rVar, rC, aNil, aCons, rArgs, iRng1T, rLc, kLen, kA2, kAll, lenT, T.int.injEq, T.lst.injEq, List.cons.injEq, Option.some.injEq, List.getElem?_cons_zero, List.set_cons_zero, List.set_cons_succ, exists_eq_left', exists_and_left, and_true, and_assoc]
    have hl : 0 ≤ (((ns.map T.int).length : Nat) : Int) ∧ (((ns.map T.int).length : Nat) : Int) ≤ 63 := by rw [List.length_map]; omega
    have rg := range_le (n := (((ns.map T.int).length : Nat) : Int)) (k := 5) hl (by decide)
    generalize (((ns.map T.int).length : Nat) : Int) = n at rg ⊢
    generalize (if (if n < 5 then n else 5) > 2 then (if n < 5 then n else 5) else 2) = m at rg ⊢
    refine ⟨by omega, by omega, ?_⟩
    refine law_cellsT (spR := sp_l_right9 C_Size) (i := 0) (j := 1) h63 ⟨by omega, by omega⟩ (fun _ => rfl) (fun _ => rfl) t1 (fun p S hp tp N hN => ⟨hp, tp, hN⟩) q
  · exact h.elim
set_option maxHeartbeats 0 in
theorem all_mk {l : PySem.W.OpenLaw} {w : World} {q : Program} {loose : List Str} {mean : ExcName → Option Value} {K : PySem.W.Frag} {h : Heap} {mg mb : Str → Option Value} {fa : Addr} (TP : Top q loose mean mg mb h) (HT : ∀ P ∈ [715, 729], h.get? P = some (PySem.W.tabObj #[])) (X : K.In h) (G : h.Ns mainGlobals mg) (hfa : mg "law" = some (.ref fa))
    {f_common_divisor : Addr} {od_common_divisor an_common_divisor : Option Addr} {sl_common_divisor : Array (Option Value)} {oc_common_divisor kV_common_divisor dc_common_divisor pm_common_divisor cd_common_divisor ct_common_divisor : Value}
    {f_is_integer : Addr} {od_is_integer an_is_integer : Option Addr} {sl_is_integer : Array (Option Value)} {oc_is_integer kV_is_integer dc_is_integer pm_is_integer cd_is_integer ct_is_integer : Value}
    {f_is_positive : Addr} {od_is_positive an_is_positive : Option Addr} {sl_is_positive : Array (Option Value)} {oc_is_positive kV_is_positive dc_is_positive pm_is_positive cd_is_positive ct_is_positive : Value}
    {f_l_cell : Addr} {od_l_cell an_l_cell : Option Addr} {sl_l_cell : Array (Option Value)} {oc_l_cell kV_l_cell dc_l_cell pm_l_cell cd_l_cell ct_l_cell : Value}
    {f_l_pool : Addr} {od_l_pool an_l_pool : Option Addr} {sl_l_pool : Array (Option Value)} {oc_l_pool kV_l_pool dc_l_pool pm_l_pool cd_l_pool ct_l_pool : Value}
    {f_l_draw : Addr} {od_l_draw an_l_draw : Option Addr} {sl_l_draw : Array (Option Value)} {oc_l_draw kV_l_draw dc_l_draw pm_l_draw cd_l_draw ct_l_draw : Value}
    {f_l_low : Addr} {od_l_low an_l_low : Option Addr} {sl_l_low : Array (Option Value)} {oc_l_low kV_l_low dc_l_low pm_l_low cd_l_low ct_l_low : Value}
    {f_is_fraction : Addr} {od_is_fraction an_is_fraction : Option Addr} {sl_is_fraction : Array (Option Value)} {oc_is_fraction kV_is_fraction dc_is_fraction pm_is_fraction cd_is_fraction ct_is_fraction : Value}
    {f_check_fractions : Addr} {od_check_fractions an_check_fractions : Option Addr} {sl_check_fractions : Array (Option Value)} {oc_check_fractions kV_check_fractions dc_check_fractions pm_check_fractions cd_check_fractions ct_check_fractions : Value}
    {f_as_fraction : Addr} {od_as_fraction an_as_fraction : Option Addr} {sl_as_fraction : Array (Option Value)} {oc_as_fraction kV_as_fraction dc_as_fraction pm_as_fraction cd_as_fraction ct_as_fraction : Value}
    {f_format_fraction : Addr} {od_format_fraction an_format_fraction : Option Addr} {sl_format_fraction : Array (Option Value)} {oc_format_fraction kV_format_fraction dc_format_fraction pm_format_fraction cd_format_fraction ct_format_fraction : Value}
    {f_is_numeral : Addr} {od_is_numeral an_is_numeral : Option Addr} {sl_is_numeral : Array (Option Value)} {oc_is_numeral kV_is_numeral dc_is_numeral pm_is_numeral cd_is_numeral ct_is_numeral : Value}
    {f_find_fraction : Addr} {od_find_fraction an_find_fraction : Option Addr} {sl_find_fraction : Array (Option Value)} {oc_find_fraction kV_find_fraction dc_find_fraction pm_find_fraction cd_find_fraction ct_find_fraction : Value}
    {f_Size_init : Addr} {od_Size_init an_Size_init : Option Addr} {sl_Size_init : Array (Option Value)} {oc_Size_init kV_Size_init dc_Size_init pm_Size_init cd_Size_init ct_Size_init : Value}
    {f_l_mul : Addr} {od_l_mul an_l_mul : Option Addr} {sl_l_mul : Array (Option Value)} {oc_l_mul kV_l_mul dc_l_mul pm_l_mul cd_l_mul ct_l_mul : Value}
    {f_l_part : Addr} {od_l_part an_l_part : Option Addr} {sl_l_part : Array (Option Value)} {oc_l_part kV_l_part dc_l_part pm_l_part cd_l_part ct_l_part : Value}
    {f_l_sides : Addr} {od_l_sides an_l_sides : Option Addr} {sl_l_sides : Array (Option Value)} {oc_l_sides kV_l_sides dc_l_sides pm_l_sides cd_l_sides ct_l_sides : Value}
    {f_Size_str : Addr} {od_Size_str an_Size_str : Option Addr} {sl_Size_str : Array (Option Value)} {oc_Size_str kV_Size_str dc_Size_str pm_Size_str cd_Size_str ct_Size_str : Value}
    {f_Size_repr : Addr} {od_Size_repr an_Size_repr : Option Addr} {sl_Size_repr : Array (Option Value)} {oc_Size_repr kV_Size_repr dc_Size_repr pm_Size_repr cd_Size_repr ct_Size_repr : Value}
    {f_Size_read : Addr} {od_Size_read an_Size_read : Option Addr} {sl_Size_read : Array (Option Value)} {oc_Size_read kV_Size_read dc_Size_read pm_Size_read cd_Size_read ct_Size_read : Value}
    {f_l_whole : Addr} {od_l_whole an_l_whole : Option Addr} {sl_l_whole : Array (Option Value)} {oc_l_whole kV_l_whole dc_l_whole pm_l_whole cd_l_whole ct_l_whole : Value}
    {f_l_is_part : Addr} {od_l_is_part an_l_is_part : Option Addr} {sl_l_is_part : Array (Option Value)} {oc_l_is_part kV_l_is_part dc_l_is_part pm_l_is_part cd_l_is_part ct_l_is_part : Value}
    {f_l_odd : Addr} {od_l_odd an_l_odd : Option Addr} {sl_l_odd : Array (Option Value)} {oc_l_odd kV_l_odd dc_l_odd pm_l_odd cd_l_odd ct_l_odd : Value}
    {f_l_kind : Addr} {od_l_kind an_l_kind : Option Addr} {sl_l_kind : Array (Option Value)} {oc_l_kind kV_l_kind dc_l_kind pm_l_kind cd_l_kind ct_l_kind : Value}
    {f_l_caught : Addr} {od_l_caught an_l_caught : Option Addr} {sl_l_caught : Array (Option Value)} {oc_l_caught kV_l_caught dc_l_caught pm_l_caught cd_l_caught ct_l_caught : Value}
    {f_l_read : Addr} {od_l_read an_l_read : Option Addr} {sl_l_read : Array (Option Value)} {oc_l_read kV_l_read dc_l_read pm_l_read cd_l_read ct_l_read : Value}
    {f_l_two : Addr} {od_l_two an_l_two : Option Addr} {sl_l_two : Array (Option Value)} {oc_l_two kV_l_two dc_l_two pm_l_two cd_l_two ct_l_two : Value}
    {f_l_read_right : Addr} {od_l_read_right an_l_read_right : Option Addr} {sl_l_read_right : Array (Option Value)} {oc_l_read_right kV_l_read_right dc_l_read_right pm_l_read_right cd_l_read_right ct_l_read_right : Value}
    {f_l_is_side : Addr} {od_l_is_side an_l_is_side : Option Addr} {sl_l_is_side : Array (Option Value)} {oc_l_is_side kV_l_is_side dc_l_is_side pm_l_is_side cd_l_is_side ct_l_is_side : Value}
    {f_l_sides_right : Addr} {od_l_sides_right an_l_sides_right : Option Addr} {sl_l_sides_right : Array (Option Value)} {oc_l_sides_right kV_l_sides_right dc_l_sides_right pm_l_sides_right cd_l_sides_right ct_l_sides_right : Value}
    {f_l_shown : Addr} {od_l_shown an_l_shown : Option Addr} {sl_l_shown : Array (Option Value)} {oc_l_shown kV_l_shown dc_l_shown pm_l_shown cd_l_shown ct_l_shown : Value}
    {f_l_bent : Addr} {od_l_bent an_l_bent : Option Addr} {sl_l_bent : Array (Option Value)} {oc_l_bent kV_l_bent dc_l_bent pm_l_bent cd_l_bent ct_l_bent : Value}
    {f_l_by_hand : Addr} {od_l_by_hand an_l_by_hand : Option Addr} {sl_l_by_hand : Array (Option Value)} {oc_l_by_hand kV_l_by_hand dc_l_by_hand pm_l_by_hand cd_l_by_hand ct_l_by_hand : Value}
    {f_l_right : Addr} {od_l_right an_l_right : Option Addr} {sl_l_right : Array (Option Value)} {oc_l_right kV_l_right dc_l_right pm_l_right cd_l_right ct_l_right : Value}
    {f_law : Addr} {od_law an_law : Option Addr} {sl_law : Array (Option Value)} {oc_law kV_law dc_law pm_law cd_law ct_law : Value}
    {C_InvalidFraction : Addr}
    {C_InvalidSize : Addr}
    {C_InvalidBox : Addr}
    {C_InvalidKeep : Addr}
    {C_InvalidTimes : Addr}
    {C_InvalidStep : Addr}
    {C_InvalidSteps : Addr}
    {C_InvalidChain : Addr}
    {C_InvalidText : Addr}
    {C_InvalidKind : Addr}
    {C_InvalidRecords : Addr}
    {C_InvalidName : Addr}
    {C_InvalidDeeds : Addr}
    {C_InvalidLine : Addr}
    {C_NoStep : Addr}
    {C_UnknownName : Addr}
    {C_NameTaken : Addr}
    {C_NothingToUndo : Addr}
    {C_TooManySteps : Addr}
    {C_TooManyDeeds : Addr}
    {C_PictureError : Addr}
    {C_FindError : Addr}
    {C_LimitError : Addr}
    {c0_l_read_right : Addr}
    {c0_l_sides_right : Addr}
    {fI_InvalidFraction : Addr} {enm_InvalidFraction eq_InvalidFraction : Str} {eN_InvalidFraction : Addr} {ebs_InvalidFraction ebm_InvalidFraction esub_InvalidFraction : List Value} {esn_InvalidFraction : List Str} {eab_InvalidFraction : Bool} {ecol_InvalidFraction : Option Bool} {edd_InvalidFraction : Option Addr} {ex0_InvalidFraction ex1_InvalidFraction ex2_InvalidFraction ex3_InvalidFraction ex5_InvalidFraction : Option Value}
    {yoc_InvalidFraction ydc_InvalidFraction ypm_InvalidFraction ycd_InvalidFraction yct_InvalidFraction : Value} {yod_InvalidFraction yan_InvalidFraction : Option Addr} {ysl_InvalidFraction : Array (Option Value)} {yp1_InvalidFraction yp2_InvalidFraction yq1_InvalidFraction yq2_InvalidFraction yq3_InvalidFraction yq4_InvalidFraction : Pos}
    {fI_InvalidText : Addr} {enm_InvalidText eq_InvalidText : Str} {eN_InvalidText : Addr} {ebs_InvalidText ebm_InvalidText esub_InvalidText : List Value} {esn_InvalidText : List Str} {eab_InvalidText : Bool} {ecol_InvalidText : Option Bool} {edd_InvalidText : Option Addr} {ex0_InvalidText ex1_InvalidText ex2_InvalidText ex3_InvalidText ex5_InvalidText : Option Value}
    {yoc_InvalidText ydc_InvalidText ypm_InvalidText ycd_InvalidText yct_InvalidText : Value} {yod_InvalidText yan_InvalidText : Option Addr} {ysl_InvalidText : Array (Option Value)} {yp1_InvalidText yp2_InvalidText yq1_InvalidText yq2_InvalidText yq3_InvalidText yq4_InvalidText : Pos}
    {C_Size : Addr}
    {p_Size_read : Addr} {rest_Size_read : List Value}
    (a_common_divisor : PySem.W.nsIn K mainGlobals "common_divisor" = some (some (.ref f_common_divisor)))
    (l_common_divisor : K.lookup f_common_divisor = some ⟨oc_common_divisor, od_common_divisor, .func (PySem.W.fnOf "common_divisor" "common_divisor" (defArgs s_common_divisor) (defBody s_common_divisor) (defScope s_common_divisor) .none kV_common_divisor dc_common_divisor pm_common_divisor an_common_divisor cd_common_divisor ct_common_divisor), sl_common_divisor⟩)
    (c_common_divisor : PySem.W.codeIn K cd_common_divisor "common_divisor" = true)
    (k_common_divisor : PySem.W.keepIn K (.ref f_common_divisor) = true)
    (a_is_integer : PySem.W.nsIn K mainGlobals "is_integer" = some (some (.ref f_is_integer)))
    (l_is_integer : K.lookup f_is_integer = some ⟨oc_is_integer, od_is_integer, .func (PySem.W.fnOf "is_integer" "is_integer" (defArgs s_is_integer) (defBody s_is_integer) (defScope s_is_integer) .none kV_is_integer dc_is_integer pm_is_integer an_is_integer cd_is_integer ct_is_integer), sl_is_integer⟩)
    (c_is_integer : PySem.W.codeIn K cd_is_integer "is_integer" = true)
    (k_is_integer : PySem.W.keepIn K (.ref f_is_integer) = true)
    (a_is_positive : PySem.W.nsIn K mainGlobals "is_positive" = some (some (.ref f_is_positive)))
    (l_is_positive : K.lookup f_is_positive = some ⟨oc_is_positive, od_is_positive, .func (PySem.W.fnOf "is_positive" "is_positive" (defArgs s_is_positive) (defBody s_is_positive) (defScope s_is_positive) .none kV_is_positive dc_is_positive pm_is_positive an_is_positive cd_is_positive ct_is_positive), sl_is_positive⟩)
    (c_is_positive : PySem.W.codeIn K cd_is_positive "is_positive" = true)
    (k_is_positive : PySem.W.keepIn K (.ref f_is_positive) = true)
    (a_l_cell : PySem.W.nsIn K mainGlobals "_law_cell" = some (some (.ref f_l_cell)))
    (l_l_cell : K.lookup f_l_cell = some ⟨oc_l_cell, od_l_cell, .func (PySem.W.fnOf "_law_cell" "_law_cell" (defArgs s_l_cell) (defBody s_l_cell) (defScope s_l_cell) .none kV_l_cell dc_l_cell pm_l_cell an_l_cell cd_l_cell ct_l_cell), sl_l_cell⟩)
    (c_l_cell : PySem.W.codeIn K cd_l_cell "_law_cell" = true)
    (k_l_cell : PySem.W.keepIn K (.ref f_l_cell) = true)
    (a_l_pool : PySem.W.nsIn K mainGlobals "_law_pool" = some (some (.ref f_l_pool)))
    (l_l_pool : K.lookup f_l_pool = some ⟨oc_l_pool, od_l_pool, .func (PySem.W.fnOf "_law_pool" "_law_pool" (defArgs s_l_pool) (defBody s_l_pool) (defScope s_l_pool) .none kV_l_pool dc_l_pool pm_l_pool an_l_pool cd_l_pool ct_l_pool), sl_l_pool⟩)
    (c_l_pool : PySem.W.codeIn K cd_l_pool "_law_pool" = true)
    (k_l_pool : PySem.W.keepIn K (.ref f_l_pool) = true)
    (a_l_draw : PySem.W.nsIn K mainGlobals "_law_draw" = some (some (.ref f_l_draw)))
    (l_l_draw : K.lookup f_l_draw = some ⟨oc_l_draw, od_l_draw, .func (PySem.W.fnOf "_law_draw" "_law_draw" (defArgs s_l_draw) (defBody s_l_draw) (defScope s_l_draw) .none kV_l_draw dc_l_draw pm_l_draw an_l_draw cd_l_draw ct_l_draw), sl_l_draw⟩)
    (c_l_draw : PySem.W.codeIn K cd_l_draw "_law_draw" = true)
    (k_l_draw : PySem.W.keepIn K (.ref f_l_draw) = true)
    (a_l_low : PySem.W.nsIn K mainGlobals "_law_low" = some (some (.ref f_l_low)))
    (l_l_low : K.lookup f_l_low = some ⟨oc_l_low, od_l_low, .func (PySem.W.fnOf "_law_low" "_law_low" (defArgs s_l_low) (defBody s_l_low) (defScope s_l_low) .none kV_l_low dc_l_low pm_l_low an_l_low cd_l_low ct_l_low), sl_l_low⟩)
    (c_l_low : PySem.W.codeIn K cd_l_low "_law_low" = true)
    (k_l_low : PySem.W.keepIn K (.ref f_l_low) = true)
    (a_is_fraction : PySem.W.nsIn K mainGlobals "is_fraction" = some (some (.ref f_is_fraction)))
    (l_is_fraction : K.lookup f_is_fraction = some ⟨oc_is_fraction, od_is_fraction, .func (PySem.W.fnOf "is_fraction" "is_fraction" (defArgs s_is_fraction) (defBody s_is_fraction) (defScope s_is_fraction) .none kV_is_fraction dc_is_fraction pm_is_fraction an_is_fraction cd_is_fraction ct_is_fraction), sl_is_fraction⟩)
    (c_is_fraction : PySem.W.codeIn K cd_is_fraction "is_fraction" = true)
    (k_is_fraction : PySem.W.keepIn K (.ref f_is_fraction) = true)
    (a_check_fractions : PySem.W.nsIn K mainGlobals "check_fractions" = some (some (.ref f_check_fractions)))
    (l_check_fractions : K.lookup f_check_fractions = some ⟨oc_check_fractions, od_check_fractions, .func (PySem.W.fnOf "check_fractions" "check_fractions" (defArgs s_check_fractions) (defBody s_check_fractions) (defScope s_check_fractions) .none kV_check_fractions dc_check_fractions pm_check_fractions an_check_fractions cd_check_fractions ct_check_fractions), sl_check_fractions⟩)
    (c_check_fractions : PySem.W.codeIn K cd_check_fractions "check_fractions" = true)
    (k_check_fractions : PySem.W.keepIn K (.ref f_check_fractions) = true)
    (a_as_fraction : PySem.W.nsIn K mainGlobals "as_fraction" = some (some (.ref f_as_fraction)))
    (l_as_fraction : K.lookup f_as_fraction = some ⟨oc_as_fraction, od_as_fraction, .func (PySem.W.fnOf "as_fraction" "as_fraction" (defArgs s_as_fraction) (defBody s_as_fraction) (defScope s_as_fraction) .none kV_as_fraction dc_as_fraction pm_as_fraction an_as_fraction cd_as_fraction ct_as_fraction), sl_as_fraction⟩)
    (c_as_fraction : PySem.W.codeIn K cd_as_fraction "as_fraction" = true)
    (k_as_fraction : PySem.W.keepIn K (.ref f_as_fraction) = true)
    (a_format_fraction : PySem.W.nsIn K mainGlobals "format_fraction" = some (some (.ref f_format_fraction)))
    (l_format_fraction : K.lookup f_format_fraction = some ⟨oc_format_fraction, od_format_fraction, .func (PySem.W.fnOf "format_fraction" "format_fraction" (defArgs s_format_fraction) (defBody s_format_fraction) (defScope s_format_fraction) .none kV_format_fraction dc_format_fraction pm_format_fraction an_format_fraction cd_format_fraction ct_format_fraction), sl_format_fraction⟩)
    (c_format_fraction : PySem.W.codeIn K cd_format_fraction "format_fraction" = true)
    (k_format_fraction : PySem.W.keepIn K (.ref f_format_fraction) = true)
    (a_is_numeral : PySem.W.nsIn K mainGlobals "is_numeral" = some (some (.ref f_is_numeral)))
    (l_is_numeral : K.lookup f_is_numeral = some ⟨oc_is_numeral, od_is_numeral, .func (PySem.W.fnOf "is_numeral" "is_numeral" (defArgs s_is_numeral) (defBody s_is_numeral) (defScope s_is_numeral) .none kV_is_numeral dc_is_numeral pm_is_numeral an_is_numeral cd_is_numeral ct_is_numeral), sl_is_numeral⟩)
    (c_is_numeral : PySem.W.codeIn K cd_is_numeral "is_numeral" = true)
    (k_is_numeral : PySem.W.keepIn K (.ref f_is_numeral) = true)
    (a_find_fraction : PySem.W.nsIn K mainGlobals "find_fraction" = some (some (.ref f_find_fraction)))
    (l_find_fraction : K.lookup f_find_fraction = some ⟨oc_find_fraction, od_find_fraction, .func (PySem.W.fnOf "find_fraction" "find_fraction" (defArgs s_find_fraction) (defBody s_find_fraction) (defScope s_find_fraction) .none kV_find_fraction dc_find_fraction pm_find_fraction an_find_fraction cd_find_fraction ct_find_fraction), sl_find_fraction⟩)
    (c_find_fraction : PySem.W.codeIn K cd_find_fraction "find_fraction" = true)
    (k_find_fraction : PySem.W.keepIn K (.ref f_find_fraction) = true)
    (a_l_mul : PySem.W.nsIn K mainGlobals "_law_mul" = some (some (.ref f_l_mul)))
    (l_l_mul : K.lookup f_l_mul = some ⟨oc_l_mul, od_l_mul, .func (PySem.W.fnOf "_law_mul" "_law_mul" (defArgs s_l_mul) (defBody s_l_mul) (defScope s_l_mul) .none kV_l_mul dc_l_mul pm_l_mul an_l_mul cd_l_mul ct_l_mul), sl_l_mul⟩)
    (c_l_mul : PySem.W.codeIn K cd_l_mul "_law_mul" = true)
    (k_l_mul : PySem.W.keepIn K (.ref f_l_mul) = true)
    (a_l_part : PySem.W.nsIn K mainGlobals "_law_part" = some (some (.ref f_l_part)))
    (l_l_part : K.lookup f_l_part = some ⟨oc_l_part, od_l_part, .func (PySem.W.fnOf "_law_part" "_law_part" (defArgs s_l_part) (defBody s_l_part) (defScope s_l_part) .none kV_l_part dc_l_part pm_l_part an_l_part cd_l_part ct_l_part), sl_l_part⟩)
    (c_l_part : PySem.W.codeIn K cd_l_part "_law_part" = true)
    (k_l_part : PySem.W.keepIn K (.ref f_l_part) = true)
    (a_l_sides : PySem.W.nsIn K mainGlobals "_law_sides" = some (some (.ref f_l_sides)))
    (l_l_sides : K.lookup f_l_sides = some ⟨oc_l_sides, od_l_sides, .func (PySem.W.fnOf "_law_sides" "_law_sides" (defArgs s_l_sides) (defBody s_l_sides) (defScope s_l_sides) .none kV_l_sides dc_l_sides pm_l_sides an_l_sides cd_l_sides ct_l_sides), sl_l_sides⟩)
    (c_l_sides : PySem.W.codeIn K cd_l_sides "_law_sides" = true)
    (k_l_sides : PySem.W.keepIn K (.ref f_l_sides) = true)
    (a_l_whole : PySem.W.nsIn K mainGlobals "_law_whole" = some (some (.ref f_l_whole)))
    (l_l_whole : K.lookup f_l_whole = some ⟨oc_l_whole, od_l_whole, .func (PySem.W.fnOf "_law_whole" "_law_whole" (defArgs s_l_whole) (defBody s_l_whole) (defScope s_l_whole) .none kV_l_whole dc_l_whole pm_l_whole an_l_whole cd_l_whole ct_l_whole), sl_l_whole⟩)
    (c_l_whole : PySem.W.codeIn K cd_l_whole "_law_whole" = true)
    (k_l_whole : PySem.W.keepIn K (.ref f_l_whole) = true)
    (a_l_is_part : PySem.W.nsIn K mainGlobals "_law_is_part" = some (some (.ref f_l_is_part)))
    (l_l_is_part : K.lookup f_l_is_part = some ⟨oc_l_is_part, od_l_is_part, .func (PySem.W.fnOf "_law_is_part" "_law_is_part" (defArgs s_l_is_part) (defBody s_l_is_part) (defScope s_l_is_part) .none kV_l_is_part dc_l_is_part pm_l_is_part an_l_is_part cd_l_is_part ct_l_is_part), sl_l_is_part⟩)
    (c_l_is_part : PySem.W.codeIn K cd_l_is_part "_law_is_part" = true)
    (k_l_is_part : PySem.W.keepIn K (.ref f_l_is_part) = true)
    (a_l_odd : PySem.W.nsIn K mainGlobals "_law_odd" = some (some (.ref f_l_odd)))
    (l_l_odd : K.lookup f_l_odd = some ⟨oc_l_odd, od_l_odd, .func (PySem.W.fnOf "_law_odd" "_law_odd" (defArgs s_l_odd) (defBody s_l_odd) (defScope s_l_odd) .none kV_l_odd dc_l_odd pm_l_odd an_l_odd cd_l_odd ct_l_odd), sl_l_odd⟩)
    (c_l_odd : PySem.W.codeIn K cd_l_odd "_law_odd" = true)
    (k_l_odd : PySem.W.keepIn K (.ref f_l_odd) = true)
    (a_l_kind : PySem.W.nsIn K mainGlobals "_law_kind" = some (some (.ref f_l_kind)))
    (l_l_kind : K.lookup f_l_kind = some ⟨oc_l_kind, od_l_kind, .func (PySem.W.fnOf "_law_kind" "_law_kind" (defArgs s_l_kind) (defBody s_l_kind) (defScope s_l_kind) .none kV_l_kind dc_l_kind pm_l_kind an_l_kind cd_l_kind ct_l_kind), sl_l_kind⟩)
    (c_l_kind : PySem.W.codeIn K cd_l_kind "_law_kind" = true)
    (k_l_kind : PySem.W.keepIn K (.ref f_l_kind) = true)
    (a_l_caught : PySem.W.nsIn K mainGlobals "_law_caught" = some (some (.ref f_l_caught)))
    (l_l_caught : K.lookup f_l_caught = some ⟨oc_l_caught, od_l_caught, .func (PySem.W.fnOf "_law_caught" "_law_caught" (defArgs s_l_caught) (defBody s_l_caught) (defScope s_l_caught) .none kV_l_caught dc_l_caught pm_l_caught an_l_caught cd_l_caught ct_l_caught), sl_l_caught⟩)
    (c_l_caught : PySem.W.codeIn K cd_l_caught "_law_caught" = true)
    (k_l_caught : PySem.W.keepIn K (.ref f_l_caught) = true)
    (a_l_read : PySem.W.nsIn K mainGlobals "_law_read" = some (some (.ref f_l_read)))
    (l_l_read : K.lookup f_l_read = some ⟨oc_l_read, od_l_read, .func (PySem.W.fnOf "_law_read" "_law_read" (defArgs s_l_read) (defBody s_l_read) (defScope s_l_read) .none kV_l_read dc_l_read pm_l_read an_l_read cd_l_read ct_l_read), sl_l_read⟩)
    (c_l_read : PySem.W.codeIn K cd_l_read "_law_read" = true)
    (k_l_read : PySem.W.keepIn K (.ref f_l_read) = true)
    (a_l_two : PySem.W.nsIn K mainGlobals "_law_two" = some (some (.ref f_l_two)))
    (l_l_two : K.lookup f_l_two = some ⟨oc_l_two, od_l_two, .func (PySem.W.fnOf "_law_two" "_law_two" (defArgs s_l_two) (defBody s_l_two) (defScope s_l_two) .none kV_l_two dc_l_two pm_l_two an_l_two cd_l_two ct_l_two), sl_l_two⟩)
    (c_l_two : PySem.W.codeIn K cd_l_two "_law_two" = true)
    (k_l_two : PySem.W.keepIn K (.ref f_l_two) = true)
    (a_l_read_right : PySem.W.nsIn K mainGlobals "_law_read_right" = some (some (.ref f_l_read_right)))
    (l_l_read_right : K.lookup f_l_read_right = some ⟨oc_l_read_right, od_l_read_right, .func (PySem.W.fnOf "_law_read_right" "_law_read_right" (defArgs s_l_read_right) (defBody s_l_read_right) (defScope s_l_read_right) .none kV_l_read_right dc_l_read_right pm_l_read_right an_l_read_right cd_l_read_right ct_l_read_right), sl_l_read_right⟩)
    (c_l_read_right : PySem.W.codeIn K cd_l_read_right "_law_read_right" = true)
    (k_l_read_right : PySem.W.keepIn K (.ref f_l_read_right) = true)
    (a_l_is_side : PySem.W.nsIn K mainGlobals "_law_is_side" = some (some (.ref f_l_is_side)))
    (l_l_is_side : K.lookup f_l_is_side = some ⟨oc_l_is_side, od_l_is_side, .func (PySem.W.fnOf "_law_is_side" "_law_is_side" (defArgs s_l_is_side) (defBody s_l_is_side) (defScope s_l_is_side) .none kV_l_is_side dc_l_is_side pm_l_is_side an_l_is_side cd_l_is_side ct_l_is_side), sl_l_is_side⟩)
    (c_l_is_side : PySem.W.codeIn K cd_l_is_side "_law_is_side" = true)
    (k_l_is_side : PySem.W.keepIn K (.ref f_l_is_side) = true)
    (a_l_sides_right : PySem.W.nsIn K mainGlobals "_law_sides_right" = some (some (.ref f_l_sides_right)))
    (l_l_sides_right : K.lookup f_l_sides_right = some ⟨oc_l_sides_right, od_l_sides_right, .func (PySem.W.fnOf "_law_sides_right" "_law_sides_right" (defArgs s_l_sides_right) (defBody s_l_sides_right) (defScope s_l_sides_right) .none kV_l_sides_right dc_l_sides_right pm_l_sides_right an_l_sides_right cd_l_sides_right ct_l_sides_right), sl_l_sides_right⟩)
    (c_l_sides_right : PySem.W.codeIn K cd_l_sides_right "_law_sides_right" = true)
    (k_l_sides_right : PySem.W.keepIn K (.ref f_l_sides_right) = true)
    (a_l_shown : PySem.W.nsIn K mainGlobals "_law_shown" = some (some (.ref f_l_shown)))
    (l_l_shown : K.lookup f_l_shown = some ⟨oc_l_shown, od_l_shown, .func (PySem.W.fnOf "_law_shown" "_law_shown" (defArgs s_l_shown) (defBody s_l_shown) (defScope s_l_shown) .none kV_l_shown dc_l_shown pm_l_shown an_l_shown cd_l_shown ct_l_shown), sl_l_shown⟩)
    (c_l_shown : PySem.W.codeIn K cd_l_shown "_law_shown" = true)
    (k_l_shown : PySem.W.keepIn K (.ref f_l_shown) = true)
    (a_l_bent : PySem.W.nsIn K mainGlobals "_law_bent" = some (some (.ref f_l_bent)))
    (l_l_bent : K.lookup f_l_bent = some ⟨oc_l_bent, od_l_bent, .func (PySem.W.fnOf "_law_bent" "_law_bent" (defArgs s_l_bent) (defBody s_l_bent) (defScope s_l_bent) .none kV_l_bent dc_l_bent pm_l_bent an_l_bent cd_l_bent ct_l_bent), sl_l_bent⟩)
    (c_l_bent : PySem.W.codeIn K cd_l_bent "_law_bent" = true)
    (k_l_bent : PySem.W.keepIn K (.ref f_l_bent) = true)
    (a_l_by_hand : PySem.W.nsIn K mainGlobals "_law_by_hand" = some (some (.ref f_l_by_hand)))
    (l_l_by_hand : K.lookup f_l_by_hand = some ⟨oc_l_by_hand, od_l_by_hand, .func (PySem.W.fnOf "_law_by_hand" "_law_by_hand" (defArgs s_l_by_hand) (defBody s_l_by_hand) (defScope s_l_by_hand) .none kV_l_by_hand dc_l_by_hand pm_l_by_hand an_l_by_hand cd_l_by_hand ct_l_by_hand), sl_l_by_hand⟩)
    (c_l_by_hand : PySem.W.codeIn K cd_l_by_hand "_law_by_hand" = true)
    (k_l_by_hand : PySem.W.keepIn K (.ref f_l_by_hand) = true)
    (a_l_right : PySem.W.nsIn K mainGlobals "_law_right" = some (some (.ref f_l_right)))
    (l_l_right : K.lookup f_l_right = some ⟨oc_l_right, od_l_right, .func (PySem.W.fnOf "_law_right" "_law_right" (defArgs s_l_right) (defBody s_l_right) (defScope s_l_right) .none kV_l_right dc_l_right pm_l_right an_l_right cd_l_right ct_l_right), sl_l_right⟩)
    (c_l_right : PySem.W.codeIn K cd_l_right "_law_right" = true)
    (k_l_right : PySem.W.keepIn K (.ref f_l_right) = true)
    (a_law : PySem.W.nsIn K mainGlobals "law" = some (some (.ref f_law)))
    (l_law : K.lookup f_law = some ⟨oc_law, od_law, .func (PySem.W.fnOf "law" "law" (defArgs s_law) (defBody s_law) (defScope s_law) .none kV_law dc_law pm_law an_law cd_law ct_law), sl_law⟩)
    (c_law : PySem.W.codeIn K cd_law "law" = true)
    (k_law : PySem.W.keepIn K (.ref f_law) = true)
    (z_isinstance : PySem.W.nsIn K mainGlobals "isinstance" = some none)
    (z_bool : PySem.W.nsIn K mainGlobals "bool" = some none)
    (z_int : PySem.W.nsIn K mainGlobals "int" = some none)
    (z_len : PySem.W.nsIn K mainGlobals "len" = some none)
    (z_abs : PySem.W.nsIn K mainGlobals "abs" = some none)
    (z_divmod : PySem.W.nsIn K mainGlobals "divmod" = some none)
    (z_tuple : PySem.W.nsIn K mainGlobals "tuple" = some none)
    (z_str : PySem.W.nsIn K mainGlobals "str" = some none)
    (z_ValueError : PySem.W.nsIn K mainGlobals "ValueError" = some none)
    (z_LookupError : PySem.W.nsIn K mainGlobals "LookupError" = some none)
    (z_ArithmeticError : PySem.W.nsIn K mainGlobals "ArithmeticError" = some none)
    (z_repr : PySem.W.nsIn K mainGlobals "repr" = some none)
    (z_all : PySem.W.nsIn K mainGlobals "all" = some none)
    (z_range : PySem.W.nsIn K mainGlobals "range" = some none)
    (z_min : PySem.W.nsIn K mainGlobals "min" = some none)
    (z_max : PySem.W.nsIn K mainGlobals "max" = some none)
    (ca_InvalidFraction : PySem.W.nsIn K mainGlobals "InvalidFraction" = some (some (.ref C_InvalidFraction)))
    (ca_InvalidSize : PySem.W.nsIn K mainGlobals "InvalidSize" = some (some (.ref C_InvalidSize)))
    (ca_InvalidBox : PySem.W.nsIn K mainGlobals "InvalidBox" = some (some (.ref C_InvalidBox)))
    (ca_InvalidKeep : PySem.W.nsIn K mainGlobals "InvalidKeep" = some (some (.ref C_InvalidKeep)))
    (ca_InvalidTimes : PySem.W.nsIn K mainGlobals "InvalidTimes" = some (some (.ref C_InvalidTimes)))
    (ca_InvalidStep : PySem.W.nsIn K mainGlobals "InvalidStep" = some (some (.ref C_InvalidStep)))
    (ca_InvalidSteps : PySem.W.nsIn K mainGlobals "InvalidSteps" = some (some (.ref C_InvalidSteps)))
    (ca_InvalidChain : PySem.W.nsIn K mainGlobals "InvalidChain" = some (some (.ref C_InvalidChain)))
    (ca_InvalidText : PySem.W.nsIn K mainGlobals "InvalidText" = some (some (.ref C_InvalidText)))
    (ca_InvalidKind : PySem.W.nsIn K mainGlobals "InvalidKind" = some (some (.ref C_InvalidKind)))
    (ca_InvalidRecords : PySem.W.nsIn K mainGlobals "InvalidRecords" = some (some (.ref C_InvalidRecords)))
    (ca_InvalidName : PySem.W.nsIn K mainGlobals "InvalidName" = some (some (.ref C_InvalidName)))
    (ca_InvalidDeeds : PySem.W.nsIn K mainGlobals "InvalidDeeds" = some (some (.ref C_InvalidDeeds)))
    (ca_InvalidLine : PySem.W.nsIn K mainGlobals "InvalidLine" = some (some (.ref C_InvalidLine)))
    (ca_NoStep : PySem.W.nsIn K mainGlobals "NoStep" = some (some (.ref C_NoStep)))
    (ca_UnknownName : PySem.W.nsIn K mainGlobals "UnknownName" = some (some (.ref C_UnknownName)))
    (ca_NameTaken : PySem.W.nsIn K mainGlobals "NameTaken" = some (some (.ref C_NameTaken)))
    (ca_NothingToUndo : PySem.W.nsIn K mainGlobals "NothingToUndo" = some (some (.ref C_NothingToUndo)))
    (ca_TooManySteps : PySem.W.nsIn K mainGlobals "TooManySteps" = some (some (.ref C_TooManySteps)))
    (ca_TooManyDeeds : PySem.W.nsIn K mainGlobals "TooManyDeeds" = some (some (.ref C_TooManyDeeds)))
    (ca_PictureError : PySem.W.nsIn K mainGlobals "PictureError" = some (some (.ref C_PictureError)))
    (ca_FindError : PySem.W.nsIn K mainGlobals "FindError" = some (some (.ref C_FindError)))
    (ca_LimitError : PySem.W.nsIn K mainGlobals "LimitError" = some (some (.ref C_LimitError)))
    (kr_is_InvalidText : erIsB K C_InvalidText = true)
    (kr_ek_InvalidText : erKindB K (fun i => [C_InvalidFraction, C_InvalidSize, C_InvalidBox, C_InvalidKeep, C_InvalidTimes, C_InvalidStep, C_InvalidSteps, C_InvalidChain, C_InvalidText, C_InvalidKind, C_InvalidRecords, C_InvalidName, C_InvalidDeeds, C_InvalidLine, C_NoStep, C_UnknownName, C_NameTaken, C_NothingToUndo, C_TooManySteps, C_TooManyDeeds, C_PictureError, C_FindError, C_LimitError].getD i 0) C_InvalidText 8 = true)
    (kr_er_InvalidText : erValB K (fun i => [C_InvalidFraction, C_InvalidSize, C_InvalidBox, C_InvalidKeep, C_InvalidTimes, C_InvalidStep, C_InvalidSteps, C_InvalidChain, C_InvalidText, C_InvalidKind, C_InvalidRecords, C_InvalidName, C_InvalidDeeds, C_InvalidLine, C_NoStep, C_UnknownName, C_NameTaken, C_NothingToUndo, C_TooManySteps, C_TooManyDeeds, C_PictureError, C_FindError, C_LimitError].getD i 0) C_InvalidText = true)
    (kr_is_InvalidFraction : erIsB K C_InvalidFraction = true)
    (kr_ek_InvalidFraction : erKindB K (fun i => [C_InvalidFraction, C_InvalidSize, C_InvalidBox, C_InvalidKeep, C_InvalidTimes, C_InvalidStep, C_InvalidSteps, C_InvalidChain, C_InvalidText, C_InvalidKind, C_InvalidRecords, C_InvalidName, C_InvalidDeeds, C_InvalidLine, C_NoStep, C_UnknownName, C_NameTaken, C_NothingToUndo, C_TooManySteps, C_TooManyDeeds, C_PictureError, C_FindError, C_LimitError].getD i 0) C_InvalidFraction 0 = true)
    (kr_er_InvalidFraction : erValB K (fun i => [C_InvalidFraction, C_InvalidSize, C_InvalidBox, C_InvalidKeep, C_InvalidTimes, C_InvalidStep, C_InvalidSteps, C_InvalidChain, C_InvalidText, C_InvalidKind, C_InvalidRecords, C_InvalidName, C_InvalidDeeds, C_InvalidLine, C_NoStep, C_UnknownName, C_NameTaken, C_NothingToUndo, C_TooManySteps, C_TooManyDeeds, C_PictureError, C_FindError, C_LimitError].getD i 0) C_InvalidFraction = true)
    (rf_tc_l_read_right : cd_l_read_right = .ref c0_l_read_right)
    (kr_td_l_read_right : PySem.W.codeHdIn K c0_l_read_right 715 = true)
    (kr_tf_l_read_right : (K.lookup 715).isNone = true)
    (rf_tc_l_sides_right : cd_l_sides_right = .ref c0_l_sides_right)
    (kr_td_l_sides_right : PySem.W.codeHdIn K c0_l_sides_right 729 = true)
    (kr_tf_l_sides_right : (K.lookup 729).isNone = true)
    (kr_imp : importsNone q = true)
    (ex_InvalidFraction : K.lookup C_InvalidFraction = some (PySem.excClassObj enm_InvalidFraction eq_InvalidFraction C_InvalidFraction eN_InvalidFraction ebs_InvalidFraction ebm_InvalidFraction true esn_InvalidFraction esub_InvalidFraction eab_InvalidFraction ecol_InvalidFraction edd_InvalidFraction ex0_InvalidFraction ex1_InvalidFraction ex2_InvalidFraction ex3_InvalidFraction ex5_InvalidFraction "ValueError.__new__"))
    (kr_ev_InvalidFraction : PySem.HandSPX.refsVE ebm_InvalidFraction = true)
    (ei_InvalidFraction : PySem.W.findIn K (.ref C_InvalidFraction) "__init__" = some (some (.ref fI_InvalidFraction)))
    (kr_eb_InvalidFraction : evB K C_InvalidFraction fI_InvalidFraction = true)
    (el_InvalidFraction : K.lookup fI_InvalidFraction = some ⟨yoc_InvalidFraction, yod_InvalidFraction, .func (PySem.W.fnOf "__init__" "InvalidFraction.__init__" (evArgs yp1_InvalidFraction yp2_InvalidFraction) (evBody yq1_InvalidFraction yq2_InvalidFraction yq3_InvalidFraction yq4_InvalidFraction) evScope .none .none ydc_InvalidFraction ypm_InvalidFraction yan_InvalidFraction ycd_InvalidFraction yct_InvalidFraction), ysl_InvalidFraction⟩)
    (ec_InvalidFraction : PySem.W.codeIn K ycd_InvalidFraction "InvalidFraction.__init__" = true)
    (ex_InvalidText : K.lookup C_InvalidText = some (PySem.excClassObj enm_InvalidText eq_InvalidText C_InvalidText eN_InvalidText ebs_InvalidText ebm_InvalidText true esn_InvalidText esub_InvalidText eab_InvalidText ecol_InvalidText edd_InvalidText ex0_InvalidText ex1_InvalidText ex2_InvalidText ex3_InvalidText ex5_InvalidText "ValueError.__new__"))
    (kr_ev_InvalidText : PySem.HandSPX.refsVE ebm_InvalidText = true)
    (ei_InvalidText : PySem.W.findIn K (.ref C_InvalidText) "__init__" = some (some (.ref fI_InvalidText)))
    (kr_eb_InvalidText : evB K C_InvalidText fI_InvalidText = true)
    (el_InvalidText : K.lookup fI_InvalidText = some ⟨yoc_InvalidText, yod_InvalidText, .func (PySem.W.fnOf "__init__" "InvalidText.__init__" (evArgs yp1_InvalidText yp2_InvalidText) (evBody yq1_InvalidText yq2_InvalidText yq3_InvalidText yq4_InvalidText) evScope .none .none ydc_InvalidText ypm_InvalidText yan_InvalidText ycd_InvalidText yct_InvalidText), ysl_InvalidText⟩)
    (ec_InvalidText : PySem.W.codeIn K ycd_InvalidText "InvalidText.__init__" = true)
    (ca_Size : PySem.W.nsIn K mainGlobals "Size" = some (some (.ref C_Size)))
    (cg_Size : PySem.W.plainGet K C_Size Str.empty = true)
    (ch_Size : PySem.W.hasDictIn K C_Size = true)
    (cp_Size : PySem.W.plainOver K C_Size = true)
    (cs_Size : PySem.W.findIn K (.ref C_Size) "__setattr__" = some (some (.builtin "object.__setattr__")))
    (nq_Size_width : PySem.W.findIn K (.ref C_Size) "width" = some none)
    (nq_Size_height : PySem.W.findIn K (.ref C_Size) "height" = some none)
    (od1_Size_str : PySem.W.findIn K (.ref C_Size) "__str__" = some (some (.ref f_Size_str)))
    (od2_Size_str : PySem.W.isFn K (.ref f_Size_str) = true)
    (cm_Size : PySem.W.makesIn K C_Size = true)
    (ck_Size : PySem.W.keepIn K (.ref C_Size) = true)
    (ci_Size : PySem.W.findIn K (.ref C_Size) "__init__" = some (some (.ref f_Size_init)))
    (cf2_Size : PySem.W.isFn K (.ref f_Size_init) = true)
    (cr1_Size : PySem.W.readsIn K C_Size (.type "type") = true)
    (cr2_Size : PySem.W.specialIn K (.ref C_Size) "__getattribute__" = some (some (.builtin "type.__getattribute__")))
    (rf_cm1_Size_read : PySem.W.findCls K (.ref C_Size) (.type "type") "read" = some (.get (.builtin "classmethod.__get__") (.ref p_Size_read) .none (.ref C_Size)))
    (rf_cm2_Size_read : PySem.W.recIn K p_Size_read "classmethod" = some (.ref f_Size_read :: rest_Size_read))
    (cm3_Size_read : PySem.W.fnIn K f_Size_read = true)
    (od1_Size_repr : PySem.W.findIn K (.ref C_Size) "__repr__" = some (some (.ref f_Size_repr)))
    (od2_Size_repr : PySem.W.isFn K (.ref f_Size_repr) = true)
    (is1_Size : PySem.W.findIn K (.ref C_Size) "__class__" = some (some (.builtin "object.__class__")))
    (is2_Size : PySem.W.specialIn K (.builtin "object.__class__") "__get__" = some (some (.builtin "getset_descriptor.__get__")))
    (is3_Size : PySem.W.takesIn K (.builtin "object.__class__") = some true)
    (is4_Size : PySem.W.mroIn K C_Size (.type "object") = some true)
    (ktq_Size_int : PySem.W.kitOne K (.ref C_Size) (.type "int") = some false)
    (ktq_Size_bool : PySem.W.kitOne K (.ref C_Size) (.type "bool") = some false)
    (ktq_Size_str : PySem.W.kitOne K (.ref C_Size) (.type "str") = some false)
    (ktq_Size_tuple : PySem.W.kitOne K (.ref C_Size) (.type "tuple") = some false)
    (ktq_Size_list : PySem.W.kitOne K (.ref C_Size) (.type "list") = some false)
    (l_Size_init : K.lookup f_Size_init = some ⟨oc_Size_init, od_Size_init, .func (PySem.W.fnOf "__init__" "Size.__init__" (defArgs s_Size_init) (defBody s_Size_init) (defScope s_Size_init) .none kV_Size_init dc_Size_init pm_Size_init an_Size_init cd_Size_init ct_Size_init), sl_Size_init⟩)
    (c_Size_init : PySem.W.codeIn K cd_Size_init "Size.__init__" = true)
    (k_Size_init : PySem.W.keepIn K (.ref f_Size_init) = true)
    (l_Size_str : K.lookup f_Size_str = some ⟨oc_Size_str, od_Size_str, .func (PySem.W.fnOf "__str__" "Size.__str__" (defArgs s_Size_str) (defBody s_Size_str) (defScope s_Size_str) .none kV_Size_str dc_Size_str pm_Size_str an_Size_str cd_Size_str ct_Size_str), sl_Size_str⟩)
    (c_Size_str : PySem.W.codeIn K cd_Size_str "Size.__str__" = true)
    (k_Size_str : PySem.W.keepIn K (.ref f_Size_str) = true)
    (l_Size_repr : K.lookup f_Size_repr = some ⟨oc_Size_repr, od_Size_repr, .func (PySem.W.fnOf "__repr__" "Size.__repr__" (defArgs s_Size_repr) (defBody s_Size_repr) (defScope s_Size_repr) .none kV_Size_repr dc_Size_repr pm_Size_repr an_Size_repr cd_Size_repr ct_Size_repr), sl_Size_repr⟩)
    (c_Size_repr : PySem.W.codeIn K cd_Size_repr "Size.__repr__" = true)
    (k_Size_repr : PySem.W.keepIn K (.ref f_Size_repr) = true)
    (l_Size_read : K.lookup f_Size_read = some ⟨oc_Size_read, od_Size_read, .func (PySem.W.fnOf "read" "Size.read" (defArgs s_Size_read) (defBody s_Size_read) (defScope s_Size_read) .none kV_Size_read dc_Size_read pm_Size_read an_Size_read cd_Size_read ct_Size_read), sl_Size_read⟩)
    (c_Size_read : PySem.W.codeIn K cd_Size_read "Size.read" = true)
    (k_Size_read : PySem.W.keepIn K (.ref f_Size_read) = true)
    : Rear K mg mb [(c0_l_read_right, 715), (c0_l_sides_right, 729)] h ∧ ∃ fd : FuncData, (∀ (s : Shared) (u : Value), BindsTo s fd ⟨[u], []⟩ [("_law_script", u)]) ∧ ∀ base : Heap, K.In base → base.Ns mainGlobals mg → (∃ o, base.get? sysModules = some o) → base.NoDigits → (∀ p ∈ ([(c0_l_read_right, 715), (c0_l_sides_right, 729)] : List (Addr × Addr)), LamX.TabB base mg p.1 p.2) → FnT l.prog w K mg base 27 fa fd ["_law_script"] (sp_lawT T0) := by
  have e := hfa.symm.trans (PySem.W.mg_of X G a_law)
  cases e
  have F_common_divisor := fun_mk (st := s_common_divisor) l_common_divisor c_common_divisor k_common_divisor
  have b_common_divisor := F_common_divisor.binds (ps := ["one", "other"]) fun _ _ _ _ _ _ us hl => match us, hl with | [_, _], _ => rfl
  have m_common_divisor := PySem.W.mg_of X G a_common_divisor
  have F_is_integer := fun_mk (st := s_is_integer) l_is_integer c_is_integer k_is_integer
  have b_is_integer := F_is_integer.binds (ps := ["value"]) fun _ _ _ _ _ _ us hl => match us, hl with | [_], _ => rfl
  have m_is_integer := PySem.W.mg_of X G a_is_integer
  have F_is_positive := fun_mk (st := s_is_positive) l_is_positive c_is_positive k_is_positive
  have b_is_positive := F_is_positive.binds (ps := ["value"]) fun _ _ _ _ _ _ us hl => match us, hl with | [_], _ => rfl
  have m_is_positive := PySem.W.mg_of X G a_is_positive
  have F_l_cell := fun_mk (st := s_l_cell) l_l_cell c_l_cell k_l_cell
  have b_l_cell := F_l_cell.binds (ps := ["_law_script", "_law_k"]) fun _ _ _ _ _ _ us hl => match us, hl with | [_, _], _ => rfl
  have m_l_cell := PySem.W.mg_of X G a_l_cell
  have F_l_pool := fun_mk (st := s_l_pool) l_l_pool c_l_pool k_l_pool
  have b_l_pool := F_l_pool.binds (ps := ["_law_figure"]) fun _ _ _ _ _ _ us hl => match us, hl with | [_], _ => rfl
  have m_l_pool := PySem.W.mg_of X G a_l_pool
  have F_l_draw := fun_mk (st := s_l_draw) l_l_draw c_l_draw k_l_draw
  have b_l_draw := F_l_draw.binds (ps := ["_law_pool_here", "_law_most"]) fun _ _ _ _ _ _ us hl => match us, hl with | [_, _], _ => rfl
  have m_l_draw := PySem.W.mg_of X G a_l_draw
  have F_l_low := fun_mk (st := s_l_low) l_l_low c_l_low k_l_low
  have b_l_low := F_l_low.binds (ps := ["_law_high_part", "_law_low_part"]) fun _ _ _ _ _ _ us hl => match us, hl with | [_, _], _ => rfl
  have m_l_low := PySem.W.mg_of X G a_l_low
  have F_is_fraction := fun_mk (st := s_is_fraction) l_is_fraction c_is_fraction k_is_fraction
  have b_is_fraction := F_is_fraction.binds (ps := ["value"]) fun _ _ _ _ _ _ us hl => match us, hl with | [_], _ => rfl
  have m_is_fraction := PySem.W.mg_of X G a_is_fraction
  have F_check_fractions := fun_mk (st := s_check_fractions) l_check_fractions c_check_fractions k_check_fractions
  have b_check_fractions := F_check_fractions.binds (ps := ["values"]) fun _ _ _ _ _ _ us hl => match us, hl with | [_], _ => rfl
  have m_check_fractions := PySem.W.mg_of X G a_check_fractions
  have F_as_fraction := fun_mk (st := s_as_fraction) l_as_fraction c_as_fraction k_as_fraction
  have b_as_fraction := F_as_fraction.binds (ps := ["side"]) fun _ _ _ _ _ _ us hl => match us, hl with | [_], _ => rfl
  have m_as_fraction := PySem.W.mg_of X G a_as_fraction
  have F_format_fraction := fun_mk (st := s_format_fraction) l_format_fraction c_format_fraction k_format_fraction
  have b_format_fraction := F_format_fraction.binds (ps := ["number"]) fun _ _ _ _ _ _ us hl => match us, hl with | [_], _ => rfl
  have m_format_fraction := PySem.W.mg_of X G a_format_fraction
  have F_is_numeral := fun_mk (st := s_is_numeral) l_is_numeral c_is_numeral k_is_numeral
  have b_is_numeral := F_is_numeral.binds (ps := ["text"]) fun _ _ _ _ _ _ us hl => match us, hl with | [_], _ => rfl
  have m_is_numeral := PySem.W.mg_of X G a_is_numeral
  have F_find_fraction := fun_mk (st := s_find_fraction) l_find_fraction c_find_fraction k_find_fraction
  have b_find_fraction := F_find_fraction.binds (ps := ["text"]) fun _ _ _ _ _ _ us hl => match us, hl with | [_], _ => rfl
  have m_find_fraction := PySem.W.mg_of X G a_find_fraction
  have F_Size_init := fun_mk (st := s_Size_init) l_Size_init c_Size_init k_Size_init
  have b_Size_init := F_Size_init.binds (ps := ["self", "width", "height"]) fun _ _ _ _ _ _ us hl => match us, hl with | [_, _, _], _ => rfl
  have F_l_mul := fun_mk (st := s_l_mul) l_l_mul c_l_mul k_l_mul
  have b_l_mul := F_l_mul.binds (ps := ["_law_lead", "_law_more"]) fun _ _ _ _ _ _ us hl => match us, hl with | [_, _], _ => rfl
  have m_l_mul := PySem.W.mg_of X G a_l_mul
  have F_l_part := fun_mk (st := s_l_part) l_l_part c_l_part k_l_part
  have b_l_part := F_l_part.binds (ps := ["_law_pool_here", "_law_great"]) fun _ _ _ _ _ _ us hl => match us, hl with | [_, _], _ => rfl
  have m_l_part := PySem.W.mg_of X G a_l_part
  have F_l_sides := fun_mk (st := s_l_sides) l_l_sides c_l_sides k_l_sides
  have b_l_sides := F_l_sides.binds (ps := ["_law_pool_here", "_law_great"]) fun _ _ _ _ _ _ us hl => match us, hl with | [_, _], _ => rfl
  have m_l_sides := PySem.W.mg_of X G a_l_sides
  have F_Size_str := fun_mk (st := s_Size_str) l_Size_str c_Size_str k_Size_str
  have b_Size_str := F_Size_str.binds (ps := ["self"]) fun _ _ _ _ _ _ us hl => match us, hl with | [_], _ => rfl
  have F_Size_repr := fun_mk (st := s_Size_repr) l_Size_repr c_Size_repr k_Size_repr
  have b_Size_repr := F_Size_repr.binds (ps := ["self"]) fun _ _ _ _ _ _ us hl => match us, hl with | [_], _ => rfl
  have F_Size_read := fun_mk (st := s_Size_read) l_Size_read c_Size_read k_Size_read
  have b_Size_read := F_Size_read.binds (ps := ["cls", "text"]) fun _ _ _ _ _ _ us hl => match us, hl with | [_, _], _ => rfl
  have F_l_whole := fun_mk (st := s_l_whole) l_l_whole c_l_whole k_l_whole
  have b_l_whole := F_l_whole.binds (ps := ["_law_thing"]) fun _ _ _ _ _ _ us hl => match us, hl with | [_], _ => rfl
  have m_l_whole := PySem.W.mg_of X G a_l_whole
  have F_l_is_part := fun_mk (st := s_l_is_part) l_l_is_part c_l_is_part k_l_is_part
  have b_l_is_part := F_l_is_part.binds (ps := ["_law_thing"]) fun _ _ _ _ _ _ us hl => match us, hl with | [_], _ => rfl
  have m_l_is_part := PySem.W.mg_of X G a_l_is_part
  have F_l_odd := fun_mk (st := s_l_odd) l_l_odd c_l_odd k_l_odd
  have b_l_odd := F_l_odd.binds (ps := ["_law_pool_here"]) fun _ _ _ _ _ _ us hl => match us, hl with | [_], _ => rfl
  have m_l_odd := PySem.W.mg_of X G a_l_odd
  have F_l_kind := fun_mk (st := s_l_kind) l_l_kind c_l_kind k_l_kind
  have b_l_kind := F_l_kind.binds (ps := ["_law_e"]) fun _ _ _ _ _ _ us hl => match us, hl with | [_], _ => rfl
  have m_l_kind := PySem.W.mg_of X G a_l_kind
  have F_l_caught := fun_mk (st := s_l_caught) l_l_caught c_l_caught k_l_caught
  have b_l_caught := F_l_caught.binds (ps := ["_law_act"]) fun _ _ _ _ _ _ us hl => match us, hl with | [_], _ => rfl
  have m_l_caught := PySem.W.mg_of X G a_l_caught
  have F_l_read := fun_mk (st := s_l_read) l_l_read c_l_read k_l_read
  have b_l_read := F_l_read.binds (ps := ["_law_text_here"]) fun _ _ _ _ _ _ us hl => match us, hl with | [_], _ => rfl
  have m_l_read := PySem.W.mg_of X G a_l_read
  have F_l_two := fun_mk (st := s_l_two) l_l_two c_l_two k_l_two
  have b_l_two := F_l_two.binds (ps := ["_law_said"]) fun _ _ _ _ _ _ us hl => match us, hl with | [_], _ => rfl
  have m_l_two := PySem.W.mg_of X G a_l_two
  have F_l_read_right := fun_mk (st := s_l_read_right) l_l_read_right c_l_read_right k_l_read_right
  have b_l_read_right := F_l_read_right.binds (ps := ["_law_said"]) fun _ _ _ _ _ _ us hl => match us, hl with | [_], _ => rfl
  have m_l_read_right := PySem.W.mg_of X G a_l_read_right
  have F_l_is_side := fun_mk (st := s_l_is_side) l_l_is_side c_l_is_side k_l_is_side
  have b_l_is_side := F_l_is_side.binds (ps := ["_law_thing"]) fun _ _ _ _ _ _ us hl => match us, hl with | [_], _ => rfl
  have m_l_is_side := PySem.W.mg_of X G a_l_is_side
  have F_l_sides_right := fun_mk (st := s_l_sides_right) l_l_sides_right c_l_sides_right k_l_sides_right
  have b_l_sides_right := F_l_sides_right.binds (ps := ["_law_wide", "_law_tall"]) fun _ _ _ _ _ _ us hl => match us, hl with | [_, _], _ => rfl
  have m_l_sides_right := PySem.W.mg_of X G a_l_sides_right
  have F_l_shown := fun_mk (st := s_l_shown) l_l_shown c_l_shown k_l_shown
  have b_l_shown := F_l_shown.binds (ps := ["_law_part_here"]) fun _ _ _ _ _ _ us hl => match us, hl with | [_], _ => rfl
  have m_l_shown := PySem.W.mg_of X G a_l_shown
  have F_l_bent := fun_mk (st := s_l_bent) l_l_bent c_l_bent k_l_bent
  have b_l_bent := F_l_bent.binds (ps := ["_law_pool_here", "_law_sides_here"]) fun _ _ _ _ _ _ us hl => match us, hl with | [_, _], _ => rfl
  have m_l_bent := PySem.W.mg_of X G a_l_bent
  have F_l_by_hand := fun_mk (st := s_l_by_hand) l_l_by_hand c_l_by_hand k_l_by_hand
  have b_l_by_hand := F_l_by_hand.binds (ps := []) fun _ _ _ _ _ _ us hl => match us, hl with | [], _ => rfl
  have m_l_by_hand := PySem.W.mg_of X G a_l_by_hand
  have F_l_right := fun_mk (st := s_l_right) l_l_right c_l_right k_l_right
  have b_l_right := F_l_right.binds (ps := ["_law_pool_here"]) fun _ _ _ _ _ _ us hl => match us, hl with | [_], _ => rfl
  have m_l_right := PySem.W.mg_of X G a_l_right
  have F_law := fun_mk (st := s_law) l_law c_law k_law
  have b_law := F_law.binds (ps := ["_law_script"]) fun _ _ _ _ _ _ us hl => match us, hl with | [_], _ => rfl
  have m_law := PySem.W.mg_of X G a_law
  have kb_Size_read_1_text : CallB K _ ["cls", "text"] 1 ["text"] (fun ts zs => pickG [(0, 0), (2, 0)] ts [] zs) := Fun.cb F_Size_read 1 ["text"] [(0, 0), (2, 0)] fun _ _ _ _ _ _ us ws h1 h2 => match us, ws, h1, h2 with | [_], [_], _, _ => rfl
  have kb_Size_init_1_height_width : CallB K _ ["self", "width", "height"] 1 ["height", "width"] (fun ts zs => pickG [(0, 0), (2, 1), (2, 0)] ts [] zs) := Fun.cb F_Size_init 1 ["height", "width"] [(0, 0), (2, 1), (2, 0)] fun _ _ _ _ _ _ us ws h1 h2 => match us, ws, h1, h2 with | [_], [_, _], _, _ => rfl
  have n_isinstance := PySem.W.mg_none_of X G z_isinstance
  have n_bool := PySem.W.mg_none_of X G z_bool
  have n_int := PySem.W.mg_none_of X G z_int
  have n_len := PySem.W.mg_none_of X G z_len
  have n_abs := PySem.W.mg_none_of X G z_abs
  have n_divmod := PySem.W.mg_none_of X G z_divmod
  have n_tuple := PySem.W.mg_none_of X G z_tuple
  have n_str := PySem.W.mg_none_of X G z_str
  have n_ValueError := PySem.W.mg_none_of X G z_ValueError
  have n_LookupError := PySem.W.mg_none_of X G z_LookupError
  have n_ArithmeticError := PySem.W.mg_none_of X G z_ArithmeticError
  have n_repr := PySem.W.mg_none_of X G z_repr
  have n_all := PySem.W.mg_none_of X G z_all
  have n_range := PySem.W.mg_none_of X G z_range
  have n_min := PySem.W.mg_none_of X G z_min
  have n_max := PySem.W.mg_none_of X G z_max
  have m_InvalidFraction := PySem.W.mg_of X G ca_InvalidFraction
  have m_InvalidSize := PySem.W.mg_of X G ca_InvalidSize
  have m_InvalidBox := PySem.W.mg_of X G ca_InvalidBox
  have m_InvalidKeep := PySem.W.mg_of X G ca_InvalidKeep
  have m_InvalidTimes := PySem.W.mg_of X G ca_InvalidTimes
  have m_InvalidStep := PySem.W.mg_of X G ca_InvalidStep
  have m_InvalidSteps := PySem.W.mg_of X G ca_InvalidSteps
  have m_InvalidChain := PySem.W.mg_of X G ca_InvalidChain
  have m_InvalidText := PySem.W.mg_of X G ca_InvalidText
  have m_InvalidKind := PySem.W.mg_of X G ca_InvalidKind
  have m_InvalidRecords := PySem.W.mg_of X G ca_InvalidRecords
  have m_InvalidName := PySem.W.mg_of X G ca_InvalidName
  have m_InvalidDeeds := PySem.W.mg_of X G ca_InvalidDeeds
  have m_InvalidLine := PySem.W.mg_of X G ca_InvalidLine
  have m_NoStep := PySem.W.mg_of X G ca_NoStep
  have m_UnknownName := PySem.W.mg_of X G ca_UnknownName
  have m_NameTaken := PySem.W.mg_of X G ca_NameTaken
  have m_NothingToUndo := PySem.W.mg_of X G ca_NothingToUndo
  have m_TooManySteps := PySem.W.mg_of X G ca_TooManySteps
  have m_TooManyDeeds := PySem.W.mg_of X G ca_TooManyDeeds
  have m_PictureError := PySem.W.mg_of X G ca_PictureError
  have m_FindError := PySem.W.mg_of X G ca_FindError
  have m_LimitError := PySem.W.mg_of X G ca_LimitError
  have NM : ErNames mg (fun i => [C_InvalidFraction, C_InvalidSize, C_InvalidBox, C_InvalidKeep, C_InvalidTimes, C_InvalidStep, C_InvalidSteps, C_InvalidChain, C_InvalidText, C_InvalidKind, C_InvalidRecords, C_InvalidName, C_InvalidDeeds, C_InvalidLine, C_NoStep, C_UnknownName, C_NameTaken, C_NothingToUndo, C_TooManySteps, C_TooManyDeeds, C_PictureError, C_FindError, C_LimitError].getD i 0) := ⟨m_InvalidFraction, m_InvalidSize, m_InvalidBox, m_InvalidKeep, m_InvalidTimes, m_InvalidStep, m_InvalidSteps, m_InvalidChain, m_InvalidText, m_InvalidKind, m_InvalidRecords, m_InvalidName, m_InvalidDeeds, m_InvalidLine, m_NoStep, m_UnknownName, m_NameTaken, m_NothingToUndo, m_TooManySteps, m_TooManyDeeds, m_PictureError, m_FindError, m_LimitError⟩
  have er_InvalidText : ErN K (fun i => [C_InvalidFraction, C_InvalidSize, C_InvalidBox, C_InvalidKeep, C_InvalidTimes, C_InvalidStep, C_InvalidSteps, C_InvalidChain, C_InvalidText, C_InvalidKind, C_InvalidRecords, C_InvalidName, C_InvalidDeeds, C_InvalidLine, C_NoStep, C_UnknownName, C_NameTaken, C_NothingToUndo, C_TooManySteps, C_TooManyDeeds, C_PictureError, C_FindError, C_LimitError].getD i 0) C_InvalidText 8 := ⟨erIs_of kr_is_InvalidText, erKind_of kr_ek_InvalidText, erVal_of kr_er_InvalidText⟩
  have er_InvalidFraction : ErN K (fun i => [C_InvalidFraction, C_InvalidSize, C_InvalidBox, C_InvalidKeep, C_InvalidTimes, C_InvalidStep, C_InvalidSteps, C_InvalidChain, C_InvalidText, C_InvalidKind, C_InvalidRecords, C_InvalidName, C_InvalidDeeds, C_InvalidLine, C_NoStep, C_UnknownName, C_NameTaken, C_NothingToUndo, C_TooManySteps, C_TooManyDeeds, C_PictureError, C_FindError, C_LimitError].getD i 0) C_InvalidFraction 0 := ⟨erIs_of kr_is_InvalidFraction, erKind_of kr_ek_InvalidFraction, erVal_of kr_er_InvalidFraction⟩
  have Z_InvalidFraction : EvTxt K C_InvalidFraction fI_InvalidFraction "InvalidFraction.__init__" := evTxt_of (excObj_of ex_InvalidFraction kr_ev_InvalidFraction) kr_eb_InvalidFraction el_InvalidFraction ec_InvalidFraction
  have Z_InvalidText : EvTxt K C_InvalidText fI_InvalidText "InvalidText.__init__" := evTxt_of (excObj_of ex_InvalidText kr_ev_InvalidText) kr_eb_InvalidText el_InvalidText ec_InvalidText
  have m_Size := PySem.W.mg_of X G ca_Size
  have cl_Size : Cls K C_Size := ⟨cg_Size, ch_Size, cp_Size, cs_Size⟩
  have nf_Size_width : InF K C_Size "width" := ⟨cl_Size, nq_Size_width⟩
  have nf_Size_height : InF K C_Size "height" := ⟨cl_Size, nq_Size_height⟩
  have od_Size_str : OwnDef K C_Size "__str__" f_Size_str := ⟨od1_Size_str, od2_Size_str⟩
  have M_Size : Mk K C_Size f_Size_init := ⟨cm_Size, ci_Size, cf2_Size, ck_Size⟩
  have cr_Size : ClX.CRead K C_Size (.type "type") := ⟨cr1_Size, cr2_Size⟩
  have cmt_Size_read : ClX.CMet K C_Size (.type "type") "read" p_Size_read f_Size_read := ⟨rf_cm1_Size_read, ⟨_, rf_cm2_Size_read⟩, cm3_Size_read⟩
  have od_Size_repr : OwnDef K C_Size "__repr__" f_Size_repr := ⟨od1_Size_repr, od2_Size_repr⟩
  have is_Size : InsC K C_Size := ⟨cl_Size, is1_Size, is2_Size, is3_Size, is4_Size⟩
  have kt_Size_int := ktq_Size_int
  have kt_Size_bool := ktq_Size_bool
  have kt_Size_str := ktq_Size_str
  have kt_Size_tuple := ktq_Size_tuple
  have kt_Size_list := ktq_Size_list
  refine ⟨⟨X, G, TP.b, TP.builtins, TP.nolimit, (let ⟨mm, a, _⟩ := (TP.seer kr_imp).mods; ⟨mm, a⟩), TP.bmain, ?_, ?_, ?_⟩, ?_⟩
  · exact List.forall_mem_cons.mpr ⟨HT 715 (by simp), List.forall_mem_cons.mpr ⟨HT 729 (by simp), fun _ m => nomatch m⟩⟩
  · exact List.forall_mem_cons.mpr ⟨PySem.W.codeHd_of_K X kr_td_l_read_right, List.forall_mem_cons.mpr ⟨PySem.W.codeHd_of_K X kr_td_l_sides_right, fun _ m => nomatch m⟩⟩
  · exact List.forall_mem_cons.mpr ⟨Option.isNone_iff_eq_none.mp kr_tf_l_read_right, List.forall_mem_cons.mpr ⟨Option.isNone_iff_eq_none.mp kr_tf_l_sides_right, fun _ m => nomatch m⟩⟩
  refine ⟨PySem.W.fnOf "law" "law" (defArgs s_law) (defBody s_law) (defScope s_law) .none kV_law dc_law pm_law an_law cd_law ct_law, fun s u => .of_eq rfl, fun base inB nsB sysB ND TBs => ?_⟩
  have SYS := sysB
  have TB_l_read_right : LamX.TabB base mg c0_l_read_right 715 := TBs (c0_l_read_right, 715) (by simp)
  have tc_l_read_right := rf_tc_l_read_right
  have TB_l_sides_right : LamX.TabB base mg c0_l_sides_right 729 := TBs (c0_l_sides_right, 729) (by simp)
  have tc_l_sides_right := rf_tc_l_sides_right
  have G_common_divisor := ok_common_divisor (P := l.prog) (w := w) (mg := mg) (base := base) F_common_divisor 
  have G_is_integer := ok_is_integer (P := l.prog) (w := w) (mg := mg) (base := base) F_is_integer n_isinstance n_bool n_int
  have G_is_positive := ok_is_positive (P := l.prog) (w := w) (mg := mg) (base := base) F_is_positive G_is_integer m_is_integer k_is_integer b_is_integer
  have G_l_cell := ok_l_cell (P := l.prog) (w := w) (mg := mg) (base := base) F_l_cell n_len
  have G_l_pool := ok_l_pool (P := l.prog) (w := w) (mg := mg) (base := base) F_l_pool n_abs
  have G_l_draw := ok_l_draw (P := l.prog) (w := w) (mg := mg) (base := base) F_l_draw n_divmod
  have G_l_low := ok_l_low (P := l.prog) (w := w) (mg := mg) (base := base) F_l_low 
  have G_is_fraction := ok_is_fraction (P := l.prog) (w := w) (mg := mg) (base := base) F_is_fraction n_len n_isinstance n_tuple G_common_divisor m_common_divisor k_common_divisor b_common_divisor G_is_positive m_is_positive k_is_positive b_is_positive
  have G_check_fractions := ok_check_fractions (P := l.prog) (w := w) (mg := mg) (base := base) F_check_fractions G_is_fraction m_is_fraction k_is_fraction b_is_fraction Z_InvalidFraction m_InvalidFraction
  have G_as_fraction := ok_as_fraction (P := l.prog) (w := w) (mg := mg) (base := base) F_as_fraction G_check_fractions m_check_fractions k_check_fractions b_check_fractions G_is_positive m_is_positive k_is_positive b_is_positive
  have G_format_fraction := ok_format_fraction (P := l.prog) (w := w) (mg := mg) (base := base) F_format_fraction G_check_fractions m_check_fractions k_check_fractions b_check_fractions ND
  have G_is_numeral := ok_is_numeral (P := l.prog) (w := w) (mg := mg) (base := base) F_is_numeral 
  have G_find_fraction := ok_find_fraction (P := l.prog) (w := w) (mg := mg) (base := base) F_find_fraction n_int n_isinstance n_str G_format_fraction m_format_fraction k_format_fraction b_format_fraction G_is_fraction m_is_fraction k_is_fraction b_is_fraction G_is_numeral m_is_numeral k_is_numeral b_is_numeral ND
  have G_Size_init := ok_Size_init (P := l.prog) (w := w) (mg := mg) (base := base) F_Size_init G_as_fraction m_as_fraction k_as_fraction b_as_fraction nf_Size_width nf_Size_height
  have G_l_mul := ok_l_mul (P := l.prog) (w := w) (mg := mg) (base := base) F_l_mul G_l_low m_l_low k_l_low b_l_low
  have G_l_part := ok_l_part (P := l.prog) (w := w) (mg := mg) (base := base) F_l_part G_l_low m_l_low k_l_low b_l_low G_l_draw m_l_draw k_l_draw b_l_draw
  have G_l_sides := ok_l_sides (P := l.prog) (w := w) (mg := mg) (base := base) F_l_sides G_l_part m_l_part k_l_part b_l_part G_l_mul m_l_mul k_l_mul b_l_mul G_l_low m_l_low k_l_low b_l_low G_l_draw m_l_draw k_l_draw b_l_draw
  have G_Size_str := ok_Size_str (P := l.prog) (w := w) (mg := mg) (base := base) F_Size_str G_format_fraction m_format_fraction k_format_fraction b_format_fraction nf_Size_width nf_Size_height
  have G_Size_repr := ok_Size_repr (P := l.prog) (w := w) (mg := mg) (base := base) F_Size_repr n_str G_Size_str b_Size_str od_Size_str
  have G_Size_read := ok_Size_read (P := l.prog) (w := w) (mg := mg) (base := base) F_Size_read n_isinstance n_str G_Size_init b_Size_init Z_InvalidText m_InvalidText G_find_fraction m_find_fraction k_find_fraction b_find_fraction M_Size
  have P_is_integer := okP_is_integer (P := l.prog) (w := w) (mg := mg) (base := base) F_is_integer n_isinstance n_bool n_int
  have P_is_positive := okP_is_positive (P := l.prog) (w := w) (mg := mg) (base := base) F_is_positive P_is_integer m_is_integer k_is_integer b_is_integer
  have P_common_divisor := okP_common_divisor (P := l.prog) (w := w) (mg := mg) (base := base) F_common_divisor 
  have P_is_fraction := okP_is_fraction (P := l.prog) (w := w) (mg := mg) (base := base) F_is_fraction n_len n_isinstance n_tuple P_common_divisor m_common_divisor k_common_divisor b_common_divisor P_is_positive m_is_positive k_is_positive b_is_positive
  have P_check_fractions := okP_check_fractions (P := l.prog) (w := w) (mg := mg) (base := base) F_check_fractions P_is_fraction m_is_fraction k_is_fraction b_is_fraction
  have P_format_fraction := okP_format_fraction (P := l.prog) (w := w) (mg := mg) (base := base) F_format_fraction P_check_fractions m_check_fractions k_check_fractions b_check_fractions
  have P_Size_str := okP_Size_str (P := l.prog) (w := w) (mg := mg) (base := base) F_Size_str P_format_fraction m_format_fraction k_format_fraction b_format_fraction nf_Size_width nf_Size_height
  have P_Size_repr := okP_Size_repr (P := l.prog) (w := w) (mg := mg) (base := base) F_Size_repr n_str P_Size_str b_Size_str od_Size_str
  have G_l_whole := ok_l_whole (P := l.prog) (w := w) (mg := mg) (base := base) F_l_whole n_isinstance n_bool n_int
  have G_l_is_part := ok_l_is_part (P := l.prog) (w := w) (mg := mg) (base := base) F_l_is_part n_len n_isinstance n_tuple G_l_low m_l_low k_l_low b_l_low G_l_whole m_l_whole k_l_whole b_l_whole
  have G_l_odd := ok_l_odd (P := l.prog) (w := w) (mg := mg) (base := base) F_l_odd n_str G_l_draw m_l_draw k_l_draw b_l_draw G_l_part m_l_part k_l_part b_l_part
  have FKK := ok_kind (P := l.prog) (w := w) (mg := mg) (base := base) F_l_kind NM n_isinstance n_ValueError n_LookupError n_ArithmeticError
  have CAU : CauD l.prog w K mg base (fun i => [C_InvalidFraction, C_InvalidSize, C_InvalidBox, C_InvalidKeep, C_InvalidTimes, C_InvalidStep, C_InvalidSteps, C_InvalidChain, C_InvalidText, C_InvalidKind, C_InvalidRecords, C_InvalidName, C_InvalidDeeds, C_InvalidLine, C_NoStep, C_UnknownName, C_NameTaken, C_NothingToUndo, C_TooManySteps, C_TooManyDeeds, C_PictureError, C_FindError, C_LimitError].getD i 0) f_l_caught f_l_kind _ _ := ⟨F_l_caught, b_l_caught, k_l_caught, m_l_caught, NM, FKK, b_l_kind, k_l_kind, m_l_kind, n_repr, sysB⟩
  have G_l_read := ok_l_read (P := l.prog) (w := w) (mg := mg) (base := base) F_l_read n_int n_len G_l_low m_l_low k_l_low b_l_low ND
  have G_l_two := ok_l_two (P := l.prog) (w := w) (mg := mg) (base := base) F_l_two n_len n_tuple G_l_read m_l_read k_l_read b_l_read
  have G_l_read_right := ok_l_read_right (P := l.prog) (w := w) (mg := mg) (base := base) F_l_read_right n_str n_repr n_isinstance G_Size_str b_Size_str G_Size_read b_Size_read kb_Size_read_1_text CAU G_Size_repr b_Size_repr G_l_two m_l_two k_l_two b_l_two ND SYS P_Size_repr er_InvalidText tc_l_read_right TB_l_read_right od_Size_str m_Size cr_Size cmt_Size_read od_Size_repr is_Size nf_Size_width nf_Size_height
  have G_l_is_side := ok_l_is_side (P := l.prog) (w := w) (mg := mg) (base := base) F_l_is_side G_l_is_part m_l_is_part k_l_is_part b_l_is_part G_l_whole m_l_whole k_l_whole b_l_whole
  have G_l_sides_right := ok_l_sides_right (P := l.prog) (w := w) (mg := mg) (base := base) F_l_sides_right n_repr CAU G_Size_init b_Size_init kb_Size_init_1_height_width G_l_is_side m_l_is_side k_l_is_side b_l_is_side G_Size_repr b_Size_repr P_Size_repr er_InvalidFraction tc_l_sides_right TB_l_sides_right m_Size M_Size od_Size_repr
  have G_l_shown := ok_l_shown (P := l.prog) (w := w) (mg := mg) (base := base) F_l_shown n_str
  have G_l_bent := ok_l_bent (P := l.prog) (w := w) (mg := mg) (base := base) F_l_bent n_str n_len G_l_draw m_l_draw k_l_draw b_l_draw G_l_shown m_l_shown k_l_shown b_l_shown
  have G_l_by_hand := ok_l_by_hand (P := l.prog) (w := w) (mg := mg) (base := base) F_l_by_hand n_all G_l_sides_right m_l_sides_right k_l_sides_right b_l_sides_right G_Size_init b_Size_init G_l_read_right m_l_read_right k_l_read_right b_l_read_right m_Size M_Size is_Size kt_Size_int kt_Size_bool kt_Size_str kt_Size_tuple kt_Size_list
  have G_l_right := ok_l_right (P := l.prog) (w := w) (mg := mg) (base := base) F_l_right n_range n_all G_l_sides_right m_l_sides_right k_l_sides_right b_l_sides_right G_l_odd m_l_odd k_l_odd b_l_odd G_l_read_right m_l_read_right k_l_read_right b_l_read_right G_l_bent m_l_bent k_l_bent b_l_bent G_l_shown m_l_shown k_l_shown b_l_shown G_l_sides m_l_sides k_l_sides b_l_sides
  have G_law := ok_law (P := l.prog) (w := w) (mg := mg) (base := base) F_law n_range n_len n_min n_max n_all G_l_right m_l_right k_l_right b_l_right G_l_pool m_l_pool k_l_pool b_l_pool G_l_cell m_l_cell k_l_cell b_l_cell G_l_by_hand m_l_by_hand k_l_by_hand b_l_by_hand
  exact G_law
end Gd
open PySem PySem.W PyProof.Rows
set_option maxRecDepth 100000 in
set_option maxHeartbeats 0 in
theorem PySem.Challenge.cw_sizechains_k09_sizes_read_and_refused_holds : PySem.Challenge.rw_sizechains_k09_sizes_read_and_refused.Holds := by
  w_on; o_law
  refine PySem.W.holds_open (q := Gd.q0) (loose := Gd.loose0) (Xt := Gd.seen0) (XP := PySem.W.XL Gd.q0 Gd.lv0) Gd.left0 (PySem.W.kmHook Gd.K0 Gd.as0 Gd.as0_ok Gd.ts0).of
    (PySem.W.kmHook Gd.K0 Gd.as0 Gd.as0_ok Gd.ts0).keeps (fun s h => PySem.W.xl_of s (Bool.and_eq_true_iff.mp h).1) PySem.W.XL.keeps
    (by rfl) (by rfl) (by rfl) (fun s h => PySem.W.recFacts_of (Bool.and_eq_true_iff.mp h).2) (by rfl) (by assumption) (by decide +kernel)
    ⟨rfl, rfl, rfl, rfl, rfl, by decide +kernel⟩ ?hw ?hc
  (case hw => w_witness2)
  k_fill
  refine Gd.walkTD (l := PySem.Challenge.rw_sizechains_k09_sizes_read_and_refused) (k := 27) (x := "_law_script") (cs := [(719, 715), (733, 729)]) (T0 := Gd.T0) rfl rfl ⟨rfl, by decide, by decide⟩ (fun w h Y => PySem.W.km_in_of Y) ?F (by decide) ?T ?C
  case T => exact List.forall_mem_cons.mpr ⟨⟨719, by simp⟩, List.forall_mem_cons.mpr ⟨⟨733, by simp⟩, fun _ m => nomatch m⟩⟩
  case C => exact List.forall_mem_cons.mpr ⟨⟨_, Gd.mem_l_read_right⟩, List.forall_mem_cons.mpr ⟨⟨_, Gd.mem_l_sides_right⟩, fun _ m => nomatch m⟩⟩
  case F =>
    intro w mean mg mb fa h TP Y KX G hmg
    refine' Gd.all_mk TP (PySem.W.km_tabs_of Y) KX G hmg ?a_common_divisor ?l_common_divisor ?c_common_divisor ?k_common_divisor ?a_is_integer ?l_is_integer ?c_is_integer ?k_is_integer ?a_is_positive ?l_is_positive ?c_is_positive ?k_is_positive ?a_l_cell ?l_l_cell ?c_l_cell ?k_l_cell ?a_l_pool ?l_l_pool ?c_l_pool ?k_l_pool ?a_l_draw ?l_l_draw ?c_l_draw ?k_l_draw ?a_l_low ?l_l_low ?c_l_low ?k_l_low ?a_is_fraction ?l_is_fraction ?c_is_fraction ?k_is_fraction ?a_check_fractions ?l_check_fractions ?c_check_fractions ?k_check_fractions ?a_as_fraction ?l_as_fraction ?c_as_fraction ?k_as_fraction ?a_format_fraction ?l_format_fraction ?c_format_fraction ?k_format_fraction ?a_is_numeral ?l_is_numeral ?c_is_numeral ?k_is_numeral ?a_find_fraction ?l_find_fraction ?c_find_fraction ?k_find_fraction ?a_l_mul ?l_l_mul ?c_l_mul ?k_l_mul ?a_l_part ?l_l_part ?c_l_part ?k_l_part ?a_l_sides ?l_l_sides ?c_l_sides ?k_l_sides ?a_l_whole ?l_l_whole ?c_l_whole ?k_l_whole ?a_l_is_part ?l_l_is_part ?c_l_is_part ?k_l_is_part ?a_l_odd ?l_l_odd ?c_l_odd ?k_l_odd ?a_l_kind ?l_l_kind ?c_l_kind ?k_l_kind ?a_l_caught ?l_l_caught ?c_l_caught ?k_l_caught ?a_l_read ?l_l_read ?c_l_read ?k_l_read ?a_l_two ?l_l_two ?c_l_two ?k_l_two ?a_l_read_right ?l_l_read_right ?c_l_read_right ?k_l_read_right ?a_l_is_side ?l_l_is_side ?c_l_is_side ?k_l_is_side ?a_l_sides_right ?l_l_sides_right ?c_l_sides_right ?k_l_sides_right ?a_l_shown ?l_l_shown ?c_l_shown ?k_l_shown ?a_l_bent ?l_l_bent ?c_l_bent ?k_l_bent ?a_l_by_hand ?l_l_by_hand ?c_l_by_hand ?k_l_by_hand ?a_l_right ?l_l_right ?c_l_right ?k_l_right ?a_law ?l_law ?c_law ?k_law ?z_isinstance ?z_bool ?z_int ?z_len ?z_abs ?z_divmod ?z_tuple ?z_str ?z_ValueError ?z_LookupError ?z_ArithmeticError ?z_repr ?z_all ?z_range ?z_min ?z_max ?ca_InvalidFraction ?ca_InvalidSize ?ca_InvalidBox ?ca_InvalidKeep ?ca_InvalidTimes ?ca_InvalidStep ?ca_InvalidSteps ?ca_InvalidChain ?ca_InvalidText ?ca_InvalidKind ?ca_InvalidRecords ?ca_InvalidName ?ca_InvalidDeeds ?ca_InvalidLine ?ca_NoStep ?ca_UnknownName ?ca_NameTaken ?ca_NothingToUndo ?ca_TooManySteps ?ca_TooManyDeeds ?ca_PictureError ?ca_FindError ?ca_LimitError ?kr_is_InvalidText ?kr_ek_InvalidText ?kr_er_InvalidText ?kr_is_InvalidFraction ?kr_ek_InvalidFraction ?kr_er_InvalidFraction ?rf_tc_l_read_right ?kr_td_l_read_right ?kr_tf_l_read_right ?rf_tc_l_sides_right ?kr_td_l_sides_right ?kr_tf_l_sides_right ?kr_imp ?ex_InvalidFraction ?kr_ev_InvalidFraction ?ei_InvalidFraction ?kr_eb_InvalidFraction ?el_InvalidFraction ?ec_InvalidFraction ?ex_InvalidText ?kr_ev_InvalidText ?ei_InvalidText ?kr_eb_InvalidText ?el_InvalidText ?ec_InvalidText ?ca_Size ?cg_Size ?ch_Size ?cp_Size ?cs_Size ?nq_Size_width ?nq_Size_height ?od1_Size_str ?od2_Size_str ?cm_Size ?ck_Size ?ci_Size ?cf2_Size ?cr1_Size ?cr2_Size ?rf_cm1_Size_read ?rf_cm2_Size_read ?cm3_Size_read ?od1_Size_repr ?od2_Size_repr ?is1_Size ?is2_Size ?is3_Size ?is4_Size ?ktq_Size_int ?ktq_Size_bool ?ktq_Size_str ?ktq_Size_tuple ?ktq_Size_list ?l_Size_init ?c_Size_init ?k_Size_init ?l_Size_str ?c_Size_str ?k_Size_str ?l_Size_repr ?c_Size_repr ?k_Size_repr ?l_Size_read ?c_Size_read ?k_Size_read
    (case a_common_divisor => first | k_is | kernel_rfl | rfl | decide +kernel)
    (case l_common_divisor => first | k_is | kernel_rfl | rfl | decide +kernel)
    (case c_common_divisor => first | k_is | kernel_rfl | rfl | decide +kernel)
    (case k_common_divisor => first | k_is | kernel_rfl | rfl | decide +kernel)
    (case a_is_integer => first | k_is | kernel_rfl | rfl | decide +kernel)
    (case l_is_integer => first | k_is | kernel_rfl | rfl | decide +kernel)
    (case c_is_integer => first | k_is | kernel_rfl | rfl | decide +kernel)
    (case k_is_integer => first | k_is | kernel_rfl | rfl | decide +kernel)
    (case a_is_positive => first | k_is | kernel_rfl | rfl | decide +kernel)
    (case l_is_positive => first | k_is | kernel_rfl | rfl | decide +kernel)
    (case c_is_positive => first | k_is | kernel_rfl | rfl | decide +kernel)
    (case k_is_positive => first | k_is | kernel_rfl | rfl | decide +kernel)
    (case a_l_cell => first | k_is | kernel_rfl | rfl | decide +kernel)
    (case l_l_cell => first | k_is | kernel_rfl | rfl | decide +kernel)
    (case c_l_cell => first | k_is | kernel_rfl | rfl | decide +kernel)
    (case k_l_cell => first | k_is | kernel_rfl | rfl | decide +kernel)
    (case a_l_pool => first | k_is | kernel_rfl | rfl | decide +kernel)
    (case l_l_pool => first | k_is | kernel_rfl | rfl | decide +kernel)
    (case c_l_pool => first | k_is | kernel_rfl | rfl | decide +kernel)
    (case k_l_pool => first | k_is | kernel_rfl | rfl | decide +kernel)
    (case a_l_draw => first | k_is | kernel_rfl | rfl | decide +kernel)
    (case l_l_draw => first | k_is | kernel_rfl | rfl | decide +kernel)
    (case c_l_draw => first | k_is | kernel_rfl | rfl | decide +kernel)
    (case k_l_draw => first | k_is | kernel_rfl | rfl | decide +kernel)
    (case a_l_low => first | k_is | kernel_rfl | rfl | decide +kernel)
    (case l_l_low => first | k_is | kernel_rfl | rfl | decide +kernel)
    (case c_l_low => first | k_is | kernel_rfl | rfl | decide +kernel)
    (case k_l_low => first | k_is | kernel_rfl | rfl | decide +kernel)
    (case a_is_fraction => first | k_is | kernel_rfl | rfl | decide +kernel)
    (case l_is_fraction => first | k_is | kernel_rfl | rfl | decide +kernel)
    (case c_is_fraction => first | k_is | kernel_rfl | rfl | decide +kernel)
    (case k_is_fraction => first | k_is | kernel_rfl | rfl | decide +kernel)
    (case a_check_fractions => first | k_is | kernel_rfl | rfl | decide +kernel)
    (case l_check_fractions => first | k_is | kernel_rfl | rfl | decide +kernel)
    (case c_check_fractions => first | k_is | kernel_rfl | rfl | decide +kernel)
    (case k_check_fractions => first | k_is | kernel_rfl | rfl | decide +kernel)
    (case a_as_fraction => first | k_is | kernel_rfl | rfl | decide +kernel)
    (case l_as_fraction => first | k_is | kernel_rfl | rfl | decide +kernel)
    (case c_as_fraction => first | k_is | kernel_rfl | rfl | decide +kernel)
    (case k_as_fraction => first | k_is | kernel_rfl | rfl | decide +kernel)
    (case a_format_fraction => first | k_is | kernel_rfl | rfl | decide +kernel)
    (case l_format_fraction => first | k_is | kernel_rfl | rfl | decide +kernel)
    (case c_format_fraction => first | k_is | kernel_rfl | rfl | decide +kernel)
    (case k_format_fraction => first | k_is | kernel_rfl | rfl | decide +kernel)
    (case a_is_numeral => first | k_is | kernel_rfl | rfl | decide +kernel)
    (case l_is_numeral => first | k_is | kernel_rfl | rfl | decide +kernel)
    (case c_is_numeral => first | k_is | kernel_rfl | rfl | decide +kernel)
    (case k_is_numeral => first | k_is | kernel_rfl | rfl | decide +kernel)
    (case a_find_fraction => first | k_is | kernel_rfl | rfl | decide +kernel)
    (case l_find_fraction => first | k_is | kernel_rfl | rfl | decide +kernel)
    (case c_find_fraction => first | k_is | kernel_rfl | rfl | decide +kernel)
    (case k_find_fraction => first | k_is | kernel_rfl | rfl | decide +kernel)
    (case a_l_mul => first | k_is | kernel_rfl | rfl | decide +kernel)
    (case l_l_mul => first | k_is | kernel_rfl | rfl | decide +kernel)
    (case c_l_mul => first | k_is | kernel_rfl | rfl | decide +kernel)
    (case k_l_mul => first | k_is | kernel_rfl | rfl | decide +kernel)
    (case a_l_part => first | k_is | kernel_rfl | rfl | decide +kernel)
    (case l_l_part => first | k_is | kernel_rfl | rfl | decide +kernel)
    (case c_l_part => first | k_is | kernel_rfl | rfl | decide +kernel)
    (case k_l_part => first | k_is | kernel_rfl | rfl | decide +kernel)
    (case a_l_sides => first | k_is | kernel_rfl | rfl | decide +kernel)
    (case l_l_sides => first | k_is | kernel_rfl | rfl | decide +kernel)
    (case c_l_sides => first | k_is | kernel_rfl | rfl | decide +kernel)
    (case k_l_sides => first | k_is | kernel_rfl | rfl | decide +kernel)
    (case a_l_whole => first | k_is | kernel_rfl | rfl | decide +kernel)
    (case l_l_whole => first | k_is | kernel_rfl | rfl | decide +kernel)
    (case c_l_whole => first | k_is | kernel_rfl | rfl | decide +kernel)
    (case k_l_whole => first | k_is | kernel_rfl | rfl | decide +kernel)
    (case a_l_is_part => first | k_is | kernel_rfl | rfl | decide +kernel)
    (case l_l_is_part => first | k_is | kernel_rfl | rfl | decide +kernel)
    (case c_l_is_part => first | k_is | kernel_rfl | rfl | decide +kernel)
    (case k_l_is_part => first | k_is | kernel_rfl | rfl | decide +kernel)
    (case a_l_odd => first | k_is | kernel_rfl | rfl | decide +kernel)
    (case l_l_odd => first | k_is | kernel_rfl | rfl | decide +kernel)
    (case c_l_odd => first | k_is | kernel_rfl | rfl | decide +kernel)
    (case k_l_odd => first | k_is | kernel_rfl | rfl | decide +kernel)
    (case a_l_kind => first | k_is | kernel_rfl | rfl | decide +kernel)
    (case l_l_kind => first | k_is | kernel_rfl | rfl | decide +kernel)
    (case c_l_kind => first | k_is | kernel_rfl | rfl | decide +kernel)
    (case k_l_kind => first | k_is | kernel_rfl | rfl | decide +kernel)
    (case a_l_caught => first | k_is | kernel_rfl | rfl | decide +kernel)
    (case l_l_caught => first | k_is | kernel_rfl | rfl | decide +kernel)
    (case c_l_caught => first | k_is | kernel_rfl | rfl | decide +kernel)
    (case k_l_caught => first | k_is | kernel_rfl | rfl | decide +kernel)
    (case a_l_read => first | k_is | kernel_rfl | rfl | decide +kernel)
    (case l_l_read => first | k_is | kernel_rfl | rfl | decide +kernel)
    (case c_l_read => first | k_is | kernel_rfl | rfl | decide +kernel)
    (case k_l_read => first | k_is | kernel_rfl | rfl | decide +kernel)
    (case a_l_two => first | k_is | kernel_rfl | rfl | decide +kernel)
    (case l_l_two => first | k_is | kernel_rfl | rfl | decide +kernel)
    (case c_l_two => first | k_is | kernel_rfl | rfl | decide +kernel)
    (case k_l_two => first | k_is | kernel_rfl | rfl | decide +kernel)
    (case a_l_read_right => first | k_is | kernel_rfl | rfl | decide +kernel)
    (case l_l_read_right => first | k_is | kernel_rfl | rfl | decide +kernel)
    (case c_l_read_right => first | k_is | kernel_rfl | rfl | decide +kernel)
    (case k_l_read_right => first | k_is | kernel_rfl | rfl | decide +kernel)
    (case a_l_is_side => first | k_is | kernel_rfl | rfl | decide +kernel)
    (case l_l_is_side => first | k_is | kernel_rfl | rfl | decide +kernel)
    (case c_l_is_side => first | k_is | kernel_rfl | rfl | decide +kernel)
    (case k_l_is_side => first | k_is | kernel_rfl | rfl | decide +kernel)
    (case a_l_sides_right => first | k_is | kernel_rfl | rfl | decide +kernel)
    (case l_l_sides_right => first | k_is | kernel_rfl | rfl | decide +kernel)
    (case c_l_sides_right => first | k_is | kernel_rfl | rfl | decide +kernel)
    (case k_l_sides_right => first | k_is | kernel_rfl | rfl | decide +kernel)
    (case a_l_shown => first | k_is | kernel_rfl | rfl | decide +kernel)
    (case l_l_shown => first | k_is | kernel_rfl | rfl | decide +kernel)
    (case c_l_shown => first | k_is | kernel_rfl | rfl | decide +kernel)
    (case k_l_shown => first | k_is | kernel_rfl | rfl | decide +kernel)
    (case a_l_bent => first | k_is | kernel_rfl | rfl | decide +kernel)
    (case l_l_bent => first | k_is | kernel_rfl | rfl | decide +kernel)
    (case c_l_bent => first | k_is | kernel_rfl | rfl | decide +kernel)
    (case k_l_bent => first | k_is | kernel_rfl | rfl | decide +kernel)
    (case a_l_by_hand => first | k_is | kernel_rfl | rfl | decide +kernel)
    (case l_l_by_hand => first | k_is | kernel_rfl | rfl | decide +kernel)
    (case c_l_by_hand => first | k_is | kernel_rfl | rfl | decide +kernel)
    (case k_l_by_hand => first | k_is | kernel_rfl | rfl | decide +kernel)
    (case a_l_right => first | k_is | kernel_rfl | rfl | decide +kernel)
    (case l_l_right => first | k_is | kernel_rfl | rfl | decide +kernel)
    (case c_l_right => first | k_is | kernel_rfl | rfl | decide +kernel)
    (case k_l_right => first | k_is | kernel_rfl | rfl | decide +kernel)
    (case a_law => first | k_is | kernel_rfl | rfl | decide +kernel)
    (case l_law => first | k_is | kernel_rfl | rfl | decide +kernel)
    (case c_law => first | k_is | kernel_rfl | rfl | decide +kernel)
    (case k_law => first | k_is | kernel_rfl | rfl | decide +kernel)
    (case z_isinstance => first | k_is | kernel_rfl | rfl | decide +kernel)
    (case z_bool => first | k_is | kernel_rfl | rfl | decide +kernel)
    (case z_int => first | k_is | kernel_rfl | rfl | decide +kernel)
    (case z_len => first | k_is | kernel_rfl | rfl | decide +kernel)
    (case z_abs => first | k_is | kernel_rfl | rfl | decide +kernel)
    (case z_divmod => first | k_is | kernel_rfl | rfl | decide +kernel)
    (case z_tuple => first | k_is | kernel_rfl | rfl | decide +kernel)
    (case z_str => first | k_is | kernel_rfl | rfl | decide +kernel)
    (case z_ValueError => first | k_is | kernel_rfl | rfl | decide +kernel)
    (case z_LookupError => first | k_is | kernel_rfl | rfl | decide +kernel)
    (case z_ArithmeticError => first | k_is | kernel_rfl | rfl | decide +kernel)
    (case z_repr => first | k_is | kernel_rfl | rfl | decide +kernel)
    (case z_all => first | k_is | kernel_rfl | rfl | decide +kernel)
    (case z_range => first | k_is | kernel_rfl | rfl | decide +kernel)
    (case z_min => first | k_is | kernel_rfl | rfl | decide +kernel)
    (case z_max => first | k_is | kernel_rfl | rfl | decide +kernel)
    (case ca_InvalidFraction => first | k_is | kernel_rfl | rfl | decide +kernel)
    (case ca_InvalidSize => first | k_is | kernel_rfl | rfl | decide +kernel)
    (case ca_InvalidBox => first | k_is | kernel_rfl | rfl | decide +kernel)
    (case ca_InvalidKeep => first | k_is | kernel_rfl | rfl | decide +kernel)
    (case ca_InvalidTimes => first | k_is | kernel_rfl | rfl | decide +kernel)
    (case ca_InvalidStep => first | k_is | kernel_rfl | rfl | decide +kernel)
    (case ca_InvalidSteps => first | k_is | kernel_rfl | rfl | decide +kernel)
    (case ca_InvalidChain => first | k_is | kernel_rfl | rfl | decide +kernel)
    (case ca_InvalidText => first | k_is | kernel_rfl | rfl | decide +kernel)
    (case ca_InvalidKind => first | k_is | kernel_rfl | rfl | decide +kernel)
    (case ca_InvalidRecords => first | k_is | kernel_rfl | rfl | decide +kernel)
    (case ca_InvalidName => first | k_is | kernel_rfl | rfl | decide +kernel)
    (case ca_InvalidDeeds => first | k_is | kernel_rfl | rfl | decide +kernel)
    (case ca_InvalidLine => first | k_is | kernel_rfl | rfl | decide +kernel)
    (case ca_NoStep => first | k_is | kernel_rfl | rfl | decide +kernel)
    (case ca_UnknownName => first | k_is | kernel_rfl | rfl | decide +kernel)
    (case ca_NameTaken => first | k_is | kernel_rfl | rfl | decide +kernel)
    (case ca_NothingToUndo => first | k_is | kernel_rfl | rfl | decide +kernel)
    (case ca_TooManySteps => first | k_is | kernel_rfl | rfl | decide +kernel)
    (case ca_TooManyDeeds => first | k_is | kernel_rfl | rfl | decide +kernel)
    (case ca_PictureError => first | k_is | kernel_rfl | rfl | decide +kernel)
    (case ca_FindError => first | k_is | kernel_rfl | rfl | decide +kernel)
    (case ca_LimitError => first | k_is | kernel_rfl | rfl | decide +kernel)
    (case kr_is_InvalidText => first | kernel_rfl | rfl | decide +kernel)
    (case kr_ek_InvalidText => first | kernel_rfl | rfl | decide +kernel)
    (case kr_er_InvalidText => first | kernel_rfl | rfl | decide +kernel)
    (case kr_is_InvalidFraction => first | kernel_rfl | rfl | decide +kernel)
    (case kr_ek_InvalidFraction => first | kernel_rfl | rfl | decide +kernel)
    (case kr_er_InvalidFraction => first | kernel_rfl | rfl | decide +kernel)
    (case rf_tc_l_read_right => rfl)
    (case kr_td_l_read_right => first | kernel_rfl | rfl | decide +kernel)
    (case kr_tf_l_read_right => first | kernel_rfl | rfl | decide +kernel)
    (case rf_tc_l_sides_right => rfl)
    (case kr_td_l_sides_right => first | kernel_rfl | rfl | decide +kernel)
    (case kr_tf_l_sides_right => first | kernel_rfl | rfl | decide +kernel)
    (case kr_imp => first | kernel_rfl | rfl | decide +kernel)
    (case ex_InvalidFraction => first | k_is | kernel_rfl | rfl | decide +kernel)
    (case kr_ev_InvalidFraction => first | kernel_rfl | rfl | decide +kernel)
    (case ei_InvalidFraction => first | k_is | kernel_rfl | rfl | decide +kernel)
    (case kr_eb_InvalidFraction => first | kernel_rfl | rfl | decide +kernel)
    (case el_InvalidFraction => first | k_is | kernel_rfl | rfl | decide +kernel)
    (case ec_InvalidFraction => first | k_is | kernel_rfl | rfl | decide +kernel)
    (case ex_InvalidText => first | k_is | kernel_rfl | rfl | decide +kernel)
    (case kr_ev_InvalidText => first | kernel_rfl | rfl | decide +kernel)
    (case ei_InvalidText => first | k_is | kernel_rfl | rfl | decide +kernel)
    (case kr_eb_InvalidText => first | kernel_rfl | rfl | decide +kernel)
    (case el_InvalidText => first | k_is | kernel_rfl | rfl | decide +kernel)
    (case ec_InvalidText => first | k_is | kernel_rfl | rfl | decide +kernel)
    (case ca_Size => first | k_is | kernel_rfl | rfl | decide +kernel)
    (case cg_Size => first | k_is | kernel_rfl | rfl | decide +kernel)
    (case ch_Size => first | k_is | kernel_rfl | rfl | decide +kernel)
    (case cp_Size => first | k_is | kernel_rfl | rfl | decide +kernel)
    (case cs_Size => first | k_is | kernel_rfl | rfl | decide +kernel)
    (case nq_Size_width => first | k_is | kernel_rfl | rfl | decide +kernel)
    (case nq_Size_height => first | k_is | kernel_rfl | rfl | decide +kernel)
    (case od1_Size_str => first | k_is | kernel_rfl | rfl | decide +kernel)
    (case od2_Size_str => first | k_is | kernel_rfl | rfl | decide +kernel)
    (case cm_Size => first | k_is | kernel_rfl | rfl | decide +kernel)
    (case ck_Size => first | k_is | kernel_rfl | rfl | decide +kernel)
    (case ci_Size => first | k_is | kernel_rfl | rfl | decide +kernel)
    (case cf2_Size => first | k_is | kernel_rfl | rfl | decide +kernel)
    (case cr1_Size => first | k_is | kernel_rfl | rfl | decide +kernel)
    (case cr2_Size => first | k_is | kernel_rfl | rfl | decide +kernel)
    (case rf_cm1_Size_read => rfl)
    (case rf_cm2_Size_read => rfl)
    (case cm3_Size_read => first | k_is | kernel_rfl | rfl | decide +kernel)
    (case od1_Size_repr => first | k_is | kernel_rfl | rfl | decide +kernel)
    (case od2_Size_repr => first | k_is | kernel_rfl | rfl | decide +kernel)
    (case is1_Size => first | k_is | kernel_rfl | rfl | decide +kernel)
    (case is2_Size => first | k_is | kernel_rfl | rfl | decide +kernel)
    (case is3_Size => first | k_is | kernel_rfl | rfl | decide +kernel)
    (case is4_Size => first | k_is | kernel_rfl | rfl | decide +kernel)
    (case ktq_Size_int => first | k_is | kernel_rfl | rfl | decide +kernel)
    (case ktq_Size_bool => first | k_is | kernel_rfl | rfl | decide +kernel)
    (case ktq_Size_str => first | k_is | kernel_rfl | rfl | decide +kernel)
    (case ktq_Size_tuple => first | k_is | kernel_rfl | rfl | decide +kernel)
    (case ktq_Size_list => first | k_is | kernel_rfl | rfl | decide +kernel)
    (case l_Size_init => first | k_is | kernel_rfl | rfl | decide +kernel)
    (case c_Size_init => first | k_is | kernel_rfl | rfl | decide +kernel)
    (case k_Size_init => first | k_is | kernel_rfl | rfl | decide +kernel)
    (case l_Size_str => first | k_is | kernel_rfl | rfl | decide +kernel)
    (case c_Size_str => first | k_is | kernel_rfl | rfl | decide +kernel)
    (case k_Size_str => first | k_is | kernel_rfl | rfl | decide +kernel)
    (case l_Size_repr => first | k_is | kernel_rfl | rfl | decide +kernel)
    (case c_Size_repr => first | k_is | kernel_rfl | rfl | decide +kernel)
    (case k_Size_repr => first | k_is | kernel_rfl | rfl | decide +kernel)
    (case l_Size_read => first | k_is | kernel_rfl | rfl | decide +kernel)
    (case c_Size_read => first | k_is | kernel_rfl | rfl | decide +kernel)
    (case k_Size_read => first | k_is | kernel_rfl | rfl | decide +kernel)
