import PyProof.Rows.All
import Wide.All
import OpenK.AllK
import Wide.FinOn
import HandS.ForMost
import HandS.Exc
import HandS.TryOnly
import HandS.ExcOwn
import HandS.WordsExc
import HandS.Flow
import HandS.Wide
import HandS.WideBits
import HandS.Defaults
import HandS.IsInst
import HandS.RaiseMore
import HandS.FStr
import HandS.Text
import HandS.StrMore
import HandS.Star
import HandS.Style
import HandS.ClsMeth
import HandS.Property
import HandS.CallLocal
import HandS.MakeKwOnly
import KE.KCallOwn
import PyProof.InstSpecial
import KE.KExcIs
import KE.KTryMore
import HandS.ExcInit
import HandS.ExcCtx
import HandS.HotCalls
import HandS.ExcField
import HandS.CallSlots
import HandS.Lambda
import HandS.EndTab
import HandS.SetFor
import HandS.Codes
import HandS.Walk
import HandS.DeepEq
import KE.KOpsOwn
import OpenK.KMeth
import HandS.TupMul
import HandS.OwnEq
import KE.GoesMore
import HandS.TupAny
import HandS.Deep
import KE.GoesZip
import HandS.Small
import PyProof.Rows.Range3
import KE.KDictZip
import KE.OsRunLaw
import HandS.Words
import PySem.Challenge.RW_sizechains_k07_whole_rules_of_exact
set_option Elab.async false
set_option linter.all false
set_option exponentiation.threshold 10000
set_option maxRecDepth 100000
namespace Gd
open PySem PySem.Spec PyProof.Rows L2
/-! the head -/
def top (i : Nat) : Stmt := PySem.Challenge.pw_sizechains_k07_whole_rules_of_exact.main.body.getD i (.Pass ⟨0, 0, 0, 0⟩)
abbrev s_InvalidFraction_init : Stmt := inClass (top 2) 0
abbrev s_InvalidText_init : Stmt := inClass (top 3) 0
abbrev s_is_integer : Stmt := top 5
abbrev s_is_positive : Stmt := top 6
abbrev s_common_divisor : Stmt := top 7
abbrev s_lowest_terms : Stmt := top 8
abbrev s_is_fraction : Stmt := top 9
abbrev s_check_fractions : Stmt := top 10
abbrev s_fraction : Stmt := top 11
abbrev s_product : Stmt := top 12
abbrev s_quotient : Stmt := top 13
abbrev s_order : Stmt := top 14
abbrev s_compare : Stmt := top 15
abbrev s_format_fraction : Stmt := top 16
abbrev s_is_numeral : Stmt := top 17
abbrev s_find_fraction : Stmt := top 18
abbrev s_parse_fraction : Stmt := top 19
abbrev s_l_cell : Stmt := top 21
abbrev s_l_pool : Stmt := top 22
abbrev s_l_draw : Stmt := top 23
abbrev s_l_low : Stmt := top 24
abbrev s_l_part : Stmt := top 25
abbrev s_l_less : Stmt := top 26
abbrev s_l_two_right : Stmt := top 27
abbrev s_l_kept_right : Stmt := top 28
abbrev s_l_three_right : Stmt := top 29
abbrev s_l_right : Stmt := top 30
abbrev s_law : Stmt := top 31
def q0 : Program := { PySem.Challenge.rw_sizechains_k07_whole_rules_of_exact.row.prog with main := { PySem.Challenge.rw_sizechains_k07_whole_rules_of_exact.row.prog.main with body := [top 1, top 2, top 3, top 5, top 6, top 7, top 8, top 9, top 10, top 12, top 13, top 14, top 15, top 16, top 17, top 18, top 19, top 21, top 22, top 23, top 24, top 25, top 26, top 27, top 28, top 29, top 30, top 31] } }
abbrev loose0 : List Str := [Str.ofString "fraction"]
abbrev lv0 : List (Str × PySem.W.WData) := []
abbrev seen0 (s : Shared) : Bool := PySem.W.xlAt q0 lv0 s && PySem.W.recOk (PySem.W.RowW.records (PySem.W.OpenRow.toRowW PySem.Challenge.rw_sizechains_k07_whole_rules_of_exact.row)) s
def K0 : PySem.Params → PySem.W.Frag := fun P => 
  (nat_lit 2, { cls := Value.none, data := Data.dict #[] }) ::
  (nat_lit 3, { cls := Value.type "dict", data := Data.dict #[{ hash := PyData.keyHash P (Str.ofString "__name__"), key := Value.str (Str.ofString "__name__") 165, val := Value.str (Str.ofString "law_sizechains_k07_whole_rules_of_exact") 386 }, { hash := PyData.keyHash P (Str.ofString "__doc__"), key := Value.str (Str.ofString "__doc__") 166, val := Value.none }, { hash := PyData.keyHash P (Str.ofString "__package__"), key := Value.str (Str.ofString "__package__") 167, val := Value.none }, { hash := PyData.keyHash P (Str.ofString "__loader__"), key := Value.str (Str.ofString "__loader__") 168, val := Value.builtin "__main__.__loader__#opaque" }, { hash := PyData.keyHash P (Str.ofString "__spec__"), key := Value.str (Str.ofString "__spec__") 169, val := Value.none }, { hash := PyData.keyHash P (Str.ofString "__annotations__"), key := Value.str (Str.ofString "__annotations__") 170, val := Value.ref 6 }, { hash := PyData.keyHash P (Str.ofString "__builtins__"), key := Value.str (Str.ofString "__builtins__") 171, val := Value.ref 4 }, { hash := PyData.keyHash P (Str.ofString "__file__"), key := Value.str (Str.ofString "__file__") 173, val := Value.str (Str.ofString "/claim/cut.py") 172 }, { hash := PyData.keyHash P (Str.ofString "__cached__"), key := Value.str (Str.ofString "__cached__") 174, val := Value.none }, { hash := PyData.keyHash P (Str.ofString "PictureError"), key := Value.str (Str.ofString "PictureError") 206, val := Value.ref 24 }, { hash := PyData.keyHash P (Str.ofString "InvalidFraction"), key := Value.str (Str.ofString "InvalidFraction") 231, val := Value.ref 44 }, { hash := PyData.keyHash P (Str.ofString "InvalidText"), key := Value.str (Str.ofString "InvalidText") 256, val := Value.ref 63 }, { hash := PyData.keyHash P (Str.ofString "is_integer"), key := Value.str (Str.ofString "is_integer") 265, val := Value.ref 72 }, { hash := PyData.keyHash P (Str.ofString "is_positive"), key := Value.str (Str.ofString "is_positive") 272, val := Value.ref 79 }, { hash := PyData.keyHash P (Str.ofString "common_divisor"), key := Value.str (Str.ofString "common_divisor") 280, val := Value.ref 86 }, { hash := PyData.keyHash P (Str.ofString "lowest_terms"), key := Value.str (Str.ofString "lowest_terms") 289, val := Value.ref 93 }, { hash := PyData.keyHash P (Str.ofString "is_fraction"), key := Value.str (Str.ofString "is_fraction") 298, val := Value.ref 100 }, { hash := PyData.keyHash P (Str.ofString "check_fractions"), key := Value.str (Str.ofString "check_fractions") 306, val := Value.ref 107 }, { hash := PyData.keyHash P (Str.ofString "fraction"), key := Value.str (Str.ofString "fraction") 316, val := Value.ref 115 }, { hash := PyData.keyHash P (Str.ofString "product"), key := Value.str (Str.ofString "product") 326, val := Value.ref 122 }, { hash := PyData.keyHash P (Str.ofString "quotient"), key := Value.str (Str.ofString "quotient") 334, val := Value.ref 129 }, { hash := PyData.keyHash P (Str.ofString "order"), key := Value.str (Str.ofString "order") 342, val := Value.ref 136 }, { hash := PyData.keyHash P (Str.ofString "compare"), key := Value.str (Str.ofString "compare") 350, val := Value.ref 143 }, { hash := PyData.keyHash P (Str.ofString "format_fraction"), key := Value.str (Str.ofString "format_fraction") 359, val := Value.ref 150 }, { hash := PyData.keyHash P (Str.ofString "is_numeral"), key := Value.str (Str.ofString "is_numeral") 366, val := Value.ref 157 }, { hash := PyData.keyHash P (Str.ofString "find_fraction"), key := Value.str (Str.ofString "find_fraction") 377, val := Value.ref 164 }, { hash := PyData.keyHash P (Str.ofString "parse_fraction"), key := Value.str (Str.ofString "parse_fraction") 385, val := Value.ref 171 }, { hash := PyData.keyHash P (Str.ofString "_law_cell"), key := Value.str (Str.ofString "_law_cell") 397, val := Value.ref 178 }, { hash := PyData.keyHash P (Str.ofString "_law_pool"), key := Value.str (Str.ofString "_law_pool") 405, val := Value.ref 185 }, { hash := PyData.keyHash P (Str.ofString "_law_draw"), key := Value.str (Str.ofString "_law_draw") 415, val := Value.ref 192 }, { hash := PyData.keyHash P (Str.ofString "_law_low"), key := Value.str (Str.ofString "_law_low") 425, val := Value.ref 199 }, { hash := PyData.keyHash P (Str.ofString "_law_part"), key := Value.str (Str.ofString "_law_part") 435, val := Value.ref 206 }, { hash := PyData.keyHash P (Str.ofString "_law_less"), key := Value.str (Str.ofString "_law_less") 443, val := Value.ref 213 }, { hash := PyData.keyHash P (Str.ofString "_law_two_right"), key := Value.str (Str.ofString "_law_two_right") 454, val := Value.ref 220 }, { hash := PyData.keyHash P (Str.ofString "_law_kept_right"), key := Value.str (Str.ofString "_law_kept_right") 461, val := Value.ref 227 }, { hash := PyData.keyHash P (Str.ofString "_law_three_right"), key := Value.str (Str.ofString "_law_three_right") 467, val := Value.ref 232 }, { hash := PyData.keyHash P (Str.ofString "_law_right"), key := Value.str (Str.ofString "_law_right") 480, val := Value.ref 239 }, { hash := PyData.keyHash P (Str.ofString "law"), key := Value.str (Str.ofString "law") 486, val := Value.ref 244 }] 38 }) ::
  (nat_lit 15, { cls := Value.type "tuple", data := Data.seq #[Value.type "ValueError"] }) ::
  (nat_lit 22, { cls := Value.type "tuple", data := Data.seq #[] }) ::
  (nat_lit 23, { cls := Value.type "dict", data := Data.dict #[{ hash := PyData.keyHash P (Str.ofString "__module__"), key := Value.str (Str.ofString "__module__") 196, val := Value.str (Str.ofString "sizechains.errors") 187 }, { hash := PyData.keyHash P (Str.ofString "__firstlineno__"), key := Value.str (Str.ofString "__firstlineno__") 200, val := Value.int 2 199 }, { hash := PyData.keyHash P (Str.ofString "__static_attributes__"), key := Value.str (Str.ofString "__static_attributes__") 201, val := Value.ref 22 }, { hash := PyData.keyHash P (Str.ofString "__weakref__"), key := Value.str (Str.ofString "__weakref__") 203, val := Value.ref 25 }, { hash := PyData.keyHash P (Str.ofString "__doc__"), key := Value.str (Str.ofString "__doc__") 204, val := Value.none }] 3 }) ::
  (nat_lit 24, { cls := Value.type "type", data := Data.cls { name := Str.ofString "PictureError", bases := [Value.type "ValueError"], mro := [Value.ref 24, Value.type "ValueError", Value.type "Exception", Value.type "BaseException", Value.type "object"], ns := 23, qualname := Str.ofString "PictureError", subclasses := [Value.ref 44, Value.ref 63] }, slots := #[some (Value.ref 15), none, some (Value.str (Str.ofString "PictureError") 189), some (Value.str (Str.ofString "PictureError") 197), some (Value.builtin "ValueError.__new__"), some (Value.bool true)] }) ::
  (nat_lit 25, { cls := Value.type "getset_descriptor", data := Data.fields #[Value.str (Str.ofString "__weakref__") 202, Value.ref 24, Value.builtin "ExceptionGroup.__weakref__", Value.none] }) ::
  (nat_lit 28, { cls := Value.type "tuple", data := Data.seq #[Value.ref 24] }) ::
  (nat_lit 35, { cls := Value.type "tuple", data := Data.seq #[] }) ::
  (nat_lit 37, { cls := Value.type "tuple", data := Data.seq #[Value.str (Str.ofString "self") 222, Value.str (Str.ofString "value") 223] }) ::
  (nat_lit 38, { cls := Value.type "tuple", data := Data.seq #[] }) ::
  (nat_lit 40, { cls := Value.type "code", data := Data.fields #[Value.str (Str.ofString "__init__") 219, Value.str (Str.ofString "InvalidFraction.__init__") 220, Value.str (Str.ofString "/claim/cut.py") 221, Value.int 6 0, Value.int 2 0, Value.int 0 0, Value.int 0 0, Value.int 3 0, Value.ref 35, Value.bool true, Value.int 181 0, Value.ref 36, Value.none, Value.ref 37, Value.ref 38, Value.ref 39, Value.int 224 0, Value.int 6 0, Value.str (Str.ofString "/claim/cut.py") 225] }) ::
  (nat_lit 41, ⟨Value.type "function", none, Data.func (PySem.W.fnOf (Str.ofString "__init__") (Str.ofString "InvalidFraction.__init__") (L2.defArgs s_InvalidFraction_init) (L2.defBody s_InvalidFraction_init) (L2.defScope s_InvalidFraction_init) (Value.none) (Value.none) (Value.none) (Value.str (Str.ofString "sizechains.errors") 187) (none) (Value.ref 40) (Value.none)), #[]⟩) ::
  (nat_lit 42, { cls := Value.type "tuple", data := Data.seq #[Value.str (Str.ofString "value") 227] }) ::
  (nat_lit 43, { cls := Value.type "dict", data := Data.dict #[{ hash := PyData.keyHash P (Str.ofString "__module__"), key := Value.str (Str.ofString "__module__") 214, val := Value.str (Str.ofString "sizechains.errors") 187 }, { hash := PyData.keyHash P (Str.ofString "__firstlineno__"), key := Value.str (Str.ofString "__firstlineno__") 218, val := Value.int 4 217 }, { hash := PyData.keyHash P (Str.ofString "__init__"), key := Value.str (Str.ofString "__init__") 226, val := Value.ref 41 }, { hash := PyData.keyHash P (Str.ofString "__static_attributes__"), key := Value.str (Str.ofString "__static_attributes__") 228, val := Value.ref 42 }, { hash := PyData.keyHash P (Str.ofString "__doc__"), key := Value.str (Str.ofString "__doc__") 229, val := Value.none }] 2 }) ::
  (nat_lit 44, { cls := Value.type "type", data := Data.cls { name := Str.ofString "InvalidFraction", bases := [Value.ref 24], mro := [Value.ref 44, Value.ref 24, Value.type "ValueError", Value.type "Exception", Value.type "BaseException", Value.type "object"], ns := 43, qualname := Str.ofString "InvalidFraction" }, slots := #[some (Value.ref 28), none, some (Value.str (Str.ofString "InvalidFraction") 207), some (Value.str (Str.ofString "InvalidFraction") 215), some (Value.builtin "ValueError.__new__"), some (Value.bool true)] }) ::
  (nat_lit 47, { cls := Value.type "tuple", data := Data.seq #[Value.ref 24] }) ::
  (nat_lit 54, { cls := Value.type "tuple", data := Data.seq #[] }) ::
  (nat_lit 56, { cls := Value.type "tuple", data := Data.seq #[Value.str (Str.ofString "self") 247, Value.str (Str.ofString "value") 248] }) ::
  (nat_lit 57, { cls := Value.type "tuple", data := Data.seq #[] }) ::
  (nat_lit 59, { cls := Value.type "code", data := Data.fields #[Value.str (Str.ofString "__init__") 244, Value.str (Str.ofString "InvalidText.__init__") 245, Value.str (Str.ofString "/claim/cut.py") 246, Value.int 10 0, Value.int 2 0, Value.int 0 0, Value.int 0 0, Value.int 3 0, Value.ref 54, Value.bool true, Value.int 181 0, Value.ref 55, Value.none, Value.ref 56, Value.ref 57, Value.ref 58, Value.int 249 0, Value.int 10 0, Value.str (Str.ofString "/claim/cut.py") 250] }) ::
  (nat_lit 60, ⟨Value.type "function", none, Data.func (PySem.W.fnOf (Str.ofString "__init__") (Str.ofString "InvalidText.__init__") (L2.defArgs s_InvalidText_init) (L2.defBody s_InvalidText_init) (L2.defScope s_InvalidText_init) (Value.none) (Value.none) (Value.none) (Value.str (Str.ofString "sizechains.errors") 187) (none) (Value.ref 59) (Value.none)), #[]⟩) ::
  (nat_lit 61, { cls := Value.type "tuple", data := Data.seq #[Value.str (Str.ofString "value") 252] }) ::
  (nat_lit 62, { cls := Value.type "dict", data := Data.dict #[{ hash := PyData.keyHash P (Str.ofString "__module__"), key := Value.str (Str.ofString "__module__") 239, val := Value.str (Str.ofString "sizechains.errors") 187 }, { hash := PyData.keyHash P (Str.ofString "__firstlineno__"), key := Value.str (Str.ofString "__firstlineno__") 243, val := Value.int 8 242 }, { hash := PyData.keyHash P (Str.ofString "__init__"), key := Value.str (Str.ofString "__init__") 251, val := Value.ref 60 }, { hash := PyData.keyHash P (Str.ofString "__static_attributes__"), key := Value.str (Str.ofString "__static_attributes__") 253, val := Value.ref 61 }, { hash := PyData.keyHash P (Str.ofString "__doc__"), key := Value.str (Str.ofString "__doc__") 254, val := Value.none }] 2 }) ::
  (nat_lit 63, { cls := Value.type "type", data := Data.cls { name := Str.ofString "InvalidText", bases := [Value.ref 24], mro := [Value.ref 63, Value.ref 24, Value.type "ValueError", Value.type "Exception", Value.type "BaseException", Value.type "object"], ns := 62, qualname := Str.ofString "InvalidText" }, slots := #[some (Value.ref 47), none, some (Value.str (Str.ofString "InvalidText") 232), some (Value.str (Str.ofString "InvalidText") 240), some (Value.builtin "ValueError.__new__"), some (Value.bool true)] }) ::
  (nat_lit 66, { cls := Value.type "tuple", data := Data.seq #[] }) ::
  (nat_lit 68, { cls := Value.type "tuple", data := Data.seq #[Value.str (Str.ofString "value") 262] }) ::
  (nat_lit 69, { cls := Value.type "tuple", data := Data.seq #[] }) ::
  (nat_lit 71, { cls := Value.type "code", data := Data.fields #[Value.str (Str.ofString "is_integer") 259, Value.str (Str.ofString "is_integer") 260, Value.str (Str.ofString "/claim/cut.py") 261, Value.int 13 0, Value.int 1 0, Value.int 0 0, Value.int 0 0, Value.int 3 0, Value.ref 66, Value.bool true, Value.int 181 0, Value.ref 67, Value.none, Value.ref 68, Value.ref 69, Value.ref 70, Value.int 263 0, Value.int 13 0, Value.str (Str.ofString "/claim/cut.py") 264] }) ::
  (nat_lit 72, ⟨Value.type "function", none, Data.func (PySem.W.fnOf (Str.ofString "is_integer") (Str.ofString "is_integer") (L2.defArgs s_is_integer) (L2.defBody s_is_integer) (L2.defScope s_is_integer) (Value.none) (Value.none) (Value.none) (Value.str (Str.ofString "sizechains.exact") 257) (none) (Value.ref 71) (Value.none)), #[]⟩) ::
  (nat_lit 73, { cls := Value.type "tuple", data := Data.seq #[] }) ::
  (nat_lit 75, { cls := Value.type "tuple", data := Data.seq #[Value.str (Str.ofString "value") 269] }) ::
  (nat_lit 76, { cls := Value.type "tuple", data := Data.seq #[] }) ::
  (nat_lit 78, { cls := Value.type "code", data := Data.fields #[Value.str (Str.ofString "is_positive") 266, Value.str (Str.ofString "is_positive") 267, Value.str (Str.ofString "/claim/cut.py") 268, Value.int 15 0, Value.int 1 0, Value.int 0 0, Value.int 0 0, Value.int 3 0, Value.ref 73, Value.bool true, Value.int 181 0, Value.ref 74, Value.none, Value.ref 75, Value.ref 76, Value.ref 77, Value.int 270 0, Value.int 15 0, Value.str (Str.ofString "/claim/cut.py") 271] }) ::
  (nat_lit 79, ⟨Value.type "function", none, Data.func (PySem.W.fnOf (Str.ofString "is_positive") (Str.ofString "is_positive") (L2.defArgs s_is_positive) (L2.defBody s_is_positive) (L2.defScope s_is_positive) (Value.none) (Value.none) (Value.none) (Value.str (Str.ofString "sizechains.exact") 257) (none) (Value.ref 78) (Value.none)), #[]⟩) ::
  (nat_lit 80, { cls := Value.type "tuple", data := Data.seq #[] }) ::
  (nat_lit 82, { cls := Value.type "tuple", data := Data.seq #[Value.str (Str.ofString "one") 276, Value.str (Str.ofString "other") 277] }) ::
  (nat_lit 83, { cls := Value.type "tuple", data := Data.seq #[] }) ::
  (nat_lit 85, { cls := Value.type "code", data := Data.fields #[Value.str (Str.ofString "common_divisor") 273, Value.str (Str.ofString "common_divisor") 274, Value.str (Str.ofString "/claim/cut.py") 275, Value.int 17 0, Value.int 2 0, Value.int 0 0, Value.int 0 0, Value.int 3 0, Value.ref 80, Value.bool true, Value.int 181 0, Value.ref 81, Value.none, Value.ref 82, Value.ref 83, Value.ref 84, Value.int 278 0, Value.int 17 0, Value.str (Str.ofString "/claim/cut.py") 279] }) ::
  (nat_lit 86, ⟨Value.type "function", none, Data.func (PySem.W.fnOf (Str.ofString "common_divisor") (Str.ofString "common_divisor") (L2.defArgs s_common_divisor) (L2.defBody s_common_divisor) (L2.defScope s_common_divisor) (Value.none) (Value.none) (Value.none) (Value.str (Str.ofString "sizechains.exact") 257) (none) (Value.ref 85) (Value.none)), #[]⟩) ::
  (nat_lit 87, { cls := Value.type "tuple", data := Data.seq #[] }) ::
  (nat_lit 89, { cls := Value.type "tuple", data := Data.seq #[Value.str (Str.ofString "top") 284, Value.str (Str.ofString "bottom") 285, Value.str (Str.ofString "divisor") 286] }) ::
  (nat_lit 90, { cls := Value.type "tuple", data := Data.seq #[] }) ::
  (nat_lit 92, { cls := Value.type "code", data := Data.fields #[Value.str (Str.ofString "lowest_terms") 281, Value.str (Str.ofString "lowest_terms") 282, Value.str (Str.ofString "/claim/cut.py") 283, Value.int 21 0, Value.int 2 0, Value.int 0 0, Value.int 0 0, Value.int 3 0, Value.ref 87, Value.bool true, Value.int 181 0, Value.ref 88, Value.none, Value.ref 89, Value.ref 90, Value.ref 91, Value.int 287 0, Value.int 21 0, Value.str (Str.ofString "/claim/cut.py") 288] }) ::
  (nat_lit 93, ⟨Value.type "function", none, Data.func (PySem.W.fnOf (Str.ofString "lowest_terms") (Str.ofString "lowest_terms") (L2.defArgs s_lowest_terms) (L2.defBody s_lowest_terms) (L2.defScope s_lowest_terms) (Value.none) (Value.none) (Value.none) (Value.str (Str.ofString "sizechains.exact") 257) (none) (Value.ref 92) (Value.none)), #[]⟩) ::
  (nat_lit 94, { cls := Value.type "tuple", data := Data.seq #[] }) ::
  (nat_lit 96, { cls := Value.type "tuple", data := Data.seq #[Value.str (Str.ofString "value") 293, Value.str (Str.ofString "top") 294, Value.str (Str.ofString "bottom") 295] }) ::
  (nat_lit 97, { cls := Value.type "tuple", data := Data.seq #[] }) ::
  (nat_lit 99, { cls := Value.type "code", data := Data.fields #[Value.str (Str.ofString "is_fraction") 290, Value.str (Str.ofString "is_fraction") 291, Value.str (Str.ofString "/claim/cut.py") 292, Value.int 24 0, Value.int 1 0, Value.int 0 0, Value.int 0 0, Value.int 3 0, Value.ref 94, Value.bool true, Value.int 181 0, Value.ref 95, Value.none, Value.ref 96, Value.ref 97, Value.ref 98, Value.int 296 0, Value.int 24 0, Value.str (Str.ofString "/claim/cut.py") 297] }) ::
  (nat_lit 100, ⟨Value.type "function", none, Data.func (PySem.W.fnOf (Str.ofString "is_fraction") (Str.ofString "is_fraction") (L2.defArgs s_is_fraction) (L2.defBody s_is_fraction) (L2.defScope s_is_fraction) (Value.none) (Value.none) (Value.none) (Value.str (Str.ofString "sizechains.exact") 257) (none) (Value.ref 99) (Value.none)), #[]⟩) ::
  (nat_lit 101, { cls := Value.type "tuple", data := Data.seq #[] }) ::
  (nat_lit 103, { cls := Value.type "tuple", data := Data.seq #[Value.str (Str.ofString "values") 302, Value.str (Str.ofString "value") 303] }) ::
  (nat_lit 104, { cls := Value.type "tuple", data := Data.seq #[] }) ::
  (nat_lit 106, { cls := Value.type "code", data := Data.fields #[Value.str (Str.ofString "check_fractions") 299, Value.str (Str.ofString "check_fractions") 300, Value.str (Str.ofString "/claim/cut.py") 301, Value.int 31 0, Value.int 1 0, Value.int 0 0, Value.int 0 0, Value.int 3 0, Value.ref 101, Value.bool true, Value.int 181 0, Value.ref 102, Value.none, Value.ref 103, Value.ref 104, Value.ref 105, Value.int 304 0, Value.int 31 0, Value.str (Str.ofString "/claim/cut.py") 305] }) ::
  (nat_lit 107, ⟨Value.type "function", none, Data.func (PySem.W.fnOf (Str.ofString "check_fractions") (Str.ofString "check_fractions") (L2.defArgs s_check_fractions) (L2.defBody s_check_fractions) (L2.defScope s_check_fractions) (Value.none) (Value.none) (Value.none) (Value.str (Str.ofString "sizechains.exact") 257) (none) (Value.ref 106) (Value.none)), #[]⟩) ::
  (nat_lit 108, { cls := Value.type "tuple", data := Data.seq #[Value.int 1 307] }) ::
  (nat_lit 109, { cls := Value.type "tuple", data := Data.seq #[] }) ::
  (nat_lit 111, { cls := Value.type "tuple", data := Data.seq #[Value.str (Str.ofString "top") 311, Value.str (Str.ofString "bottom") 312, Value.str (Str.ofString "part") 313] }) ::
  (nat_lit 112, { cls := Value.type "tuple", data := Data.seq #[] }) ::
  (nat_lit 114, { cls := Value.type "code", data := Data.fields #[Value.str (Str.ofString "fraction") 308, Value.str (Str.ofString "fraction") 309, Value.str (Str.ofString "/claim/cut.py") 310, Value.int 35 0, Value.int 2 0, Value.int 0 0, Value.int 0 0, Value.int 3 0, Value.ref 109, Value.bool true, Value.int 181 0, Value.ref 110, Value.none, Value.ref 111, Value.ref 112, Value.ref 113, Value.int 314 0, Value.int 35 0, Value.str (Str.ofString "/claim/cut.py") 315] }) ::
  (nat_lit 115, ⟨Value.type "function", none, Data.func (PySem.W.fnOf (Str.ofString "fraction") (Str.ofString "fraction") (L2.defArgs s_fraction) (L2.defBody s_fraction) (L2.defScope s_fraction) (Value.ref 108) (Value.none) (Value.none) (Value.str (Str.ofString "sizechains.exact") 257) (none) (Value.ref 114) (Value.none)), #[]⟩) ::
  (nat_lit 116, { cls := Value.type "tuple", data := Data.seq #[] }) ::
  (nat_lit 118, { cls := Value.type "tuple", data := Data.seq #[Value.str (Str.ofString "fractions") 320, Value.str (Str.ofString "top") 321, Value.str (Str.ofString "bottom") 322, Value.str (Str.ofString "factor") 323] }) ::
  (nat_lit 119, { cls := Value.type "tuple", data := Data.seq #[] }) ::
  (nat_lit 121, { cls := Value.type "code", data := Data.fields #[Value.str (Str.ofString "product") 317, Value.str (Str.ofString "product") 318, Value.str (Str.ofString "/claim/cut.py") 319, Value.int 40 0, Value.int 0 0, Value.int 0 0, Value.int 0 0, Value.int 7 0, Value.ref 116, Value.bool true, Value.int 181 0, Value.ref 117, Value.none, Value.ref 118, Value.ref 119, Value.ref 120, Value.int 324 0, Value.int 40 0, Value.str (Str.ofString "/claim/cut.py") 325] }) ::
  (nat_lit 122, ⟨Value.type "function", none, Data.func (PySem.W.fnOf (Str.ofString "product") (Str.ofString "product") (L2.defArgs s_product) (L2.defBody s_product) (L2.defScope s_product) (Value.none) (Value.none) (Value.none) (Value.str (Str.ofString "sizechains.exact") 257) (none) (Value.ref 121) (Value.none)), #[]⟩) ::
  (nat_lit 123, { cls := Value.type "tuple", data := Data.seq #[] }) ::
  (nat_lit 125, { cls := Value.type "tuple", data := Data.seq #[Value.str (Str.ofString "one") 330, Value.str (Str.ofString "other") 331] }) ::
  (nat_lit 126, { cls := Value.type "tuple", data := Data.seq #[] }) ::
  (nat_lit 128, { cls := Value.type "code", data := Data.fields #[Value.str (Str.ofString "quotient") 327, Value.str (Str.ofString "quotient") 328, Value.str (Str.ofString "/claim/cut.py") 329, Value.int 46 0, Value.int 2 0, Value.int 0 0, Value.int 0 0, Value.int 3 0, Value.ref 123, Value.bool true, Value.int 181 0, Value.ref 124, Value.none, Value.ref 125, Value.ref 126, Value.ref 127, Value.int 332 0, Value.int 46 0, Value.str (Str.ofString "/claim/cut.py") 333] }) ::
  (nat_lit 129, ⟨Value.type "function", none, Data.func (PySem.W.fnOf (Str.ofString "quotient") (Str.ofString "quotient") (L2.defArgs s_quotient) (L2.defBody s_quotient) (L2.defScope s_quotient) (Value.none) (Value.none) (Value.none) (Value.str (Str.ofString "sizechains.exact") 257) (none) (Value.ref 128) (Value.none)), #[]⟩) ::
  (nat_lit 130, { cls := Value.type "tuple", data := Data.seq #[] }) ::
  (nat_lit 132, { cls := Value.type "tuple", data := Data.seq #[Value.str (Str.ofString "left") 338, Value.str (Str.ofString "right") 339] }) ::
  (nat_lit 133, { cls := Value.type "tuple", data := Data.seq #[] }) ::
  (nat_lit 135, { cls := Value.type "code", data := Data.fields #[Value.str (Str.ofString "order") 335, Value.str (Str.ofString "order") 336, Value.str (Str.ofString "/claim/cut.py") 337, Value.int 49 0, Value.int 2 0, Value.int 0 0, Value.int 0 0, Value.int 3 0, Value.ref 130, Value.bool true, Value.int 181 0, Value.ref 131, Value.none, Value.ref 132, Value.ref 133, Value.ref 134, Value.int 340 0, Value.int 49 0, Value.str (Str.ofString "/claim/cut.py") 341] }) ::
  (nat_lit 136, ⟨Value.type "function", none, Data.func (PySem.W.fnOf (Str.ofString "order") (Str.ofString "order") (L2.defArgs s_order) (L2.defBody s_order) (L2.defScope s_order) (Value.none) (Value.none) (Value.none) (Value.str (Str.ofString "sizechains.exact") 257) (none) (Value.ref 135) (Value.none)), #[]⟩) ::
  (nat_lit 137, { cls := Value.type "tuple", data := Data.seq #[] }) ::
  (nat_lit 139, { cls := Value.type "tuple", data := Data.seq #[Value.str (Str.ofString "one") 346, Value.str (Str.ofString "other") 347] }) ::
  (nat_lit 140, { cls := Value.type "tuple", data := Data.seq #[] }) ::
  (nat_lit 142, { cls := Value.type "code", data := Data.fields #[Value.str (Str.ofString "compare") 343, Value.str (Str.ofString "compare") 344, Value.str (Str.ofString "/claim/cut.py") 345, Value.int 55 0, Value.int 2 0, Value.int 0 0, Value.int 0 0, Value.int 3 0, Value.ref 137, Value.bool true, Value.int 181 0, Value.ref 138, Value.none, Value.ref 139, Value.ref 140, Value.ref 141, Value.int 348 0, Value.int 55 0, Value.str (Str.ofString "/claim/cut.py") 349] }) ::
  (nat_lit 143, ⟨Value.type "function", none, Data.func (PySem.W.fnOf (Str.ofString "compare") (Str.ofString "compare") (L2.defArgs s_compare) (L2.defBody s_compare) (L2.defScope s_compare) (Value.none) (Value.none) (Value.none) (Value.str (Str.ofString "sizechains.exact") 257) (none) (Value.ref 142) (Value.none)), #[]⟩) ::
  (nat_lit 144, { cls := Value.type "tuple", data := Data.seq #[] }) ::
  (nat_lit 146, { cls := Value.type "tuple", data := Data.seq #[Value.str (Str.ofString "number") 354, Value.str (Str.ofString "top") 355, Value.str (Str.ofString "bottom") 356] }) ::
  (nat_lit 147, { cls := Value.type "tuple", data := Data.seq #[] }) ::
  (nat_lit 149, { cls := Value.type "code", data := Data.fields #[Value.str (Str.ofString "format_fraction") 351, Value.str (Str.ofString "format_fraction") 352, Value.str (Str.ofString "/claim/cut.py") 353, Value.int 58 0, Value.int 1 0, Value.int 0 0, Value.int 0 0, Value.int 3 0, Value.ref 144, Value.bool true, Value.int 181 0, Value.ref 145, Value.none, Value.ref 146, Value.ref 147, Value.ref 148, Value.int 357 0, Value.int 58 0, Value.str (Str.ofString "/claim/cut.py") 358] }) ::
  (nat_lit 150, ⟨Value.type "function", none, Data.func (PySem.W.fnOf (Str.ofString "format_fraction") (Str.ofString "format_fraction") (L2.defArgs s_format_fraction) (L2.defBody s_format_fraction) (L2.defScope s_format_fraction) (Value.none) (Value.none) (Value.none) (Value.str (Str.ofString "sizechains.exact") 257) (none) (Value.ref 149) (Value.none)), #[]⟩) ::
  (nat_lit 151, { cls := Value.type "tuple", data := Data.seq #[] }) ::
  (nat_lit 153, { cls := Value.type "tuple", data := Data.seq #[Value.str (Str.ofString "text") 363] }) ::
  (nat_lit 154, { cls := Value.type "tuple", data := Data.seq #[] }) ::
  (nat_lit 156, { cls := Value.type "code", data := Data.fields #[Value.str (Str.ofString "is_numeral") 360, Value.str (Str.ofString "is_numeral") 361, Value.str (Str.ofString "/claim/cut.py") 362, Value.int 64 0, Value.int 1 0, Value.int 0 0, Value.int 0 0, Value.int 3 0, Value.ref 151, Value.bool true, Value.int 181 0, Value.ref 152, Value.none, Value.ref 153, Value.ref 154, Value.ref 155, Value.int 364 0, Value.int 64 0, Value.str (Str.ofString "/claim/cut.py") 365] }) ::
  (nat_lit 157, ⟨Value.type "function", none, Data.func (PySem.W.fnOf (Str.ofString "is_numeral") (Str.ofString "is_numeral") (L2.defArgs s_is_numeral) (L2.defBody s_is_numeral) (L2.defScope s_is_numeral) (Value.none) (Value.none) (Value.none) (Value.str (Str.ofString "sizechains.exact") 257) (none) (Value.ref 156) (Value.none)), #[]⟩) ::
  (nat_lit 158, { cls := Value.type "tuple", data := Data.seq #[] }) ::
  (nat_lit 160, { cls := Value.type "tuple", data := Data.seq #[Value.str (Str.ofString "text") 370, Value.str (Str.ofString "top") 371, Value.str (Str.ofString "slash") 372, Value.str (Str.ofString "bottom") 373, Value.str (Str.ofString "number") 374] }) ::
  (nat_lit 161, { cls := Value.type "tuple", data := Data.seq #[] }) ::
  (nat_lit 163, { cls := Value.type "code", data := Data.fields #[Value.str (Str.ofString "find_fraction") 367, Value.str (Str.ofString "find_fraction") 368, Value.str (Str.ofString "/claim/cut.py") 369, Value.int 66 0, Value.int 1 0, Value.int 0 0, Value.int 0 0, Value.int 3 0, Value.ref 158, Value.bool true, Value.int 181 0, Value.ref 159, Value.none, Value.ref 160, Value.ref 161, Value.ref 162, Value.int 375 0, Value.int 66 0, Value.str (Str.ofString "/claim/cut.py") 376] }) ::
  (nat_lit 164, ⟨Value.type "function", none, Data.func (PySem.W.fnOf (Str.ofString "find_fraction") (Str.ofString "find_fraction") (L2.defArgs s_find_fraction) (L2.defBody s_find_fraction) (L2.defScope s_find_fraction) (Value.none) (Value.none) (Value.none) (Value.str (Str.ofString "sizechains.exact") 257) (none) (Value.ref 163) (Value.none)), #[]⟩) ::
  (nat_lit 165, { cls := Value.type "tuple", data := Data.seq #[] }) ::
  (nat_lit 167, { cls := Value.type "tuple", data := Data.seq #[Value.str (Str.ofString "text") 381, Value.str (Str.ofString "number") 382] }) ::
  (nat_lit 168, { cls := Value.type "tuple", data := Data.seq #[] }) ::
  (nat_lit 170, { cls := Value.type "code", data := Data.fields #[Value.str (Str.ofString "parse_fraction") 378, Value.str (Str.ofString "parse_fraction") 379, Value.str (Str.ofString "/claim/cut.py") 380, Value.int 78 0, Value.int 1 0, Value.int 0 0, Value.int 0 0, Value.int 3 0, Value.ref 165, Value.bool true, Value.int 181 0, Value.ref 166, Value.none, Value.ref 167, Value.ref 168, Value.ref 169, Value.int 383 0, Value.int 78 0, Value.str (Str.ofString "/claim/cut.py") 384] }) ::
  (nat_lit 171, ⟨Value.type "function", none, Data.func (PySem.W.fnOf (Str.ofString "parse_fraction") (Str.ofString "parse_fraction") (L2.defArgs s_parse_fraction) (L2.defBody s_parse_fraction) (L2.defScope s_parse_fraction) (Value.none) (Value.none) (Value.none) (Value.str (Str.ofString "sizechains.exact") 257) (none) (Value.ref 170) (Value.none)), #[]⟩) ::
  (nat_lit 172, { cls := Value.type "tuple", data := Data.seq #[] }) ::
  (nat_lit 174, { cls := Value.type "tuple", data := Data.seq #[Value.str (Str.ofString "_law_script") 391, Value.str (Str.ofString "_law_k") 392, Value.str (Str.ofString "_law_state") 393, Value.str (Str.ofString "_law_figure") 394] }) ::
  (nat_lit 175, { cls := Value.type "tuple", data := Data.seq #[] }) ::
  (nat_lit 177, { cls := Value.type "code", data := Data.fields #[Value.str (Str.ofString "_law_cell") 388, Value.str (Str.ofString "_law_cell") 389, Value.str (Str.ofString "/claim/cut.py") 390, Value.int 84 0, Value.int 2 0, Value.int 0 0, Value.int 0 0, Value.int 3 0, Value.ref 172, Value.bool true, Value.int 181 0, Value.ref 173, Value.none, Value.ref 174, Value.ref 175, Value.ref 176, Value.int 395 0, Value.int 84 0, Value.str (Str.ofString "/claim/cut.py") 396] }) ::
  (nat_lit 178, ⟨Value.type "function", none, Data.func (PySem.W.fnOf (Str.ofString "_law_cell") (Str.ofString "_law_cell") (L2.defArgs s_l_cell) (L2.defBody s_l_cell) (L2.defScope s_l_cell) (Value.none) (Value.none) (Value.none) (Value.str (Str.ofString "law_sizechains_k07_whole_rules_of_exact") 386) (none) (Value.ref 177) (Value.none)), #[]⟩) ::
  (nat_lit 179, { cls := Value.type "tuple", data := Data.seq #[] }) ::
  (nat_lit 181, { cls := Value.type "tuple", data := Data.seq #[Value.str (Str.ofString "_law_figure") 401, Value.str (Str.ofString "_law_digits") 402] }) ::
  (nat_lit 182, { cls := Value.type "tuple", data := Data.seq #[] }) ::
  (nat_lit 184, { cls := Value.type "code", data := Data.fields #[Value.str (Str.ofString "_law_pool") 398, Value.str (Str.ofString "_law_pool") 399, Value.str (Str.ofString "/claim/cut.py") 400, Value.int 91 0, Value.int 1 0, Value.int 0 0, Value.int 0 0, Value.int 3 0, Value.ref 179, Value.bool true, Value.int 181 0, Value.ref 180, Value.none, Value.ref 181, Value.ref 182, Value.ref 183, Value.int 403 0, Value.int 91 0, Value.str (Str.ofString "/claim/cut.py") 404] }) ::
  (nat_lit 185, ⟨Value.type "function", none, Data.func (PySem.W.fnOf (Str.ofString "_law_pool") (Str.ofString "_law_pool") (L2.defArgs s_l_pool) (L2.defBody s_l_pool) (L2.defScope s_l_pool) (Value.none) (Value.none) (Value.none) (Value.str (Str.ofString "law_sizechains_k07_whole_rules_of_exact") 386) (none) (Value.ref 184) (Value.none)), #[]⟩) ::
  (nat_lit 186, { cls := Value.type "tuple", data := Data.seq #[] }) ::
  (nat_lit 188, { cls := Value.type "tuple", data := Data.seq #[Value.str (Str.ofString "_law_pool_here") 409, Value.str (Str.ofString "_law_most") 410, Value.str (Str.ofString "_law_state") 411, Value.str (Str.ofString "_law_digit") 412] }) ::
  (nat_lit 189, { cls := Value.type "tuple", data := Data.seq #[] }) ::
  (nat_lit 191, { cls := Value.type "code", data := Data.fields #[Value.str (Str.ofString "_law_draw") 406, Value.str (Str.ofString "_law_draw") 407, Value.str (Str.ofString "/claim/cut.py") 408, Value.int 94 0, Value.int 2 0, Value.int 0 0, Value.int 0 0, Value.int 3 0, Value.ref 186, Value.bool true, Value.int 181 0, Value.ref 187, Value.none, Value.ref 188, Value.ref 189, Value.ref 190, Value.int 413 0, Value.int 94 0, Value.str (Str.ofString "/claim/cut.py") 414] }) ::
  (nat_lit 192, ⟨Value.type "function", none, Data.func (PySem.W.fnOf (Str.ofString "_law_draw") (Str.ofString "_law_draw") (L2.defArgs s_l_draw) (L2.defBody s_l_draw) (L2.defScope s_l_draw) (Value.none) (Value.none) (Value.none) (Value.str (Str.ofString "law_sizechains_k07_whole_rules_of_exact") 386) (none) (Value.ref 191) (Value.none)), #[]⟩) ::
  (nat_lit 193, { cls := Value.type "tuple", data := Data.seq #[] }) ::
  (nat_lit 195, { cls := Value.type "tuple", data := Data.seq #[Value.str (Str.ofString "_law_high_part") 419, Value.str (Str.ofString "_law_low_part") 420, Value.str (Str.ofString "_law_lead") 421, Value.str (Str.ofString "_law_rest") 422] }) ::
  (nat_lit 196, { cls := Value.type "tuple", data := Data.seq #[] }) ::
  (nat_lit 198, { cls := Value.type "code", data := Data.fields #[Value.str (Str.ofString "_law_low") 416, Value.str (Str.ofString "_law_low") 417, Value.str (Str.ofString "/claim/cut.py") 418, Value.int 102 0, Value.int 2 0, Value.int 0 0, Value.int 0 0, Value.int 3 0, Value.ref 193, Value.bool true, Value.int 181 0, Value.ref 194, Value.none, Value.ref 195, Value.ref 196, Value.ref 197, Value.int 423 0, Value.int 102 0, Value.str (Str.ofString "/claim/cut.py") 424] }) ::
  (nat_lit 199, ⟨Value.type "function", none, Data.func (PySem.W.fnOf (Str.ofString "_law_low") (Str.ofString "_law_low") (L2.defArgs s_l_low) (L2.defBody s_l_low) (L2.defScope s_l_low) (Value.none) (Value.none) (Value.none) (Value.str (Str.ofString "law_sizechains_k07_whole_rules_of_exact") 386) (none) (Value.ref 198) (Value.none)), #[]⟩) ::
  (nat_lit 200, { cls := Value.type "tuple", data := Data.seq #[] }) ::
  (nat_lit 202, { cls := Value.type "tuple", data := Data.seq #[Value.str (Str.ofString "_law_pool_here") 429, Value.str (Str.ofString "_law_great") 430, Value.str (Str.ofString "_law_way") 431, Value.str (Str.ofString "_law_most") 432] }) ::
  (nat_lit 203, { cls := Value.type "tuple", data := Data.seq #[] }) ::
  (nat_lit 205, { cls := Value.type "code", data := Data.fields #[Value.str (Str.ofString "_law_part") 426, Value.str (Str.ofString "_law_part") 427, Value.str (Str.ofString "/claim/cut.py") 428, Value.int 107 0, Value.int 2 0, Value.int 0 0, Value.int 0 0, Value.int 3 0, Value.ref 200, Value.bool true, Value.int 181 0, Value.ref 201, Value.none, Value.ref 202, Value.ref 203, Value.ref 204, Value.int 433 0, Value.int 107 0, Value.str (Str.ofString "/claim/cut.py") 434] }) ::
  (nat_lit 206, ⟨Value.type "function", none, Data.func (PySem.W.fnOf (Str.ofString "_law_part") (Str.ofString "_law_part") (L2.defArgs s_l_part) (L2.defBody s_l_part) (L2.defScope s_l_part) (Value.none) (Value.none) (Value.none) (Value.str (Str.ofString "law_sizechains_k07_whole_rules_of_exact") 386) (none) (Value.ref 205) (Value.none)), #[]⟩) ::
  (nat_lit 207, { cls := Value.type "tuple", data := Data.seq #[] }) ::
  (nat_lit 209, { cls := Value.type "tuple", data := Data.seq #[Value.str (Str.ofString "_law_lead") 439, Value.str (Str.ofString "_law_more") 440] }) ::
  (nat_lit 210, { cls := Value.type "tuple", data := Data.seq #[] }) ::
  (nat_lit 212, { cls := Value.type "code", data := Data.fields #[Value.str (Str.ofString "_law_less") 436, Value.str (Str.ofString "_law_less") 437, Value.str (Str.ofString "/claim/cut.py") 438, Value.int 113 0, Value.int 2 0, Value.int 0 0, Value.int 0 0, Value.int 3 0, Value.ref 207, Value.bool true, Value.int 181 0, Value.ref 208, Value.none, Value.ref 209, Value.ref 210, Value.ref 211, Value.int 441 0, Value.int 113 0, Value.str (Str.ofString "/claim/cut.py") 442] }) ::
  (nat_lit 213, ⟨Value.type "function", none, Data.func (PySem.W.fnOf (Str.ofString "_law_less") (Str.ofString "_law_less") (L2.defArgs s_l_less) (L2.defBody s_l_less) (L2.defScope s_l_less) (Value.none) (Value.none) (Value.none) (Value.str (Str.ofString "law_sizechains_k07_whole_rules_of_exact") 386) (none) (Value.ref 212) (Value.none)), #[]⟩) ::
  (nat_lit 214, { cls := Value.type "tuple", data := Data.seq #[] }) ::
  (nat_lit 216, { cls := Value.type "tuple", data := Data.seq #[Value.str (Str.ofString "_law_lead") 447, Value.str (Str.ofString "_law_more") 448, Value.str (Str.ofString "_law_both") 449, Value.str (Str.ofString "_law_over") 450, Value.str (Str.ofString "_law_sign") 451] }) ::
  (nat_lit 217, { cls := Value.type "tuple", data := Data.seq #[] }) ::
  (nat_lit 219, { cls := Value.type "code", data := Data.fields #[Value.str (Str.ofString "_law_two_right") 444, Value.str (Str.ofString "_law_two_right") 445, Value.str (Str.ofString "/claim/cut.py") 446, Value.int 115 0, Value.int 2 0, Value.int 0 0, Value.int 0 0, Value.int 3 0, Value.ref 214, Value.bool true, Value.int 181 0, Value.ref 215, Value.none, Value.ref 216, Value.ref 217, Value.ref 218, Value.int 452 0, Value.int 115 0, Value.str (Str.ofString "/claim/cut.py") 453] }) ::
  (nat_lit 220, ⟨Value.type "function", none, Data.func (PySem.W.fnOf (Str.ofString "_law_two_right") (Str.ofString "_law_two_right") (L2.defArgs s_l_two_right) (L2.defBody s_l_two_right) (L2.defScope s_l_two_right) (Value.none) (Value.none) (Value.none) (Value.str (Str.ofString "law_sizechains_k07_whole_rules_of_exact") 386) (none) (Value.ref 219) (Value.none)), #[]⟩) ::
  (nat_lit 221, { cls := Value.type "tuple", data := Data.seq #[] }) ::
  (nat_lit 223, { cls := Value.type "tuple", data := Data.seq #[Value.str (Str.ofString "_law_found") 458] }) ::
  (nat_lit 224, { cls := Value.type "tuple", data := Data.seq #[] }) ::
  (nat_lit 226, { cls := Value.type "code", data := Data.fields #[Value.str (Str.ofString "_law_kept_right") 455, Value.str (Str.ofString "_law_kept_right") 456, Value.str (Str.ofString "/claim/cut.py") 457, Value.int 127 0, Value.int 1 0, Value.int 0 0, Value.int 0 0, Value.int 3 0, Value.ref 221, Value.bool true, Value.int 181 0, Value.ref 222, Value.none, Value.ref 223, Value.ref 224, Value.ref 225, Value.int 459 0, Value.int 127 0, Value.str (Str.ofString "/claim/cut.py") 460] }) ::
  (nat_lit 227, ⟨Value.type "function", none, Data.func (PySem.W.fnOf (Str.ofString "_law_kept_right") (Str.ofString "_law_kept_right") (L2.defArgs s_l_kept_right) (L2.defBody s_l_kept_right) (L2.defScope s_l_kept_right) (Value.none) (Value.none) (Value.none) (Value.str (Str.ofString "law_sizechains_k07_whole_rules_of_exact") 386) (none) (Value.ref 226) (Value.none)), #[]⟩) ::
  (nat_lit 228, { cls := Value.type "tuple", data := Data.seq #[] }) ::
  (nat_lit 231, { cls := Value.type "code", data := Data.fields #[Value.str (Str.ofString "_law_three_right") 462, Value.str (Str.ofString "_law_three_right") 463, Value.str (Str.ofString "/claim/cut.py") 464, Value.int 131 0, Value.int 3 0, Value.int 0 0, Value.int 0 0, Value.int 3 0, Value.ref 228, Value.bool true, Value.int 181 0, Value.ref 229, Value.none, Value.none, Value.none, Value.ref 230, Value.int 465 0, Value.int 131 0, Value.str (Str.ofString "/claim/cut.py") 466] }) ::
  (nat_lit 232, ⟨Value.type "function", none, Data.func (PySem.W.fnOf (Str.ofString "_law_three_right") (Str.ofString "_law_three_right") (L2.defArgs s_l_three_right) (L2.defBody s_l_three_right) (L2.defScope s_l_three_right) (Value.none) (Value.none) (Value.none) (Value.str (Str.ofString "law_sizechains_k07_whole_rules_of_exact") 386) (none) (Value.ref 231) (Value.none)), #[]⟩) ::
  (nat_lit 233, { cls := Value.type "tuple", data := Data.seq #[] }) ::
  (nat_lit 235, { cls := Value.type "tuple", data := Data.seq #[Value.str (Str.ofString "_law_pool_here") 471, Value.str (Str.ofString "_law_turn") 472, Value.str (Str.ofString "_law_lead") 473, Value.str (Str.ofString "_law_more") 474, Value.str (Str.ofString "_law_last") 475, Value.str (Str.ofString "_law_rows") 476, Value.str (Str.ofString "_law_row") 477] }) ::
  (nat_lit 236, { cls := Value.type "tuple", data := Data.seq #[] }) ::
  (nat_lit 238, { cls := Value.type "code", data := Data.fields #[Value.str (Str.ofString "_law_right") 468, Value.str (Str.ofString "_law_right") 469, Value.str (Str.ofString "/claim/cut.py") 470, Value.int 147 0, Value.int 1 0, Value.int 0 0, Value.int 0 0, Value.int 3 0, Value.ref 233, Value.bool true, Value.int 181 0, Value.ref 234, Value.none, Value.ref 235, Value.ref 236, Value.ref 237, Value.int 478 0, Value.int 147 0, Value.str (Str.ofString "/claim/cut.py") 479] }) ::
  (nat_lit 239, ⟨Value.type "function", none, Data.func (PySem.W.fnOf (Str.ofString "_law_right") (Str.ofString "_law_right") (L2.defArgs s_l_right) (L2.defBody s_l_right) (L2.defScope s_l_right) (Value.none) (Value.none) (Value.none) (Value.str (Str.ofString "law_sizechains_k07_whole_rules_of_exact") 386) (none) (Value.ref 238) (Value.none)), #[]⟩) ::
  (nat_lit 240, { cls := Value.type "tuple", data := Data.seq #[] }) ::
  (nat_lit 243, { cls := Value.type "code", data := Data.fields #[Value.str (Str.ofString "law") 481, Value.str (Str.ofString "law") 482, Value.str (Str.ofString "/claim/cut.py") 483, Value.int 155 0, Value.int 1 0, Value.int 0 0, Value.int 0 0, Value.int 3 0, Value.ref 240, Value.bool true, Value.int 181 0, Value.ref 241, Value.none, Value.none, Value.none, Value.ref 242, Value.int 484 0, Value.int 155 0, Value.str (Str.ofString "/claim/cut.py") 485] }) ::
  (nat_lit 244, ⟨Value.type "function", none, Data.func (PySem.W.fnOf (Str.ofString "law") (Str.ofString "law") (L2.defArgs s_law) (L2.defBody s_law) (L2.defScope s_law) (Value.none) (Value.none) (Value.none) (Value.str (Str.ofString "law_sizechains_k07_whole_rules_of_exact") 386) (none) (Value.ref 243) (Value.none)), #[]⟩) :: []
def as0 : List Nat := [2, 3, 15, 22, 23, 24, 25, 28, 35, 37, 38, 40, 41, 42, 43, 44, 47, 54, 56, 57, 59, 60, 61, 62, 63, 66, 68, 69, 71, 72, 73, 75, 76, 78, 79, 80, 82, 83, 85, 86, 87, 89, 90, 92, 93, 94, 96, 97, 99, 100, 101, 103, 104, 106, 107, 108, 109, 111, 112, 114, 115, 116, 118, 119, 121, 122, 123, 125, 126, 128, 129, 130, 132, 133, 135, 136, 137, 139, 140, 142, 143, 144, 146, 147, 149, 150, 151, 153, 154, 156, 157, 158, 160, 161, 163, 164, 165, 167, 168, 170, 171, 172, 174, 175, 177, 178, 179, 181, 182, 184, 185, 186, 188, 189, 191, 192, 193, 195, 196, 198, 199, 200, 202, 203, 205, 206, 207, 209, 210, 212, 213, 214, 216, 217, 219, 220, 221, 223, 224, 226, 227, 228, 231, 232, 233, 235, 236, 238, 239, 240, 243, 244]
theorem as0_ok : ∀ P, as0 = (K0 P).map (·.1) := fun _ => by kernel_rfl
set_option maxHeartbeats 0 in
theorem left0 : PySem.W.LeftO PySem.Challenge.rw_sizechains_k07_whole_rules_of_exact.row.prog q0 loose0 seen0 (PySem.W.kHook K0 as0 as0_ok).obs (PySem.W.kHook K0 as0 as0_ok).val 3822 true :=
  HeadRun.left_oneK (M := 3122) (by kernel_rfl) (by rfl) (fun s => by kernel_rfl) (by rfl) (fun w os => by kernel_rfl)


/-! repr of data at any depth, where no repr is running around -/
structure RRepr (K : PySem.W.Frag) (xs : List V) (H : Hp) (Q : VK) : Prop where
  ex : ∃ (v : V) (d : PyData), xs = [v] ∧ Dp K H v d ∧ isDisplay d = true ∧ d.showable = true ∧ d.hasDict = false ∧ d.depth ≤ 64 ∧ d.shown.length ≤ sizeLine ∧ Q (.str d.shown) H
theorem reprData {X : Cx} (gds : X.A.guards = some []) (room : X.A.units + 70 < cLine) : CallR X (.builtin "repr") (RRepr X.K) := by
  intro pins st sl H xs us Q inv vals want
  obtain ⟨v, d, e, dp, dis, sh, nod, dep, len, q⟩ := want.ex
  subst e
  obtain ⟨u, eu, rel⟩ := vals1 vals
  subst eu
  obtain ⟨as, rd⟩ := Dp.reads inv d v u dp rel
  obtain ⟨a, ea⟩ := isRef_of_reads rd dis
  subst ea
  refine repr_of_reads' rd sh (PyData.noDict_hsm nod) gds (by omega) (fun _ _ z => z) (fun h' u' tk kp => ?_) len
  exact ⟨.str d.shown, H, inv.kept kp, ⟨_, rfl⟩, q⟩

/-! a def's promise where it is known that no repr is running around -/
structure FnG (P : Program) (w : World) (K : PySem.W.Frag) (mg : Str → Option Value) (base : Heap) (CX : CXT) (k : Nat) (f : Addr) (fd : FuncData) (ps : List Str) (sp : Sp) : Prop where
  len : ∀ vs H Q E, sp vs H Q E → vs.length = ps.length
  go : ∀ (A : Around) (out : List Env) (st : Shared) (H : Hp) (as : Args) (us : List Value) (vs : List V) (Q : VK) (E : XK), A.guards = some [] → Room k A → Env0 P w K mg base A out st H →
    BindsTo st fd as (ps.zip us) → Vals vs us → sp vs H Q E → codeAny (model P w) A (.call (.ref f) as) (CR CX out P w H st Q E) st
section
variable {P : Program} {w : World} {K : PySem.W.Frag} {mg : Str → Option Value} {base : Heap} {CX : CXT} {k : Nat} {f : Addr} {fd : FuncData} {ps : List Str} {sp : Sp}
theorem FnG.of (F : FnOk P w K mg base CX k f fd ps sp) : FnG P w K mg base CX k f fd ps sp :=
  ⟨F.len, fun A out st H as us vs Q E _ r e b v h => F.run A out st H as us vs Q E r e b v h⟩
theorem FnG.up {j : Nat} (F : FnG P w K mg base CX j f fd ps sp) (h : j ≤ k) : FnG P w K mg base CX k f fd ps sp :=
  ⟨F.len, fun A out st H as us vs Q E g r e b v s => F.go A out st H as us vs Q E g (r.mono h) e b v s⟩
theorem FnG.imp {sp' : Sp} (F : FnG P w K mg base CX k f fd ps sp) (h : ∀ vs H Q E, sp' vs H Q E → sp vs H Q E) : FnG P w K mg base CX k f fd ps sp' :=
  ⟨fun vs H Q E q => F.len vs H Q E (h _ _ _ _ q), fun A out st H as us vs Q E g r e b v s => F.go A out st H as us vs Q E g r e b v (h _ _ _ _ s)⟩

/-- by the body -/
theorem okG0 {name qual : Str} {params : Arguments} {body : List Stmt} {scope : Scope} {dV kV doc pm cdv ct oc : Value} {an od : Option Addr} {osl : Array (Option Value)} {N : List Str}
    (lk : K.lookup f = some ⟨oc, od, .func (PySem.W.fnOf name qual params body scope dV kV doc pm an cdv ct), osl⟩) (code : PySem.W.codeIn K cdv qual = true) (S : FnScope N ps scope)
    (len : ∀ vs H Q E, sp vs H Q E → vs.length = ps.length)
    (walk : ∀ (A : Around) (out : List Env) (st : Shared) (H : Hp) (vs : List V) (Q : VK) (E : XK), A.guards = some [] → Room k (A.deeper (envOfC qual scope st.heap.objs.size f cdv)) → sp vs H Q E →
      ∃ t, PSs (cxOf CX P w K mg base N qual scope f cdv A out st H E) body t ∧ t { nx := fun _ H' => Q .non H', rt := Q } (start N vs) H) :
    FnG P w K mg base CX (k + 1) f (PySem.W.fnOf name qual params body scope dV kV doc pm an cdv ct) ps sp := by
  refine ⟨len, ?_⟩
  intro A out st H as us vs Q E gds room env binds vals want
  have size := len _ _ _ _ want
  have lim : st.heap.NoLimit := env.mod.nolimit.keeps fun b o e => (env.bs b o e).1
  have inK : K.In st.heap := env.mod.kin.keeps fun b o e => (env.bs b o e).1
  have kinds : ∀ y ∈ ps.zip us, scope.names.lookup y.1 = some .local ∨ (scope.names.lookup y.1 = some .cell ∧ ((cellsFrom (st.heap.objs.size + 1) scope.names []).lookup y.1).isSome = true) := by
    rintro ⟨n, v⟩ mem
    have mem1 : n ∈ ps := (List.of_mem_zip mem).1
    cases S.par n mem1 with
    | inl loc => exact Or.inl loc
    | inr cel => exact Or.inr ⟨cel, PySem.W.cellsFrom_some _ _ _ (Or.inl cel)⟩
  refine codeAny_call_function room.depth (inK _ _ lk) rfl S.co S.gen rfl (PySem.W.codeRec_of inK code) (binds _ _ _ _ ?_)
  refine wpAny_newFunctionEnv_cells S.kind kinds fun en hen s1 inn => ?_
  subst hen
  refine ⟨lim.keeps inn.toInCall.keep, codeAny_func ?_⟩
  obtain ⟨t, term, read⟩ := walk A out st H vs Q E gds (room.deeper _) want
  have inv := inv_start (CX := CX) (E := E) S room.hd env size vals inn
  refine wpAny_mono (term.run [] s1 (start N vs) H _ inv read) (fun fl s' hs => ?_) fun _ _ hs => hs
  have done : ∀ {sl' : L2.St} {H' : Hp} {v : V} {u : Value}, Inv (cxOf CX P w K mg base N qual scope f cdv A out st H E) [] sl' H' s' → RelV v u → Q v H' → CE out P w H st Q u s' := by
    intro sl' H' v u J rel q
    exact ⟨v, H', J.os, J.bare, J.base, J.hok, rel, q⟩
  cases fl with
  | next =>
    obtain ⟨_, _, J, q⟩ := hs
    exact done (v := V.non) (u := Value.none) J rfl q
  | ret u =>
    obtain ⟨_, _, _, J, rel, q⟩ := hs
    exact done J rel q
  | brk => exact (hs.choose_spec.choose_spec.2).elim
  | cont => exact (hs.choose_spec.choose_spec.2).elim

/-- a def of the text without defaults, that lets nothing out -/
theorem okG {x qual : Str} {st : Stmt} {N : List Str} (F : Fun K x qual st f fd) (S : FnScope N ps (defScope st)) (len : ∀ vs H Q E, sp vs H Q E → vs.length = ps.length)
    (walk : ∀ (cdv : Value) (A : Around) (out : List Env) (s : Shared) (H : Hp) (vs : List V) (Q : VK) (E : XK), A.guards = some [] → Room k (A.deeper (envOfC qual (defScope st) s.heap.objs.size f cdv)) → sp vs H Q E →
      ∃ t, PSs (cxOf CX0 P w K mg base N qual (defScope st) f cdv A out s H E).nox (defBody st) t ∧ t { nx := fun _ H' => Q .non H', rt := Q } (start N vs) H) :
    FnG P w K mg base CX0 (k + 1) f fd ps sp := by
  obtain ⟨_, _, _, _, _, _, cdv, _, _, e, lk, code⟩ := F.ex
  subst e
  refine okG0 lk code S len ?_
  intro A out s H vs Q E g r want
  obtain ⟨t, term, read⟩ := walk cdv A out s H vs Q E g r want
  exact ⟨t, term.nox, read⟩
/-- one with defaults, that lets nothing out -/
theorem okD {x qual : Str} {st : Stmt} {N : List Str} {dvs : List V} (F : FunD K x qual (defArgs st) (defBody st) (defScope st) dvs [] f fd) (S : FnScope N ps (defScope st)) (len : ∀ vs H Q E, sp vs H Q E → vs.length = ps.length)
    (walk : ∀ (cdv : Value) (A : Around) (out : List Env) (s : Shared) (H : Hp) (vs : List V) (Q : VK) (E : XK), A.guards = some [] → Room k (A.deeper (envOfC qual (defScope st) s.heap.objs.size f cdv)) → sp vs H Q E →
      ∃ t, PSs (cxOf CX0 P w K mg base N qual (defScope st) f cdv A out s H E).nox (defBody st) t ∧ t { nx := fun _ H' => Q .non H', rt := Q } (start N vs) H) :
    FnG P w K mg base CX0 (k + 1) f fd ps sp := by
  obtain ⟨_, _, _, _, _, _, _, cdv, _, _, e, lk, code, _, _⟩ := F.ex
  subst e
  refine okG0 lk code S len ?_
  intro A out s H vs Q E g r want
  obtain ⟨t, term, read⟩ := walk cdv A out s H vs Q E g r want
  exact ⟨t, term.nox, read⟩
end

/-! calls -/
section
variable {X : Cx} {CX : CXT} {k n : Nat} {f : Addr} {fd : FuncData} {ps ks : List Str} {sp : Sp} {dvs : List V} {ds : List Value} {E : XK} {x : Str} {p pos : Pos} {e : Expr} {es : List Expr} {kws : List Keyword} {t tk : TA} {g : List Value → List Value → List Value} {gV : List V → List V → List V}
theorem goG {pins : List (Addr × Obj)} {sl : L2.St} {H : Hp} {s : Shared} {Q : VK} {us0 us : List Value} {kw : List (Str × Value)} {vs : List V} (F : FnG X.prog X.w X.K X.mg X.base CX k f fd ps sp) (gds : X.A.guards = some []) (hr : Room k X.A) (hx : Passes CX X E)
    (inv : Inv X pins sl H s) (b : BindsTo s fd ⟨us0, kw⟩ (ps.zip us)) (r : Vals vs us) (want : sp vs H Q E) : wpAny (model X.prog X.w) X.A (call (.ref f) us0 kw) (EP X pins sl Q) X.xe s := by
  refine wpAny_call (codeAny_mono (F.go X.A X.stack s H ⟨us0, kw⟩ us vs Q E gds hr inv.env0 b r want) fun r s' got => ?_)
  cases r with
  | error e => exact hx pins sl H s e s' inv got
  | ok fl =>
    cases fl with
    | ret u => exact inv.after got
    | next => exact got.elim
    | brk => exact got.elim
    | cont => exact got.elim
theorem callG (F : FnG X.prog X.w X.K X.mg X.base CX k f fd ps sp) (gds : X.A.guards = some []) (hr : Room k X.A) (hg : Gl X x) (hm : X.mg x = some (.ref f)) (hk : PySem.W.keepIn X.K (.ref f) = true) (hb : Binds X.K fd ps ds) (hd : Vals dvs ds) (hx : Passes CX X E)
    (ha : PA X (e :: es) t) (hdb : (x == ("__debug__" : Str)) = false := by decide) (he : starEach (e :: es) X.env = (false, eval e X.env) :: starEach es X.env := by rfl) (hpl : (backTo pos (starEach es X.env)).any (·.1) = false := by rfl) :
    PE X (.Call (.Name x p) (e :: es) [] pos) (tCall sp dvs E t) := by
  constructor
  intro pins s sl H Q inv want
  refine wpAny_Call_Name_kw (ld_glob inv hg hm ?_ hdb)
  refine PySem.W.callWith_K (h₀ := X.base) inv.ok.mod.kin hk (thn (ha.run pos pins s sl H _ inv want) ?_) he hpl
  rintro us s1 ⟨vs, H1, inv1, rel, q⟩
  refine ⟨inv1.kIn, ?_⟩
  have rel2 : Vals (vs ++ dvs) (us ++ ds) := rel.append hd
  have sz : (us ++ ds).length = ps.length := rel2.length.symm.trans (F.len _ _ _ _ q)
  exact goG F gds hr hx inv1 (hb s1 us inv1.kIn sz) rel2 q
theorem callG0 (F : FnG X.prog X.w X.K X.mg X.base CX k f fd ps sp) (gds : X.A.guards = some []) (hr : Room k X.A) (hg : Gl X x) (hm : X.mg x = some (.ref f)) (hk : PySem.W.keepIn X.K (.ref f) = true) (hb : Binds X.K fd ps ds) (hd : Vals dvs ds) (hx : Passes CX X E)
    (hdb : (x == ("__debug__" : Str)) = false := by decide) : PE X (.Call (.Name x p) [] [] pos) (tCall sp dvs E tNil) := by
  constructor
  intro pins s sl H Q inv want
  refine wpAny_Call_Name_kw (ld_glob inv hg hm ?_ hdb)
  refine PySem.W.callWith_K0 inv.kIn hk ?_
  have q : sp dvs H Q E := want
  have sz : (([] : List Value) ++ ds).length = ps.length := hd.length.symm.trans (F.len _ _ _ _ q)
  exact goG F gds hr hx inv (hb s [] inv.kIn sz) hd q
/-- f(e, .., k = v, ..) -/
theorem callGN (F : FnG X.prog X.w X.K X.mg X.base CX k f fd ps sp) (gds : X.A.guards = some []) (hr : Room k X.A) (hg : Gl X x) (hm : X.mg x = some (.ref f)) (hk : PySem.W.keepIn X.K (.ref f) = true) (hb : KBn X.K fd ps n ks g gV) (hx : Passes CX X E)
    (ha : PA X (e :: es) t) (hkw : PK X kws tk) (hall : (backToKw pos (keywordEach kws X.env)).all (·.1.isSome) = true := by rfl) (hks : (backToKw pos (keywordEach kws X.env)).filterMap (·.1) = ks := by rfl)
    (hdb : (x == ("__debug__" : Str)) = false := by decide) (he : starEach (e :: es) X.env = (false, eval e X.env) :: starEach es X.env := by rfl)
    (hpl : ((backTo pos (starEach (e :: es) X.env)).any (·.1) || (backToKw pos (keywordEach kws X.env)).any (·.1.isNone)) = false := by rfl) :
    PE X (.Call (.Name x p) (e :: es) kws pos) (tCallN n ks.length sp gV E t tk) := by
  constructor
  intro pins s sl H Q inv want
  refine wpAny_Call_Name_kw (ld_glob inv hg hm ?_ hdb)
  refine PySem.W.callWith_KW (h₀ := X.base) inv.ok.mod.kin hk hall (thn (ha.run pos pins s sl H _ inv want) ?_) hpl he
  rintro us s1 ⟨vs, H1, inv1, rel, q⟩
  refine thn (hkw.run pos pins s1 sl H1 _ inv1 q) ?_
  rintro ws s2 ⟨zs, H2, inv2, relz, l1, l2, q2⟩
  refine ⟨inv2.kIn, ?_⟩
  rw [hks]
  exact goG F gds hr hx inv2 (hb.to s2 us ws inv2.kIn (rel.length.symm.trans l1) (relz.length.symm.trans l2)) (hb.rel rel relz) q2
/-- f(k = v, ..) -/
theorem callGK (F : FnG X.prog X.w X.K X.mg X.base CX k f fd ps sp) (gds : X.A.guards = some []) (hr : Room k X.A) (hg : Gl X x) (hm : X.mg x = some (.ref f)) (hk : PySem.W.keepIn X.K (.ref f) = true) (hb : KBn X.K fd ps 0 ks g gV) (hx : Passes CX X E)
    (hkw : PK X kws tk) (hall : (backToKw pos (keywordEach kws X.env)).all (·.1.isSome) = true := by rfl) (hks : (backToKw pos (keywordEach kws X.env)).filterMap (·.1) = ks := by rfl)
    (hdb : (x == ("__debug__" : Str)) = false := by decide)
    (hpl : ((backTo pos (starEach [] X.env)).any (·.1) || (backToKw pos (keywordEach kws X.env)).any (·.1.isNone)) = false := by rfl) :
    PE X (.Call (.Name x p) [] kws pos) (tCallN 0 ks.length sp gV E tNil tk) := by
  constructor
  intro pins s sl H Q inv want
  refine wpAny_Call_Name_kw (ld_glob inv hg hm ?_ hdb)
  refine PySem.W.callWith_KW0 (h₀ := X.base) inv.ok.mod.kin hk hall ?_ hpl
  refine thn (hkw.run pos pins s sl H _ inv want) ?_
  rintro ws s2 ⟨zs, H2, inv2, relz, l1, l2, q2⟩
  refine ⟨inv2.kIn, ?_⟩
  rw [hks]
  exact goG F gds hr hx inv2 (hb.to s2 [] ws inv2.kIn rfl (relz.length.symm.trans l2)) (hb.rel .nil relz) q2
end


/-! the end: the law's promise at the heap behind the top -/
section
variable {P : Program} {w : World} {K : PySem.W.Frag} {mg mb : Str → Option Value} {k : Nat} {fa a : Addr} {fd : FuncData} {x : Str} {sp : Sp} {st : Shared} {vs : List Value} {ns : List Int}
/-- from one abstract heap in which the script alone may be tracked -/
theorem endCore (inK : K.In st.heap) (hns : st.heap.Ns mainGlobals mg) (hb : st.heap.Ns builtinsNs mb) (hbb : ∀ x : Str, x ≠ "__name__" → mb x = bootBuiltins x) (lim : st.heap.NoLimit) (gens : st.gens = #[])
    (ha : st.heap.get? a = some { cls := .type "list", data := .seq vs.toArray }) (hr : Room k callerA)
    (F : ∀ base : Heap, K.In base → base.Ns mainGlobals mg → FnG P w K mg base CX0 k fa fd [x] sp) (bind : ∀ (s : Shared) (u : Value), BindsTo s fd ⟨[u], []⟩ [(x, u)])
    {H : Hp} (only : Only H) (ok : HOk P w H st.heap) (one : ∀ b, H b ≠ none → b = a) (notK : H a ≠ none → K.lookup a = none) (want : sp [.ref a] H (fun v _ => v = .bl true) fun _ _ _ => False) :
    codeAny (model P w) callerA (.call (.ref fa) ⟨[.ref a], []⟩) (fun r s' => r = .ok (.ret (.bool true)) ∧ OldK st.heap s'.heap ∧ s'.os = st.os ∧ AllBare s'.gens) st := by
  have untracked : ∀ {b : Addr} {o : Obj}, st.heap.get? b = some o → (b = a → o.data ≠ .seq vs.toArray) → H b = none := by
    intro b o e n
    refine Option.eq_none_iff_forall_ne_some.mpr fun u z => ?_
    have eb := one b (by rw [z]; exact fun t => nomatch t)
    subst eb
    rw [ha] at e
    cases e
    exact n rfl rfl
  have toBase : ∀ {b : Addr} {m : Str → Option Value}, st.heap.Ns b m → (hidT st.heap H).Ns b m := by
    rintro b m ⟨o, es, ep, e, d, r⟩
    refine ⟨o, es, ep, hidT_get e (untracked e fun _ z => ?_), d, r⟩
    rw [d] at z
    cases z
  have inBase : K.In (hidT st.heap H) := by
    intro b o e
    refine hidT_get (inK b o e) (Option.eq_none_iff_forall_ne_some.mpr fun u z => ?_)
    have nn : H b ≠ none := by rw [z]; exact fun t => nomatch t
    have eb := one b nn
    subst eb
    rw [notK nn] at e
    cases e
  obtain ⟨mc, l1, l2⟩ := lim
  have md : Mod K mg (hidT st.heap H) := ⟨inBase, toBase hns, ⟨mb, toBase hb, hbb⟩, ⟨mc, toBase l1, l2⟩⟩
  have e0 : Env0 P w K mg (hidT st.heap H) callerA [] st H := by
    refine ⟨rfl, md, fun b o e => of_hidT e, Nat.le_of_eq (hidT_size _ _), trivial, fun b hb => ?_, ok, .of_eq gens⟩
    cases hb
  refine codeAny_mono ((F _ inBase md.glob).go callerA [] st H ⟨[.ref a], []⟩ [.ref a] [.ref a] _ _ rfl hr e0 (bind st (.ref a)) (.cons rfl .nil) want) fun r s' got => ?_
  cases r with
  | error e => exact got.elim
  | ok fl =>
    cases fl with
    | next => exact got.elim
    | brk => exact got.elim
    | cont => exact got.elim
    | ret u =>
      obtain ⟨v, H', os, bare, un, ok', rel, q⟩ := got
      have q2 : v = .bl true := q
      subst q2
      have q3 : u = Value.bool true := rel
      subst q3
      refine ⟨rfl, OldK.of_keep ?_, os, bare⟩
      intro b o e
      rcases only b with z | ⟨ob, xs, z⟩
      · refine un.keep b o e z (fun m => ?_) (by simp)
        cases m
      · have z2 := un.frzs b ob _ z
        obtain ⟨e1, _⟩ := ok b _ z
        obtain ⟨e2, _⟩ := ok' b _ z2
        rw [e1] at e
        cases e
        exact e2

theorem endCall (inK : K.In st.heap) (hns : st.heap.Ns mainGlobals mg) (hb : st.heap.Ns builtinsNs mb) (hbb : ∀ x : Str, x ≠ "__name__" → mb x = bootBuiltins x) (lim : st.heap.NoLimit) (gens : st.gens = #[])
    (ha : st.heap.get? a = some { cls := .type "list", data := .seq vs.toArray }) (hi : IntsAre vs ns) (hl : ns.length ≤ sizeLine) (hr : Room k callerA)
    (F : ∀ base : Heap, K.In base → base.Ns mainGlobals mg → FnG P w K mg base CX0 k fa fd [x] sp) (bind : ∀ (s : Shared) (u : Value), BindsTo s fd ⟨[u], []⟩ [(x, u)])
    (want : ∀ H : Hp, Only H → SqL K H a (ns.map V.int) → sp [.ref a] H (fun v _ => v = .bl true) fun _ _ _ => False) :
    codeAny (model P w) callerA (.call (.ref fa) ⟨[.ref a], []⟩) (fun r s' => r = .ok (.ret (.bool true)) ∧ OldK st.heap s'.heap ∧ s'.os = st.os ∧ AllBare s'.gens) st := by
  have rv := vals_ints hi
  cases hk : K.lookup a with
  | some o =>
    have e := inK a o hk
    rw [ha] at e
    cases e
    have seq : SqL K (fun _ => none) a (ns.map V.int) := .inr ⟨_, vs.toArray, _, hk, rfl, rfl, rfl, by rw [List.size_toArray, hi.length]; exact hl, by simpa using rv⟩
    refine endCore inK hns hb hbb lim gens ha hr F bind (fun _ => .inl rfl) ?_ (fun b z => absurd rfl z) (fun z => absurd rfl z) (want _ (fun _ => .inl rfl) seq)
    intro b u z
    cases (show (none : Option HO) = some u from z)
  | none =>
    have at_a : (fun b => if b = a then some (HO.frz { cls := .type "list", data := .seq vs.toArray } (.lst (ns.map V.int))) else none) a = some (HO.frz { cls := .type "list", data := .seq vs.toArray } (.lst (ns.map V.int))) := if_pos rfl
    have only : Only (fun b => if b = a then some (HO.frz { cls := .type "list", data := .seq vs.toArray } (.lst (ns.map V.int))) else none) := by
      intro b
      by_cases e : b = a
      · exact .inr ⟨_, _, if_pos e⟩
      · exact .inl (if_neg e)
    refine endCore inK hns hb hbb lim gens ha hr F bind only ?_ (fun b z => ?_) (fun _ => hk) (want _ only (.inl (.inr ⟨_, at_a⟩)))
    · intro b u z
      by_cases e : b = a
      · subst e
        cases (at_a.symm.trans z)
        exact ⟨ha, by rw [List.length_map]; exact hl, vs, _, rv, ha⟩
      · cases ((if_neg e).symm.trans z)
    · by_cases e : b = a
      · exact e
      · exact absurd (if_neg e) z
end

theorem walkG {l : PySem.W.OpenLaw} {n k : Nat} {q : Program} {loose : List Str} {XP : (Str → Option Value) → Heap → Prop} {YP : World → Heap → Prop} {d : DefRec} {K : Params → PySem.W.Frag} {sp : PySem.W.Frag → Sp} {x : Str}
    (hn : l.most = some n) (hn2 : n ≤ sizeLine) (hdf : d.params.defaults = []) (hr : Room k callerA) (hY : ∀ (w : World) (h : Heap), YP w h → (K w.params).In h)
    (F : ∀ (w : World) (mg : Str → Option Value) (fa : Addr) (h : Heap), (K w.params).In h → h.Ns mainGlobals mg → mg d.name = some (.ref fa) →
      ∃ fd : FuncData, (∀ (s : Shared) (u : Value), BindsTo s fd ⟨[u], []⟩ [(x, u)]) ∧ ∀ base : Heap, (K w.params).In base → base.Ns mainGlobals mg → FnG l.prog w (K w.params) mg base CX0 k fa fd [x] (sp (K w.params)))
    (want : ∀ (K : PySem.W.Frag) (H : Hp) (a : Addr) (ns : List Int), ns.length ≤ n → Only H → SqL K H a (ns.map V.int) → sp K [.ref a] H (fun v _ => v = .bl true) fun _ _ _ => False) :
    PySem.W.WalkO q loose XP YP l.row.toRowW d [] (fun f vs => PySem.call f vs) := by
  refine Att.attach_call hn hdf ?_
  intro w s₀ s₁ mg mb fa o pm cd doc a vs ns G Y ho hd hcd hmg hobj hints hlen hg
  obtain ⟨fd, hb, hF⟩ := F w mg fa _ (hY w _ Y) G.T.g hmg
  exact endCall (hY w _ Y) G.T.g G.T.b G.T.builtins G.T.nolimit hg hobj hints (Nat.le_trans hlen hn2) hr hF hb fun H only seq => want (K w.params) H a ns hlen only seq

/-! arguments where some parameters have defaults -/
theorem bindD {K : PySem.W.Frag} {x qual : Str} {params : Arguments} {body : List Stmt} {scope : Scope} {dvs : List V} {f : Addr} {fd : FuncData} {ps : List Str}
    (F : FunD K x qual params body scope dvs [] f fd) (n : Nat) (ks : List Str) (g : {α : Type} → List α → List α → List α → List α) (some_ : dvs ≠ [])
    (rel : ∀ {vs ds zs : List V} {us its ws : List Value}, Vals vs us → Vals ds its → Vals zs ws → Vals (g vs ds zs) (g us its ws))
    (h : ∀ (T : Addr) (kV doc pm : Value) (an : Option Addr) (cdv ct : Value) (us its ws : List Value), us.length = n → its.length = dvs.length → ws.length = ks.length →
      ∃ k, bindArgs (PySem.W.fnOf x qual params body scope (.ref T) kV doc pm an cdv ct) ⟨us, ks.zip ws⟩ = seqItems? (.ref T) >>= k ∧ k (some its.toArray) = pure (ps.zip (g us its ws))) :
    ∃ its : List Value, KBn K fd ps n ks (fun us ws => g us its ws) (fun vs zs => g vs dvs zs) := by
  obtain ⟨oc, od, dV, kV, doc, pm, an, cdv, ct, osl, e, lk, hcd, hD, hK⟩ := F.ex
  subst e
  rcases hD with ⟨e, _⟩ | ⟨_, T, o, its, m, e, lT, oT, rT⟩
  · exact absurd e some_
  · subst e
    refine ⟨its, ⟨fun s us ws inK l1 l2 => ?_, fun r1 r2 => rel r1 rT r2⟩⟩
    obtain ⟨k, e1, e2⟩ := h T kV doc pm an cdv ct us its ws l1 rT.length.symm l2
    refine BindsTo.of_looks fun M => ?_
    rw [e1]
    exact looks_items inK lT oT (.of_pure e2)
/-- the same without any default -/
theorem bindN {K : PySem.W.Frag} {x qual : Str} {st : Stmt} {f : Addr} {fd : FuncData} {ps : List Str} (F : Fun K x qual st f fd) (n : Nat) (ks : List Str) (g : {α : Type} → List α → List α → List α)
    (rel : ∀ {vs zs : List V} {us ws : List Value}, Vals vs us → Vals zs ws → Vals (g vs zs) (g us ws))
    (h : ∀ (kV doc pm : Value) (an : Option Addr) (cdv ct : Value) (us ws : List Value), us.length = n → ws.length = ks.length →
      bindArgs (PySem.W.fnOf x qual (defArgs st) (defBody st) (defScope st) .none kV doc pm an cdv ct) ⟨us, ks.zip ws⟩ = pure (ps.zip (g us ws))) :
    KBn K fd ps n ks (fun us ws => g us ws) (fun vs zs => g vs zs) := by
  obtain ⟨oc, od, kV, doc, pm, an, cdv, ct, osl, e, lk, hcd⟩ := F.ex
  subst e
  exact ⟨fun s us ws _ l1 l2 => .of_eq (h kV doc pm an cdv ct us ws l1 l2), fun r1 r2 => rel r1 r2⟩

/-! ### values as trees -/
inductive T where
  | non | bl (b : Bool) | int (i : Int) | str (z : Str) | ty (n : String) | st (a : Addr) | cell (a : Addr)
  | tup (l : List T) | lst (l : List T) | scr (l : List T) | ins (C : Addr) (l : List (Str × T)) | dct | exc (C : Addr) (l : List (Str × T))
/-- what changes: a list, an instance -/
inductive Cell where
  | lst (l : List T) | ins (C : Addr) (l : List (Str × T))
abbrev Store := Addr → Option Cell
def Store.put (S : Store) (a : Addr) (c : Cell) : Store := fun b => if b = a then some c else S b
def Store.drop (S : Store) (a : Addr) : Store := fun b => if b = a then none else S b
theorem put_same {S : Store} {a : Addr} {c : Cell} : S.put a c a = some c := by unfold Store.put; rw [if_pos rfl]
theorem put_ne {S : Store} {a b : Addr} {c : Cell} (h : b ≠ a) : S.put a c b = S b := by unfold Store.put; rw [if_neg h]
theorem drop_same {S : Store} {a : Addr} : S.drop a a = none := by unfold Store.drop; rw [if_pos rfl]
theorem drop_ne {S : Store} {a b : Addr} (h : b ≠ a) : S.drop a b = S b := by unfold Store.drop; rw [if_neg h]
theorem put_put {S : Store} {a : Addr} {c d : Cell} : (S.put a c).put a d = S.put a d := by
  funext b; unfold Store.put; split <;> rfl
theorem put_drop {S : Store} {a : Addr} {c : Cell} (h : S a = none) : (S.put a c).drop a = S := by
  funext b
  by_cases e : b = a
  · subst e; rw [drop_same, h]
  · rw [drop_ne e, put_ne e]
section
variable (K : PySem.W.Frag) (Z : Addr → Prop) (S : Store) (H : Hp)
def TupAt (p : Addr) (vs : List V) : Prop := (Rd H p (.tup vs) ∧ S p = none ∧ ¬ Z p) ∨
  ∃ (o : Obj) (its : Array Value) (n : Nat), K.lookup p = some o ∧ o.cls = .type "tuple" ∧ o.data = .seq its n ∧ its.size ≤ sizeLine ∧ Vals vs its.toList
def LstAt (p : Addr) (vs : List V) : Prop := H p = some (.lst vs) ∧ S p = none ∧ ¬ Z p
def ScrAt (p : Addr) (vs : List V) : Prop := ((∃ o, H p = some (.frz o (.lst vs))) ∧ S p = none ∧ ¬ Z p) ∨
  ∃ (o : Obj) (its : Array Value) (n : Nat), K.lookup p = some o ∧ o.cls = .type "list" ∧ o.dict = none ∧ o.data = .seq its n ∧ its.size ≤ sizeLine ∧ Vals vs its.toList
/-- an error of a class of the program's own, with its own dict -/
def ExcAt (p C dx : Addr) : Heap → Prop := fun h => ∃ (oe : Obj) (t1 : Addr), h.get? p = some oe ∧ oe.cls = .ref C ∧ oe.dict = some dx ∧ oe.data = .fields #[.ref t1, .none, .none, .none, .bool false, .none]
mutual
inductive Rep : V → T → Prop
  | non : Rep .non .non
  | bl (b : Bool) : Rep (.bl b) (.bl b)
  | int (i : Int) : Rep (.int i) (.int i)
  | str (z : Str) : Rep (.str z) (.str z)
  | ty (n : String) : Rep (.ty n) (.ty n)
  | st (a : Addr) : Rep (.ref a) (.st a)
  | cell (a : Addr) : Rep (.ref a) (.cell a)
  | tup {p : Addr} {vs : List V} {ts : List T} (h : TupAt K Z S H p vs) (r : Reps vs ts) : Rep (.ref p) (.tup ts)
  | lst {p : Addr} {vs : List V} {ts : List T} (h : LstAt Z S H p vs) (r : Reps vs ts) : Rep (.ref p) (.lst ts)
  | scr {p : Addr} {vs : List V} {ts : List T} (h : ScrAt K Z S H p vs) (r : Reps vs ts) : Rep (.ref p) (.scr ts)
  | ins {p C dx : Addr} {fs : List (Str × V)} {gs : List (Str × T)} (h : H p = some (.ins C dx fs)) (n : S p = none ∧ ¬ Z p) (r : RepF fs gs) : Rep (.ref p) (.ins C gs)
  | dct {p : Addr} (h : H p = some (.dK [])) (n : S p = none ∧ ¬ Z p) : Rep (.ref p) .dct
  | exc {p C dx : Addr} {fs : List (Str × V)} {gs : List (Str × T)} (h : H p = some (.ext (ExcAt p C dx))) (n : S p = none ∧ ¬ Z p) (hd : H dx = some (.xd fs)) (nd : S dx = none ∧ ¬ Z dx) (r : RepF fs gs) : Rep (.ref p) (.exc C gs)
inductive Reps : List V → List T → Prop
  | nil : Reps [] []
  | cons {v : V} {t : T} {vs : List V} {ts : List T} (h : Rep v t) (r : Reps vs ts) : Reps (v :: vs) (t :: ts)
inductive RepF : List (Str × V) → List (Str × T) → Prop
  | nil : RepF [] []
  | cons {n : Str} {v : V} {t : T} {vs : List (Str × V)} {ts : List (Str × T)} (h : Rep v t) (r : RepF vs ts) : RepF ((n, v) :: vs) ((n, t) :: ts)
end
def CellOk (a : Addr) : Option Cell → Prop
  | none => True
  | some (.lst ts) => ∃ vs, H a = some (.lst vs) ∧ Reps K Z S H vs ts
  | some (.ins C gs) => ∃ dx fs, H a = some (.ins C dx fs) ∧ RepF K Z S H fs gs
structure Ok : Prop where
  cl : ∀ a, CellOk K Z S H a (S a)
  hid : ∀ a, Z a → S a = none ∧ ∃ o, H a = some o
end
/-- what stands, but for the cells, stands later -/
def Le (S : Store) (H : Hp) (S' : Store) (H' : Hp) : Prop := ∀ a o, H a = some o → S a = none → H' a = some o ∧ S' a = none
/-- .. and but for what is hidden -/
def LeZ (Z : Addr → Prop) (S : Store) (H : Hp) (S' : Store) (H' : Hp) : Prop := ∀ a o, H a = some o → S a = none → ¬ Z a → H' a = some o ∧ S' a = none
section
variable {K : PySem.W.Frag} {Z : Addr → Prop} {S S' S2 : Store} {H H' H2 : Hp}
theorem Le.refl : Le S H S H := fun _ _ h n => ⟨h, n⟩
theorem Le.z (l : Le S H S' H') : LeZ Z S H S' H' := fun a o h n _ => l a o h n
theorem Le.trans (a : Le S H S' H') (b : Le S' H' S2 H2) : Le S H S2 H2 := fun p o h n => b p o (a p o h n).1 (a p o h n).2
theorem TupAt.lz {p : Addr} {vs : List V} (h : TupAt K Z S H p vs) (l : LeZ Z S H S' H') : TupAt K Z S' H' p vs := by
  rcases h with ⟨r, n, z⟩ | h
  · rcases r with r | ⟨o, r⟩
    · exact .inl ⟨.inl (l _ _ r n z).1, (l _ _ r n z).2, z⟩
    · exact .inl ⟨.inr ⟨o, (l _ _ r n z).1⟩, (l _ _ r n z).2, z⟩
  · exact .inr h
theorem TupAt.le {p : Addr} {vs : List V} (h : TupAt K Z S H p vs) (l : Le S H S' H') : TupAt K Z S' H' p vs := h.lz l.z
theorem LstAt.lz {p : Addr} {vs : List V} (h : LstAt Z S H p vs) (l : LeZ Z S H S' H') : LstAt Z S' H' p vs := ⟨(l _ _ h.1 h.2.1 h.2.2).1, (l _ _ h.1 h.2.1 h.2.2).2, h.2.2⟩
theorem ScrAt.lz {p : Addr} {vs : List V} (h : ScrAt K Z S H p vs) (l : LeZ Z S H S' H') : ScrAt K Z S' H' p vs := by
  rcases h with ⟨⟨o, r⟩, n, z⟩ | h
  · exact .inl ⟨⟨o, (l _ _ r n z).1⟩, (l _ _ r n z).2, z⟩
  · exact .inr h
theorem LstAt.le {p : Addr} {vs : List V} (h : LstAt Z S H p vs) (l : Le S H S' H') : LstAt Z S' H' p vs := h.lz l.z
theorem ScrAt.le {p : Addr} {vs : List V} (h : ScrAt K Z S H p vs) (l : Le S H S' H') : ScrAt K Z S' H' p vs := h.lz l.z
theorem TupAt.sq {p : Addr} {vs : List V} (h : TupAt K Z S H p vs) : SqT K H p vs := h.imp And.left id
theorem LstAt.sq {p : Addr} {vs : List V} (h : LstAt Z S H p vs) : SqL K H p vs := .inl (.inl h.1)
theorem ScrAt.sq {p : Addr} {vs : List V} (h : ScrAt K Z S H p vs) : SqL K H p vs := h.imp (fun a => .inr a.1) id
mutual
theorem Rep.lz (l : LeZ Z S H S' H') : ∀ {v : V} {t : T}, Rep K Z S H v t → Rep K Z S' H' v t
  | _, _, .non => .non
  | _, _, .bl b => .bl b
  | _, _, .int i => .int i
  | _, _, .str z => .str z
  | _, _, .ty n => .ty n
  | _, _, .st a => .st a
  | _, _, .cell a => .cell a
  | _, _, .tup h r => .tup (h.lz l) (Reps.lz l r)
  | _, _, .lst h r => .lst (h.lz l) (Reps.lz l r)
  | _, _, .scr h r => .scr (h.lz l) (Reps.lz l r)
  | _, _, .ins h n r => .ins (l _ _ h n.1 n.2).1 ⟨(l _ _ h n.1 n.2).2, n.2⟩ (RepF.lz l r)
  | _, _, .dct h n => .dct (l _ _ h n.1 n.2).1 ⟨(l _ _ h n.1 n.2).2, n.2⟩
  | _, _, .exc h n hd nd r => .exc (l _ _ h n.1 n.2).1 ⟨(l _ _ h n.1 n.2).2, n.2⟩ (l _ _ hd nd.1 nd.2).1 ⟨(l _ _ hd nd.1 nd.2).2, nd.2⟩ (RepF.lz l r)
theorem Reps.lz (l : LeZ Z S H S' H') : ∀ {vs : List V} {ts : List T}, Reps K Z S H vs ts → Reps K Z S' H' vs ts
  | _, _, .nil => .nil
  | _, _, .cons h r => .cons (Rep.lz l h) (Reps.lz l r)
theorem RepF.lz (l : LeZ Z S H S' H') : ∀ {vs : List (Str × V)} {ts : List (Str × T)}, RepF K Z S H vs ts → RepF K Z S' H' vs ts
  | _, _, .nil => .nil
  | _, _, .cons h r => .cons (Rep.lz l h) (RepF.lz l r)
end
theorem Rep.le {v : V} {t : T} (r : Rep K Z S H v t) (l : Le S H S' H') : Rep K Z S' H' v t := r.lz l.z
theorem Reps.le {vs : List V} {ts : List T} (r : Reps K Z S H vs ts) (l : Le S H S' H') : Reps K Z S' H' vs ts := r.lz l.z
theorem RepF.le {vs : List (Str × V)} {ts : List (Str × T)} (r : RepF K Z S H vs ts) (l : Le S H S' H') : RepF K Z S' H' vs ts := r.lz l.z
theorem Reps.length : ∀ {ts : List T} {vs : List V}, Reps K Z S H vs ts → vs.length = ts.length
  | [], _, .nil => rfl
  | _ :: _, _, .cons _ r => by simp [Reps.length r]
theorem Reps.append {vs ws : List V} {ts us : List T} (r : Reps K Z S H vs ts) (q : Reps K Z S H ws us) : Reps K Z S H (vs ++ ws) (ts ++ us) := by
  induction ts generalizing vs with
  | nil => cases r; exact q
  | cons t ts ih => cases r with | cons h r => exact .cons h (ih r)
theorem Reps.get {vs : List V} {ts : List T} {i : Nat} {t : T} (r : Reps K Z S H vs ts) (h : ts[i]? = some t) : ∃ v, vs[i]? = some v ∧ Rep K Z S H v t := by
  induction ts generalizing vs i with
  | nil => cases h
  | cons u ts ih =>
    cases r with
    | cons q r =>
      cases i with
      | zero => cases h; exact ⟨_, rfl, q⟩
      | succ i =>
        have hh : ts[i]? = some t := h
        obtain ⟨w, a, b⟩ := ih r hh
        exact ⟨w, a, b⟩
theorem Reps.take {vs : List V} {ts : List T} (n : Nat) (r : Reps K Z S H vs ts) : Reps K Z S H (vs.take n) (ts.take n) := by
  induction ts generalizing vs n with
  | nil => cases r; simp; exact .nil
  | cons t ts ih =>
    cases r with
    | cons h r =>
      cases n with
      | zero => exact .nil
      | succ n => exact .cons h (ih n r)
theorem Reps.drop {vs : List V} {ts : List T} (n : Nat) (r : Reps K Z S H vs ts) : Reps K Z S H (vs.drop n) (ts.drop n) := by
  induction ts generalizing vs n with
  | nil => cases r; simp; exact .nil
  | cons t ts ih =>
    cases r with
    | cons h r =>
      cases n with
      | zero => exact .cons h r
      | succ n => exact ih n r
theorem Reps.set {vs : List V} {ts : List T} {v : V} {t : T} (n : Nat) (r : Reps K Z S H vs ts) (h : Rep K Z S H v t) : Reps K Z S H (vs.set n v) (ts.set n t) := by
  induction ts generalizing vs n with
  | nil => cases r; exact .nil
  | cons u ts ih =>
    cases r with
    | cons q r =>
      cases n with
      | zero => exact .cons h r
      | succ n => exact .cons q (ih n r)
theorem Reps.reverse {vs : List V} {ts : List T} (r : Reps K Z S H vs ts) : Reps K Z S H vs.reverse ts.reverse := by
  induction ts generalizing vs with
  | nil => cases r; exact .nil
  | cons u ts ih =>
    cases r with
    | cons q r => rw [List.reverse_cons, List.reverse_cons]; exact (ih r).append (.cons q .nil)
theorem RepF.look {fs : List (Str × V)} {gs : List (Str × T)} {f : Str} {t : T} (r : RepF K Z S H fs gs) (h : gs.lookup f = some t) : ∃ v, fs.lookup f = some v ∧ Rep K Z S H v t := by
  induction gs generalizing fs with
  | nil => cases h
  | cons g gs ih =>
    cases r with
    | @cons n v u vs ts q r =>
      by_cases e : f = n
      · subst e
        simp only [List.lookup, beq_self_eq_true] at h ⊢
        cases h
        exact ⟨_, rfl, q⟩
      · have e' : (f == n) = false := by simpa using e
        simp only [List.lookup, e'] at h ⊢
        exact ih r h
theorem RepF.lookN {fs : List (Str × V)} {gs : List (Str × T)} {f : Str} (r : RepF K Z S H fs gs) (h : gs.lookup f = none) : fs.lookup f = none := by
  induction gs generalizing fs with
  | nil => cases r; rfl
  | cons g gs ih =>
    cases r with
    | @cons n v u vs ts q r =>
      by_cases e : f = n
      · subst e
        simp only [List.lookup, beq_self_eq_true] at h
        cases h
      · have e' : (f == n) = false := by simpa using e
        simp only [List.lookup, e'] at h ⊢
        exact ih r h
theorem RepF.length {fs : List (Str × V)} {gs : List (Str × T)} (r : RepF K Z S H fs gs) : fs.length = gs.length := by
  induction gs generalizing fs with
  | nil => cases r; rfl
  | cons g gs ih => cases r with | cons q r => simp [ih r]
/-- a new thing is laid -/
theorem le_new {p : Addr} {o : HO} (h : H p = none) : Le S H S (upd H p o) := fun a u e n => ⟨by rw [upd_ne (ne_of_none e h)]; exact e, n⟩
theorem Ok.free {p : Addr} (ok : Ok K Z S H) (h : H p = none) : S p = none := by
  have := ok.cl p
  cases e : S p with
  | none => rfl
  | some c =>
    rw [e] at this
    cases c with
    | lst ts => obtain ⟨vs, q, _⟩ := this; rw [h] at q; cases q
    | ins C gs => obtain ⟨dx, fs, q, _⟩ := this; rw [h] at q; cases q
theorem Ok.nz {p : Addr} (ok : Ok K Z S H) (h : H p = none) : ¬ Z p := fun z => by
  obtain ⟨_, o, e⟩ := ok.hid p z
  rw [h] at e; cases e
theorem Ok.nzc {p : Addr} {c : Cell} (ok : Ok K Z S H) (h : S p = some c) : ¬ Z p := fun z => by
  obtain ⟨e, _⟩ := ok.hid p z
  rw [h] at e; cases e
theorem CellOk.le {a : Addr} (k : CellOk K Z S H a (S a)) (l : Le S H S' H') (c : S a ≠ none → H' a = H a) : CellOk K Z S' H' a (S a) := by
  cases e : S a with
  | none => trivial
  | some x =>
    rw [e] at k
    have ca := c (by rw [e]; exact fun z => nomatch z)
    cases x with
    | lst ts => obtain ⟨vs, q, r⟩ := k; exact ⟨vs, by rw [ca]; exact q, r.le l⟩
    | ins C gs => obtain ⟨dx, fs, q, r⟩ := k; exact ⟨dx, fs, by rw [ca]; exact q, r.le l⟩
theorem Ok.le (ok : Ok K Z S H) (l : Le S H S H') (c : ∀ a, S a ≠ none → H' a = H a) : Ok K Z S H' :=
  ⟨fun a => (ok.cl a).le l (c a), fun a z => by
    obtain ⟨n, o, e⟩ := ok.hid a z
    exact ⟨n, o, (l a o e n).1⟩⟩
theorem Ok.new {p : Addr} {o : HO} (ok : Ok K Z S H) (h : H p = none) : Ok K Z S (upd H p o) :=
  ok.le (le_new h) fun a n => upd_ne fun e => n (by rw [e]; exact ok.free h)
theorem Rep.tupN {p : Addr} {vs : List V} {ts : List T} (ok : Ok K Z S H) (h : H p = none) (r : Reps K Z S H vs ts) : Rep K Z S (upd H p (.tup vs)) (.ref p) (.tup ts) :=
  .tup (.inl ⟨.inl upd_same, ok.free h, ok.nz h⟩) (r.le (le_new h))
theorem Rep.lstN {p : Addr} {vs : List V} {ts : List T} (ok : Ok K Z S H) (h : H p = none) (r : Reps K Z S H vs ts) : Rep K Z S (upd H p (.lst vs)) (.ref p) (.lst ts) :=
  .lst ⟨upd_same, ok.free h, ok.nz h⟩ (r.le (le_new h))
/-- a new cell -/
theorem le_newc {p : Addr} {o : HO} {c : Cell} (h : H p = none) : Le S H (S.put p c) (upd H p o) := fun a u e n => by
  have ne := ne_of_none e h
  exact ⟨by rw [upd_ne ne]; exact e, by rw [put_ne ne]; exact n⟩
theorem Ok.putG {p : Addr} {c : Cell} (ok : Ok K Z S H) (l : Le S H (S.put p c) H') (nz : ¬ Z p) (st : ∀ a, a ≠ p → S a ≠ none → H' a = H a) (new : CellOk K Z (S.put p c) H' p (some c)) : Ok K Z (S.put p c) H' := by
  refine ⟨fun a => ?_, fun a z => ?_⟩
  · by_cases e : a = p
    · subst e; rw [put_same]; exact new
    · rw [put_ne e]
      exact (ok.cl a).le l (st a e)
  · have e : a ≠ p := fun e => nz (e ▸ z)
    obtain ⟨n, o, h⟩ := ok.hid a z
    exact ⟨by rw [put_ne e]; exact n, o, (l a o h n).1⟩
theorem Ok.put {p : Addr} {o : HO} {c : Cell} (ok : Ok K Z S H) (l : Le S H (S.put p c) (upd H p o)) (nz : ¬ Z p) (new : CellOk K Z (S.put p c) (upd H p o) p (some c)) : Ok K Z (S.put p c) (upd H p o) :=
  ok.putG l nz (fun a e _ => upd_ne e) new
/-- a cell changes -/
theorem le_setc {p : Addr} {o : HO} {c d : Cell} (h : S p = some d) : Le S H (S.put p c) (upd H p o) := fun a u e n => by
  have ne : a ≠ p := fun z => by rw [z, h] at n; cases n
  exact ⟨by rw [upd_ne ne]; exact e, by rw [put_ne ne]; exact n⟩
/-- a cell ceases to change -/
theorem le_drop {p : Addr} : Le S H (S.drop p) H := fun a u e n => ⟨e, by
  by_cases z : a = p
  · rw [z]; exact drop_same
  · rw [drop_ne z]; exact n⟩
theorem Ok.drop {p : Addr} (ok : Ok K Z S H) : Ok K Z (S.drop p) H := by
  refine ⟨fun a => ?_, fun a z => ?_⟩
  · by_cases e : a = p
    · rw [e, drop_same]; trivial
    · rw [drop_ne e]
      exact (ok.cl a).le le_drop fun _ => rfl
  · obtain ⟨n, h⟩ := ok.hid a z
    refine ⟨?_, h⟩
    by_cases e : a = p
    · rw [e]; exact drop_same
    · rw [drop_ne e]; exact n
theorem Rep.frz {p : Addr} {ts : List T} (ok : Ok K Z S H) (h : S p = some (.lst ts)) : Rep K Z (S.drop p) H (.ref p) (.lst ts) := by
  have := ok.cl p
  rw [h] at this
  obtain ⟨vs, q, r⟩ := this
  exact .lst ⟨q, drop_same, ok.nzc h⟩ (r.le le_drop)
theorem Rep.frzI {p C : Addr} {gs : List (Str × T)} (ok : Ok K Z S H) (h : S p = some (.ins C gs)) : Rep K Z (S.drop p) H (.ref p) (.ins C gs) := by
  have := ok.cl p
  rw [h] at this
  obtain ⟨dx, fs, q, r⟩ := this
  exact .ins q ⟨drop_same, ok.nzc h⟩ (r.le le_drop)
/-- p is hidden from now on; it was new -/
def hideA (Z : Addr → Prop) (p : Addr) : Addr → Prop := fun a => Z a ∨ a = p
/-- more is hidden, of what was not there -/
def Hid (H : Hp) (Z Z' : Addr → Prop) : Prop := ∀ a, Z' a → Z a ∨ H a = none
theorem hid_a {p : Addr} (h : H p = none) : Hid H Z (hideA Z p) := fun a z => z.imp id fun e => by rw [e]; exact h
theorem Hid.rd {Z' : Addr → Prop} {p : Addr} {u : HO} (x : Hid H Z Z') (n : ¬ Z p) (r : Rd H p u) : ¬ Z' p := fun z => by
  rcases x p z with z | e
  · exact n z
  · rcases r with r | ⟨_, r⟩ <;> (rw [e] at r; cases r)
theorem TupAt.hide {Z' : Addr → Prop} {p : Addr} {vs : List V} (x : Hid H Z Z') (h : TupAt K Z S H p vs) : TupAt K Z' S H p vs := h.imp (fun ⟨a, b, c⟩ => ⟨a, b, x.rd c a⟩) id
theorem LstAt.hide {Z' : Addr → Prop} {p : Addr} {vs : List V} (x : Hid H Z Z') (h : LstAt Z S H p vs) : LstAt Z' S H p vs := ⟨h.1, h.2.1, x.rd h.2.2 (.inl h.1)⟩
theorem ScrAt.hide {Z' : Addr → Prop} {p : Addr} {vs : List V} (x : Hid H Z Z') (h : ScrAt K Z S H p vs) : ScrAt K Z' S H p vs := h.imp (fun ⟨⟨o, a⟩, b, c⟩ => ⟨⟨o, a⟩, b, fun z => by
  rcases x p z with z | e
  · exact c z
  · rw [e] at a; cases a⟩) id
mutual
theorem Rep.hide {Z' : Addr → Prop} (x : Hid H Z Z') : ∀ {v : V} {t : T}, Rep K Z S H v t → Rep K Z' S H v t
  | _, _, .non => .non
  | _, _, .bl b => .bl b
  | _, _, .int i => .int i
  | _, _, .str z => .str z
  | _, _, .ty n => .ty n
  | _, _, .st a => .st a
  | _, _, .cell a => .cell a
  | _, _, .tup h r => .tup (h.hide x) (Reps.hide x r)
  | _, _, .lst h r => .lst (h.hide x) (Reps.hide x r)
  | _, _, .scr h r => .scr (h.hide x) (Reps.hide x r)
  | _, _, .ins h n r => .ins h ⟨n.1, x.rd n.2 (.inl h)⟩ (RepF.hide x r)
  | _, _, .dct h n => .dct h ⟨n.1, x.rd n.2 (.inl h)⟩
  | _, _, .exc h n hd nd r => .exc h ⟨n.1, x.rd n.2 (.inl h)⟩ hd ⟨nd.1, x.rd nd.2 (.inl hd)⟩ (RepF.hide x r)
theorem Reps.hide {Z' : Addr → Prop} (x : Hid H Z Z') : ∀ {vs : List V} {ts : List T}, Reps K Z S H vs ts → Reps K Z' S H vs ts
  | _, _, .nil => .nil
  | _, _, .cons h r => .cons (Rep.hide x h) (Reps.hide x r)
theorem RepF.hide {Z' : Addr → Prop} (x : Hid H Z Z') : ∀ {vs : List (Str × V)} {ts : List (Str × T)}, RepF K Z S H vs ts → RepF K Z' S H vs ts
  | _, _, .nil => .nil
  | _, _, .cons h r => .cons (Rep.hide x h) (RepF.hide x r)
end
mutual
theorem Rep.show {p : Addr} : ∀ {v : V} {t : T}, Rep K (hideA Z p) S H v t → Rep K Z S H v t
  | _, _, .non => .non
  | _, _, .bl b => .bl b
  | _, _, .int i => .int i
  | _, _, .str z => .str z
  | _, _, .ty n => .ty n
  | _, _, .st a => .st a
  | _, _, .cell a => .cell a
  | _, _, .tup h r => .tup (h.imp (fun ⟨a, b, c⟩ => ⟨a, b, fun z => c (.inl z)⟩) id) (Reps.show r)
  | _, _, .lst h r => .lst ⟨h.1, h.2.1, fun z => h.2.2 (.inl z)⟩ (Reps.show r)
  | _, _, .scr h r => .scr (h.imp (fun ⟨a, b, c⟩ => ⟨a, b, fun z => c (.inl z)⟩) id) (Reps.show r)
  | _, _, .ins h n r => .ins h ⟨n.1, fun z => n.2 (.inl z)⟩ (RepF.show r)
  | _, _, .dct h n => .dct h ⟨n.1, fun z => n.2 (.inl z)⟩
  | _, _, .exc h n hd nd r => .exc h ⟨n.1, fun z => n.2 (.inl z)⟩ hd ⟨nd.1, fun z => nd.2 (.inl z)⟩ (RepF.show r)
theorem Reps.show {p : Addr} : ∀ {vs : List V} {ts : List T}, Reps K (hideA Z p) S H vs ts → Reps K Z S H vs ts
  | _, _, .nil => .nil
  | _, _, .cons h r => .cons (Rep.show h) (Reps.show r)
theorem RepF.show {p : Addr} : ∀ {vs : List (Str × V)} {ts : List (Str × T)}, RepF K (hideA Z p) S H vs ts → RepF K Z S H vs ts
  | _, _, .nil => .nil
  | _, _, .cons h r => .cons (Rep.show h) (RepF.show r)
end
theorem CellOk.map {Z' : Addr → Prop} {a : Addr} {c : Option Cell} (k : CellOk K Z S H a c) (f : ∀ {vs ts}, Reps K Z S H vs ts → Reps K Z' S' H' vs ts) (g : ∀ {vs ts}, RepF K Z S H vs ts → RepF K Z' S' H' vs ts) (e : c ≠ none → H' a = H a) : CellOk K Z' S' H' a c := by
  cases c with
  | none => trivial
  | some x =>
    have ca := e (fun z => nomatch z)
    cases x with
    | lst ts => obtain ⟨vs, q, r⟩ := k; exact ⟨vs, by rw [ca]; exact q, f r⟩
    | ins C gs => obtain ⟨dx, fs, q, r⟩ := k; exact ⟨dx, fs, by rw [ca]; exact q, g r⟩
/-- a hidden thing is laid -/
theorem Ok.hide {p : Addr} {o : HO} (ok : Ok K Z S H) (h : H p = none) : Ok K (hideA Z p) S (upd H p o) := by
  have ne : ∀ a, S a ≠ none → a ≠ p := fun a n e => n (by rw [e]; exact ok.free h)
  refine ⟨fun a => (ok.cl a).map (fun r => (r.hide (hid_a h)).le (le_new h)) (fun r => (r.hide (hid_a h)).le (le_new h)) fun n => upd_ne (ne a n), fun a z => ?_⟩
  rcases z with z | rfl
  · obtain ⟨n, u, e⟩ := ok.hid a z
    exact ⟨n, u, ((le_new (S := S) (o := o) h) a u e n).1⟩
  · exact ⟨ok.free h, o, upd_same⟩
/-- it changes -/
theorem lz_hid {p : Addr} {o : HO} : LeZ (hideA Z p) S H S (upd H p o) := fun a u e n z => ⟨by rw [upd_ne fun q => z (.inr q)]; exact e, n⟩
theorem Ok.hidSet {p : Addr} {o : HO} (ok : Ok K (hideA Z p) S H) : Ok K (hideA Z p) S (upd H p o) := by
  have ne : ∀ a, S a ≠ none → a ≠ p := fun a n e => n (by rw [e]; exact (ok.hid p (.inr rfl)).1)
  refine ⟨fun a => (ok.cl a).map (fun r => r.lz lz_hid) (fun r => r.lz lz_hid) fun n => upd_ne (ne a n), fun a z => ?_⟩
  obtain ⟨n, u, e⟩ := ok.hid a z
  by_cases q : a = p
  · subst q; exact ⟨n, o, upd_same⟩
  · exact ⟨n, u, by rw [upd_ne q]; exact e⟩
/-- it is shown -/
theorem Ok.show {p : Addr} (ok : Ok K (hideA Z p) S H) : Ok K Z S H :=
  ⟨fun a => (ok.cl a).map (fun r => r.show) (fun r => r.show) fun _ => rfl, fun a z => ok.hid a (.inl z)⟩
end
/-! ### the names of a def -/
inductive FrR (K : PySem.W.Frag) (Z : Addr → Prop) (S : Store) (H : Hp) : List (Option V) → List (Option T) → Prop
  | nil : FrR K Z S H [] []
  | skip {x : Option V} {l : List (Option V)} {m : List (Option T)} (r : FrR K Z S H l m) : FrR K Z S H (x :: l) (none :: m)
  | cons {v : V} {t : T} {l : List (Option V)} {m : List (Option T)} (h : Rep K Z S H v t) (r : FrR K Z S H l m) : FrR K Z S H (some v :: l) (some t :: m)
section
variable {K : PySem.W.Frag} {Z : Addr → Prop} {S S' S2 : Store} {H H' H2 : Hp}
theorem FrR.le {sl : List (Option V)} {σ : List (Option T)} (f : FrR K Z S H sl σ) (l : Le S H S' H') : FrR K Z S' H' sl σ := by
  induction f with
  | nil => exact .nil
  | skip _ ih => exact .skip ih
  | cons h _ ih => exact .cons (h.le l) ih
theorem FrR.get {sl : List (Option V)} {σ : List (Option T)} {i : Nat} {t : T} (f : FrR K Z S H sl σ) (h : σ[i]? = some (some t)) : ∃ v, sl[i]? = some (some v) ∧ Rep K Z S H v t := by
  induction f generalizing i with
  | nil => cases h
  | skip _ ih =>
    cases i with
    | zero => cases h
    | succ i => exact ih h
  | cons q _ ih =>
    cases i with
    | zero => cases h; exact ⟨_, rfl, q⟩
    | succ i => exact ih h
theorem FrR.set {sl : List (Option V)} {σ : List (Option T)} {v : V} {t : T} (i : Nat) (f : FrR K Z S H sl σ) (h : Rep K Z S H v t) : FrR K Z S H (sl.set i (some v)) (σ.set i (some t)) := by
  induction f generalizing i with
  | nil => exact .nil
  | skip r ih =>
    cases i with
    | zero => exact .cons h r
    | succ i => exact .skip (ih i)
  | cons q r ih =>
    cases i with
    | zero => exact .cons h r
    | succ i => exact .cons q (ih i)
theorem FrR.hide {Z' : Addr → Prop} {sl : List (Option V)} {σ : List (Option T)} (x : Hid H Z Z') (f : FrR K Z S H sl σ) : FrR K Z' S H sl σ := by
  induction f with
  | nil => exact .nil
  | skip _ ih => exact .skip ih
  | cons h _ ih => exact .cons (h.hide x) ih
theorem FrR.lz {sl : List (Option V)} {σ : List (Option T)} (f : FrR K Z S H sl σ) (l : LeZ Z S H S' H') : FrR K Z S' H' sl σ := by
  induction f with
  | nil => exact .nil
  | skip _ ih => exact .skip ih
  | cons h _ ih => exact .cons (h.lz l) ih
theorem FrR.length {sl : List (Option V)} {σ : List (Option T)} (f : FrR K Z S H sl σ) : sl.length = σ.length := by
  induction f with
  | nil => rfl
  | skip _ ih => simp [ih]
  | cons _ _ ih => simp [ih]
def startT (N : List Str) (ts : List T) : List (Option T) := ts.map some ++ List.replicate (N.length - ts.length) none
theorem FrR.reps {vs : List V} {ts : List T} (r : Reps K Z S H vs ts) {l : List (Option V)} {m : List (Option T)} (f : FrR K Z S H l m) : FrR K Z S H (vs.map some ++ l) (ts.map some ++ m) := by
  induction ts generalizing vs with
  | nil => cases r; exact f
  | cons t ts ih => cases r with | cons h r => exact .cons h (ih r)
theorem FrR.nones (n : Nat) : FrR K Z S H (List.replicate n none) (List.replicate n none) := by
  induction n with
  | zero => exact .nil
  | succ n ih => exact .skip ih
theorem FrR.start {N : List Str} {vs : List V} {ts : List T} (r : Reps K Z S H vs ts) : FrR K Z S H (start N vs) (startT N ts) := by
  unfold L2.start startT
  rw [r.length]
  exact FrR.reps r (FrR.nones _)
end

theorem pe_weak {X : Cx} {e : Expr} {t t' : TE} (he : PE X e t) (imp : ∀ sl H Q, t' sl H Q → t sl H Q) : PE X e t' := ⟨fun pins s sl H Q inv h => he.run pins s sl H Q inv (imp sl H Q h)⟩
/-! ### what trees are to fulfil -/
abbrev Fm := List (Option T)
abbrev XT := Addr → List (Str × T) → Store → Prop
abbrev TR := Fm → Store → (T → Store → Prop) → XT → Prop
abbrev TRB := Fm → Store → (Bool → Store → Prop) → XT → Prop
abbrev TRA := Fm → Store → (List T → Store → Prop) → XT → Prop
structure EnT where
  nx : Fm → Store → Prop
  rt : T → Store → Prop
  ex : XT
  bk : Fm → Store → Prop := fun _ _ => False
  ct : Fm → Store → Prop := fun _ _ => False
abbrev TRS := EnT → Fm → Store → Prop
def XD (H : Hp) (od : Option Addr) (fs : List (Str × V)) : Prop := match od with
  | some d => H d = some (.xd fs)
  | none => fs = []
section
variable (K : PySem.W.Frag) (Z : Addr → Prop) (S : Store) (H : Hp)
def XOk (RE : XT) (E : XK) : Prop := ∀ C gs S' od fs H', RE C gs S' → Le S H S' H' → Ok K Z S' H' → XD H' od fs → RepF K Z S' H' fs gs → E (.ref C) od H'
def PO (R : T → Store → Prop) (Q : VK) : Prop := ∀ t S' v H', R t S' → Le S H S' H' → Ok K Z S' H' → Rep K Z S' H' v t → Q v H'
def POB (R : Bool → Store → Prop) (Q : Bool → Hp → Prop) : Prop := ∀ b S' H', R b S' → Le S H S' H' → Ok K Z S' H' → Q b H'
def POA (R : List T → Store → Prop) (Q : List V → Hp → Prop) : Prop := ∀ ts S' vs H', R ts S' → Le S H S' H' → Ok K Z S' H' → Reps K Z S' H' vs ts → Q vs H'
def POF (R : Fm → Store → Prop) (Q : L2.St → Hp → Prop) : Prop := ∀ σ S' sl H', R σ S' → Le S H S' H' → Ok K Z S' H' → FrR K Z S' H' sl σ → Q sl H'
end
structure UpE (K : PySem.W.Frag) (E : XK) (r : TR) (sl : L2.St) (H : Hp) (Q : VK) : Prop where
  ex : ∃ Z σ S R RE, FrR K Z S H sl σ ∧ Ok K Z S H ∧ r σ S R RE ∧ PO K Z S H R Q ∧ XOk K Z S H RE E
structure UpB (K : PySem.W.Frag) (E : XK) (r : TRB) (sl : L2.St) (H : Hp) (Q : Bool → Hp → Prop) : Prop where
  ex : ∃ Z σ S R RE, FrR K Z S H sl σ ∧ Ok K Z S H ∧ r σ S R RE ∧ POB K Z S H R Q ∧ XOk K Z S H RE E
structure UpA (K : PySem.W.Frag) (E : XK) (r : TRA) (sl : L2.St) (H : Hp) (Q : List V → Hp → Prop) : Prop where
  ex : ∃ Z σ S R RE, FrR K Z S H sl σ ∧ Ok K Z S H ∧ r σ S R RE ∧ POA K Z S H R Q ∧ XOk K Z S H RE E
structure EO (K : PySem.W.Frag) (Z : Addr → Prop) (S : Store) (H : Hp) (DT : EnT) (D : Ends) : Prop where
  nx : POF K Z S H DT.nx D.nx
  rt : PO K Z S H DT.rt D.rt
  bk : POF K Z S H DT.bk D.bk
  ct : POF K Z S H DT.ct D.ct
structure UpS (K : PySem.W.Frag) (E : XK) (r : TRS) (D : Ends) (sl : L2.St) (H : Hp) : Prop where
  ex : ∃ Z σ S DT, FrR K Z S H sl σ ∧ Ok K Z S H ∧ r DT σ S ∧ EO K Z S H DT D ∧ XOk K Z S H DT.ex E
structure ET (X : Cx) (E : XK) (e : Expr) (r : TR) : Prop where
  pe : PE X e (UpE X.K E r)
structure TT' (X : Cx) (E : XK) (e : Expr) (r : TRB) : Prop where
  pt : PT X e (UpB X.K E r)
structure TW' (X : Cx) (E : XK) (e : Expr) (r : TRB) : Prop where
  pw : PW X e (UpB X.K E r)
structure AT (X : Cx) (E : XK) (es : List Expr) (r : TRA) : Prop where
  pa : PA X es (UpA X.K E r)
structure SS (X : Cx) (E : XK) (st : Stmt) (r : TRS) : Prop where
  ps : PS X st (UpS X.K E r)
structure BS (X : Cx) (E : XK) (st : List Stmt) (r : TRS) : Prop where
  ps : PSs X st (UpS X.K E r)
section
variable {K : PySem.W.Frag} {Z : Addr → Prop} {S S1 S2 : Store} {H H1 H2 : Hp} {E : XK} {Q : VK} {sl : L2.St} {ra rb : TR}
theorem XOk.le {RE : XT} (x : XOk K Z S H RE E) (l : Le S H S1 H1) : XOk K Z S1 H1 RE E := fun C gs S' od fs H' r l' ok d rf => x C gs S' od fs H' r (l.trans l') ok d rf
theorem PO.le {R : T → Store → Prop} (x : PO K Z S H R Q) (l : Le S H S1 H1) : PO K Z S1 H1 R Q := fun t S' v H' r l' ok rep => x t S' v H' r (l.trans l') ok rep
theorem POB.le {R : Bool → Store → Prop} {Q : Bool → Hp → Prop} (x : POB K Z S H R Q) (l : Le S H S1 H1) : POB K Z S1 H1 R Q := fun t S' H' r l' ok => x t S' H' r (l.trans l') ok
theorem POA.le {R : List T → Store → Prop} {Q : List V → Hp → Prop} (x : POA K Z S H R Q) (l : Le S H S1 H1) : POA K Z S1 H1 R Q := fun t S' v H' r l' ok rep => x t S' v H' r (l.trans l') ok rep
theorem POF.le {R : Fm → Store → Prop} {Q : L2.St → Hp → Prop} (x : POF K Z S H R Q) (l : Le S H S1 H1) : POF K Z S1 H1 R Q := fun t S' v H' r l' ok rep => x t S' v H' r (l.trans l') ok rep
theorem EO.le {DT : EnT} {D : Ends} (x : EO K Z S H DT D) (l : Le S H S1 H1) : EO K Z S1 H1 DT D := ⟨x.nx.le l, x.rt.le l, x.bk.le l, x.ct.le l⟩
/-- one part, then the rest -/
theorem UpE.one {k : Fm → T → Store → (T → Store → Prop) → XT → Prop} {Q' : VK} (h : UpE K E (fun σ S R RE => ra σ S (fun x S1 => k σ x S1 R RE) RE) sl H Q)
    (step : ∀ Z σ x S1 v H1 R RE, FrR K Z S1 H1 sl σ → Ok K Z S1 H1 → Rep K Z S1 H1 v x → k σ x S1 R RE → PO K Z S1 H1 R Q → XOk K Z S1 H1 RE E → Q' v H1) : UpE K E ra sl H Q' := by
  obtain ⟨Z, σ, S, R, RE, fr, ok, w, po, xo⟩ := h.ex
  exact ⟨_, σ, S, _, RE, fr, ok, w, fun x S1 v H1 kk le ok1 rep => step Z σ x S1 v H1 R RE (fr.le le) ok1 rep kk (po.le le) (xo.le le), xo⟩
/-- two parts, then the rest -/
theorem UpE.two {k : T → T → Store → (T → Store → Prop) → XT → Prop} {Q2 : V → V → Hp → Prop} (h : UpE K E (fun σ S R RE => ra σ S (fun x S1 => rb σ S1 (fun y S2 => k x y S2 R RE) RE) RE) sl H Q)
    (step : ∀ Z x y S2 v u H2 R RE, Ok K Z S2 H2 → Rep K Z S2 H2 v x → Rep K Z S2 H2 u y → k x y S2 R RE → PO K Z S2 H2 R Q → XOk K Z S2 H2 RE E → Q2 v u H2) :
    UpE K E ra sl H (fun v H1 => UpE K E rb sl H1 (fun u H2 => Q2 v u H2)) := by
  obtain ⟨Z, σ, S, R, RE, fr, ok, w, po, xo⟩ := h.ex
  refine ⟨_, σ, S, _, RE, fr, ok, w, fun x S1 v H1 kk le ok1 rep => ?_, xo⟩
  exact ⟨_, σ, S1, _, RE, fr.le le, ok1, kk, fun y S2 u H2 k2 le2 ok2 rep2 => step Z x y S2 v u H2 R RE ok2 (rep.le le2) rep2 k2 ((po.le le).le le2) ((xo.le le).le le2), xo.le le⟩
theorem UpA.args {t : TRA} {k : List T → Store → (T → Store → Prop) → XT → Prop} {Q' : List V → Hp → Prop} (h : UpE K E (fun σ S R RE => t σ S (fun x S1 => k x S1 R RE) RE) sl H Q)
    (step : ∀ Z x S1 v H1 R RE, Ok K Z S1 H1 → Reps K Z S1 H1 v x → k x S1 R RE → PO K Z S1 H1 R Q → XOk K Z S1 H1 RE E → Q' v H1) : UpA K E t sl H Q' := by
  obtain ⟨Z, σ, S, R, RE, fr, ok, w, po, xo⟩ := h.ex
  exact ⟨_, σ, S, _, RE, fr, ok, w, fun x S1 v H1 kk le ok1 rep => step Z x S1 v H1 R RE ok1 rep kk (po.le le) (xo.le le), xo⟩
end
section
variable {X : Cx} {E : XK} {e a b c : Expr} {es : List Expr} {pos : Pos} {ra rb rc : TR}
/-! ### names, constants -/
def rVar (i : Nat) : TR := fun σ S R _ => ∃ t, σ[i]? = some (some t) ∧ R t S
theorem et_var {i : Nat} (h : PE X e (tVar i)) : ET X E e (rVar i) := ⟨pe_weak h fun sl H Q ⟨⟨Z, σ, S, R, RE, fr, ok, ⟨t, hi, r⟩, po, _⟩⟩ => by
  obtain ⟨v, hv, rep⟩ := fr.get hi
  exact ⟨v, hv, po t S v H r .refl ok rep⟩⟩
/-- a name whose list changes no more -/
def rFrz (i : Nat) : TR := fun σ S R _ => ∃ a ts, σ[i]? = some (some (.cell a)) ∧ S a = some (.lst ts) ∧ R (.lst ts) (S.drop a)
theorem et_frz {i : Nat} (h : PE X e (tVar i)) : ET X E e (rFrz i) := ⟨pe_weak h fun sl H Q ⟨⟨Z, σ, S, R, RE, fr, ok, ⟨a, ts, hi, hs, r⟩, po, _⟩⟩ => by
  obtain ⟨v, hv, rep⟩ := fr.get hi
  cases rep
  exact ⟨_, hv, po _ (S.drop a) _ H r le_drop ok.drop (.frz ok hs)⟩⟩
def rC (t : T) : TR := fun _ S R _ => R t S
theorem et_c {v : V} {t : T} (h : PE X e (tC v)) (rep : ∀ Z S H, Rep X.K Z S H v t) : ET X E e (rC t) := ⟨pe_weak h fun sl H Q ⟨⟨Z, σ, S, R, RE, fr, ok, r, po, _⟩⟩ => po t S v H r .refl ok (rep Z S H)⟩
theorem et_int {i : Int} {j} : ET X E (.Constant (.int i) j pos) (rC (.int i)) := et_c pe_int fun _ _ _ => .int i
theorem et_bl {i : Bool} {j} : ET X E (.Constant (.bool i) j pos) (rC (.bl i)) := et_c pe_bl fun _ _ _ => .bl i
theorem et_non {j} : ET X E (.Constant .none j pos) (rC .non) := et_c pe_non fun _ _ _ => .non
theorem et_str {z : Str} {j} : ET X E (.Constant (.str z) j pos) (rC (.str z)) := et_c pe_str fun _ _ _ => .str z
theorem et_glob {x : Str} {a : Addr} (hg : Gl X x) (hm : X.mg x = some (.ref a)) (hd : (x == ("__debug__" : Str)) = false := by decide) : ET X E (.Name x pos) (rC (.st a)) := et_c (pe_glob (v := .ref a) hg hm rfl hd) fun _ _ _ => .st a
theorem et_globI {x : Str} {i : Int} {tk : Tok} (hg : Gl X x) (hm : X.mg x = some (.int i tk)) (hd : (x == ("__debug__" : Str)) = false := by decide) : ET X E (.Name x pos) (rC (.int i)) := et_c (pe_glob (v := .int i) hg hm ⟨_, rfl⟩ hd) fun _ _ _ => .int i
theorem et_blty {x : Str} {n : String} (hg : Gl X x) (hm : X.mg x = none) (hv : bootBuiltins x = some (.type n)) (hn : x ≠ "__name__" := by decide) (hd : (x == ("__debug__" : Str)) = false := by decide) : ET X E (.Name x pos) (rC (.ty n)) :=
  et_c (pe_bltn (v := .ty n) hg hm hv rfl hn hd) fun _ _ _ => .ty n
/-! ### operators, by values -/
def rBin (k : T → T → Store → (T → Store → Prop) → XT → Prop) (ra rb : TR) : TR := fun σ S R RE => ra σ S (fun x S1 => rb σ S1 (fun y S2 => k x y S2 R RE) RE) RE
/-- an operator's rule in the layer follows from one about trees -/
def Conv (K : PySem.W.Frag) (E : XK) (k : T → T → Store → (T → Store → Prop) → XT → Prop) (r : R2) : Prop := ∀ Z x y S v u H R RE Q, Ok K Z S H → Rep K Z S H v x → Rep K Z S H u y → k x y S R RE → PO K Z S H R Q → XOk K Z S H RE E → r v u H Q
theorem et_op {op : Operator} {r : R2} {k} (ho : OpR X (binaryOp op) r) (cv : Conv X.K E k r) (ha : ET X E a ra) (hb : ET X E b rb) : ET X E (.BinOp a op b pos) (rBin k ra rb) :=
  ⟨pe_weak (pe_op ho ha.pe hb.pe) fun sl H Q h => UpE.two h fun Z x y S2 v u H2 R RE ok rx ry kk po xo => cv Z x y S2 v u H2 R RE Q ok rx ry kk po xo⟩
theorem et_cmp {op : CmpOp} {r : R2} {k} (ho : OpR X (compareOp op) r) (cv : Conv X.K E k r) (ha : ET X E a ra) (hb : ET X E b rb) (hm : behindInMarks op b = false) : ET X E (.Compare a [op] [b] pos) (rBin k ra rb) :=
  ⟨pe_weak (pe_cmpR ho ha.pe hb.pe hm) fun sl H Q h => UpE.two h fun Z x y S2 v u H2 R RE ok rx ry kk po xo => cv Z x y S2 v u H2 R RE Q ok rx ry kk po xo⟩
theorem et_ix {r : R2} {k} (ho : IxR X r) (cv : Conv X.K E k r) (ha : ET X E a ra) (hb : ET X E b rb) (hs : PlainIx b) : ET X E (.Subscript a b pos) (rBin k ra rb) :=
  ⟨pe_weak (pe_ix ho ha.pe hb.pe hs) fun sl H Q h => UpE.two h fun Z x y S2 v u H2 R RE ok rx ry kk po xo => cv Z x y S2 v u H2 R RE Q ok rx ry kk po xo⟩
/-- a bool from a value -/
def rTest (ra : TR) : TRB := fun σ S R RE => ra σ S (fun x S1 => ∃ c, x = .bl c ∧ R c S1) RE
theorem UpB.test {K : PySem.W.Frag} {sl : L2.St} {H : Hp} {Q : Bool → Hp → Prop} (h : UpB K E (rTest ra) sl H Q) : UpE K E ra sl H (fun x H1 => ∃ c, x = .bl c ∧ Q c H1) := by
  obtain ⟨Z, σ, S, R, RE, fr, ok, w, po, xo⟩ := h.ex
  refine ⟨_, σ, S, _, RE, fr, ok, w, fun x S1 v H1 kk le ok1 rep => ?_, xo⟩
  obtain ⟨c, rfl, r⟩ := kk
  cases rep
  exact ⟨c, rfl, po c S1 H1 r le ok1⟩
theorem tt_val (ha : ET X E a ra) (he : ∀ whole, isTrue a X.env whole = (do let v ← whole; standAt a.pos; holding [v] (truthy v)) := by intro _; rfl) : TT' X E a (rTest ra) :=
  ⟨⟨fun pins s sl H Q I h => (pt_val ha.pe he).run pins s sl H Q I h.test⟩⟩
theorem tt_cmp {op : CmpOp} {r : R2} {k} (ho : OpR X (compareOp op) r) (cv : Conv X.K E k r) (ha : ET X E a ra) (hb : ET X E b rb) (hm : behindInMarks op b = false) : TT' X E (.Compare a [op] [b] pos) (rTest (rBin k ra rb)) :=
  ⟨⟨fun pins s sl H Q I h => (pt_cmpR ho ha.pe hb.pe hm).run pins s sl H Q I (UpE.two (k := k) h.test fun Z x y S2 v u H2 R RE ok rx ry kk po xo => cv Z x y S2 v u H2 R RE _ ok rx ry kk po xo)⟩⟩
/-! ### and, or, not -/
variable {rest : List Expr} {ta tb tc : TRB}
def bAnd (ta tb : TRB) : TRB := fun σ S R RE => ta σ S (fun c S1 => if c = true then tb σ S1 R RE else R false S1) RE
def bOr (ta tb : TRB) : TRB := fun σ S R RE => ta σ S (fun c S1 => if c = true then R true S1 else tb σ S1 R RE) RE
def bNot (ta : TRB) : TRB := fun σ S R RE => ta σ S (fun c S1 => R (!c) S1) RE
theorem tw_and1 (h : TT' X E a ta) : TW' X E (.BoolOp .And [a] pos) ta := ⟨pw_and1 h.pt⟩
theorem tw_or1 (h : TT' X E a ta) : TW' X E (.BoolOp .Or [a] pos) ta := ⟨pw_or1 h.pt⟩
theorem tw_and (ha : TT' X E a ta) (hb : TW' X E (.BoolOp .And (b :: rest) pos) tb) : TW' X E (.BoolOp .And (a :: b :: rest) pos) (bAnd ta tb) := by
  refine ⟨⟨fun wh pins s sl H Q I h => (pw_and ha.pt hb.pw).run wh pins s sl H Q I ?_⟩⟩
  obtain ⟨Z, σ, S, R, RE, fr, ok, w, po, xo⟩ := h.ex
  refine ⟨_, σ, S, _, RE, fr, ok, w, fun c S1 H1 kk le ok1 => ?_, xo⟩
  cases c with
  | true => exact ⟨_, σ, S1, R, RE, fr.le le, ok1, kk, po.le le, xo.le le⟩
  | false => exact po false S1 H1 kk le ok1
theorem tw_or (ha : TT' X E a ta) (hb : TW' X E (.BoolOp .Or (b :: rest) pos) tb) : TW' X E (.BoolOp .Or (a :: b :: rest) pos) (bOr ta tb) := by
  refine ⟨⟨fun wh pins s sl H Q I h => (pw_or ha.pt hb.pw).run wh pins s sl H Q I ?_⟩⟩
  obtain ⟨Z, σ, S, R, RE, fr, ok, w, po, xo⟩ := h.ex
  refine ⟨_, σ, S, _, RE, fr, ok, w, fun c S1 H1 kk le ok1 => ?_, xo⟩
  cases c with
  | false => exact ⟨_, σ, S1, R, RE, fr.le le, ok1, kk, po.le le, xo.le le⟩
  | true => exact po true S1 H1 kk le ok1
theorem tt_w (h : TW' X E a ta) : TT' X E a ta := ⟨h.pw.pt⟩
theorem tt_not (ha : TT' X E a ta) : TT' X E (.UnaryOp .Not a pos) (bNot ta) := by
  refine ⟨⟨fun pins s sl H Q I h => (pt_not ha.pt).run pins s sl H Q I ?_⟩⟩
  obtain ⟨Z, σ, S, R, RE, fr, ok, w, po, xo⟩ := h.ex
  exact ⟨_, σ, S, _, RE, fr, ok, w, fun c S1 H1 kk le ok1 => po _ S1 H1 kk le ok1, xo⟩
/-- .. as values -/
def vAnd (ra rb : TR) : TR := fun σ S R RE => ra σ S (fun x S1 => ∃ c, x = .bl c ∧ if c = true then rb σ S1 R RE else R (.bl false) S1) RE
def vOr (ra rb : TR) : TR := fun σ S R RE => ra σ S (fun x S1 => ∃ c, x = .bl c ∧ if c = true then R (.bl true) S1 else rb σ S1 R RE) RE
def vNot (ra : TR) : TR := fun σ S R RE => ra σ S (fun x S1 => ∃ c, x = .bl c ∧ R (.bl (!c)) S1) RE
theorem et_one {op} (h : ET X E a ra) : ET X E (.BoolOp op [a] pos) ra := ⟨pe_one h.pe⟩
theorem et_and (ha : ET X E a ra) (hb : ET X E (.BoolOp .And (b :: rest) pos) rb) : ET X E (.BoolOp .And (a :: b :: rest) pos) (vAnd ra rb) :=
  ⟨pe_weak (pe_and ha.pe hb.pe) fun sl H Q h => UpE.one (k := fun σ x S1 R RE => ∃ c, x = .bl c ∧ if c = true then rb σ S1 R RE else R (.bl false) S1) h fun Z σ x S1 v H1 R RE fr ok rx kk po xo => by
    obtain ⟨c, rfl, kk⟩ := kk
    cases rx
    refine ⟨c, rfl, ?_⟩
    cases c with
    | true => exact ⟨_, σ, S1, R, RE, fr, ok, kk, po, xo⟩
    | false => exact po _ S1 _ H1 kk .refl ok (.bl false)⟩
theorem et_or (ha : ET X E a ra) (hb : ET X E (.BoolOp .Or (b :: rest) pos) rb) : ET X E (.BoolOp .Or (a :: b :: rest) pos) (vOr ra rb) :=
  ⟨pe_weak (pe_or ha.pe hb.pe) fun sl H Q h => UpE.one (k := fun σ x S1 R RE => ∃ c, x = .bl c ∧ if c = true then R (.bl true) S1 else rb σ S1 R RE) h fun Z σ x S1 v H1 R RE fr ok rx kk po xo => by
    obtain ⟨c, rfl, kk⟩ := kk
    cases rx
    refine ⟨c, rfl, ?_⟩
    cases c with
    | false => exact ⟨_, σ, S1, R, RE, fr, ok, kk, po, xo⟩
    | true => exact po _ S1 _ H1 kk .refl ok (.bl true)⟩
theorem et_not (ha : ET X E a ra) : ET X E (.UnaryOp .Not a pos) (vNot ra) :=
  ⟨pe_weak (pe_not ha.pe) fun sl H Q h => UpE.one (k := fun σ x S1 R RE => ∃ c, x = .bl c ∧ R (.bl (!c)) S1) h fun Z σ x S1 v H1 R RE fr ok rx kk po xo => by
    obtain ⟨c, rfl, kk⟩ := kk
    cases rx
    exact ⟨c, rfl, po _ S1 _ H1 kk .refl ok (.bl _)⟩⟩
def rIf (tc : TRB) (ra rb : TR) : TR := fun σ S R RE => tc σ S (fun c S1 => if c = true then ra σ S1 R RE else rb σ S1 R RE) RE
theorem et_if (hc : TT' X E c tc) (ha : ET X E a ra) (hb : ET X E b rb) : ET X E (.IfExp c a b pos) (rIf tc ra rb) := by
  refine ⟨pe_weak (pe_ifExp hc.pt ha.pe hb.pe) fun sl H Q h => ?_⟩
  obtain ⟨Z, σ, S, R, RE, fr, ok, w, po, xo⟩ := h.ex
  refine ⟨_, σ, S, _, RE, fr, ok, w, fun c S1 H1 kk le ok1 => ?_, xo⟩
  cases c with
  | true => exact ⟨_, σ, S1, R, RE, fr.le le, ok1, kk, po.le le, xo.le le⟩
  | false => exact ⟨_, σ, S1, R, RE, fr.le le, ok1, kk, po.le le, xo.le le⟩
/-! ### argument lists, displays -/
def aNil : TRA := fun _ S R _ => R [] S
def aCons (ra : TR) (t : TRA) : TRA := fun σ S R RE => ra σ S (fun x S1 => t σ S1 (fun xs S2 => R (x :: xs) S2) RE) RE
theorem at_nil : AT X E [] aNil := ⟨⟨fun pos pins s sl H Q I h => pa_nil.run pos pins s sl H Q I (by
  obtain ⟨Z, σ, S, R, RE, fr, ok, w, po, xo⟩ := h.ex
  exact po [] S [] H w .refl ok .nil)⟩⟩
theorem at_cons {t : TRA} (ha : ET X E e ra) (hr : AT X E es t) (hs : starEach (e :: es) X.env = (false, eval e X.env) :: starEach es X.env := by rfl) : AT X E (e :: es) (aCons ra t) := ⟨⟨fun pos pins s sl H Q I h => (pa_cons ha.pe hr.pa hs).run pos pins s sl H Q I (by
  obtain ⟨Z, σ, S, R, RE, fr, ok, w, po, xo⟩ := h.ex
  refine ⟨_, σ, S, _, RE, fr, ok, w, fun x S1 v H1 kk le ok1 rep => ?_, xo⟩
  exact ⟨_, σ, S1, _, RE, fr.le le, ok1, kk, fun xs S2 vs H2 k2 le2 ok2 rs => po (x :: xs) S2 (v :: vs) H2 k2 (le.trans le2) ok2 (.cons (rep.le le2) rs), xo.le le⟩)⟩⟩
def rTup (t : TRA) : TR := fun σ S R RE => t σ S (fun xs S1 => xs.length ≤ sizeLine ∧ R (.tup xs) S1) RE
def rLst (t : TRA) : TR := fun σ S R RE => t σ S (fun xs S1 => xs.length ≤ sizeLine ∧ R (.lst xs) S1) RE
def rLstC (t : TRA) : TR := fun σ S R RE => t σ S (fun xs S1 => xs.length ≤ sizeLine ∧ ∀ a, S1 a = none → R (.cell a) (S1.put a (.lst xs))) RE
variable {t : TRA}
theorem et_tup {x1} (h : AT X E es t) : ET X E (.Tuple es x1 pos) (rTup t) :=
  ⟨pe_weak (pe_tup h.pa) fun sl H Q h => UpA.args (k := fun xs S1 R RE => xs.length ≤ sizeLine ∧ R (.tup xs) S1) h fun Z xs S1 vs H1 R RE ok rs kk po xo =>
    ⟨by rw [rs.length]; exact kk.1, fun p hp => po _ S1 _ _ kk.2 (le_new hp) (ok.new hp) (.tupN ok hp rs)⟩⟩
theorem et_lst (h : AT X E es t) : ET X E (.List es pos) (rLst t) :=
  ⟨pe_weak (pe_lst h.pa) fun sl H Q h => UpA.args (k := fun xs S1 R RE => xs.length ≤ sizeLine ∧ R (.lst xs) S1) h fun Z xs S1 vs H1 R RE ok rs kk po xo =>
    ⟨by rw [rs.length]; exact kk.1, fun p hp => po _ S1 _ _ kk.2 (le_new hp) (ok.new hp) (.lstN ok hp rs)⟩⟩
theorem et_lstC (h : AT X E es t) : ET X E (.List es pos) (rLstC t) :=
  ⟨pe_weak (pe_lst h.pa) fun sl H Q h => UpA.args (k := fun xs S1 R RE => xs.length ≤ sizeLine ∧ ∀ a, S1 a = none → R (.cell a) (S1.put a (.lst xs))) h fun Z xs S1 vs H1 R RE ok rs kk po xo =>
    ⟨by rw [rs.length]; exact kk.1, fun p hp => by
      have l := le_newc (S := S1) (o := .lst vs) (c := .lst xs) hp
      exact po _ _ _ _ (kk.2 p (ok.free hp)) l (ok.put l (ok.nz hp) ⟨vs, upd_same, rs.le l⟩) (.cell p)⟩⟩
/-- a built-in called with values -/
def rArgs (k : List T → Store → (T → Store → Prop) → XT → Prop) (t : TRA) : TR := fun σ S R RE => t σ S (fun xs S1 => k xs S1 R RE) RE
def ConvA (K : PySem.W.Frag) (E : XK) (k : List T → Store → (T → Store → Prop) → XT → Prop) (r : List V → Hp → VK → Prop) : Prop := ∀ Z xs S vs H R RE Q, Ok K Z S H → Reps K Z S H vs xs → k xs S R RE → PO K Z S H R Q → XOk K Z S H RE E → r vs H Q
theorem et_blt {id : String} {x : Str} {p : Pos} {r : List V → Hp → VK → Prop} {k} (hc : CallR X (.builtin id) r) (cv : ConvA X.K E k r) (hg : Gl X x) (hm : X.mg x = none) (hv : bootBuiltins x = some (.builtin id)) (ha : AT X E (e :: es) t) (hn : x ≠ "__name__" := by decide) (hdb : (x == ("__debug__" : Str)) = false := by decide)
    (he : starEach (e :: es) X.env = (false, eval e X.env) :: starEach es X.env := by rfl) (hpl : (backTo pos (starEach es X.env)).any (·.1) = false := by rfl) : ET X E (.Call (.Name x p) (e :: es) [] pos) (rArgs k t) :=
  ⟨pe_weak (pe_callB hc hg hm hv ha.pa hn hdb he hpl) fun sl H Q h => UpA.args h fun Z xs S1 vs H1 R RE ok rs kk po xo => cv Z xs S1 vs H1 R RE Q ok rs kk po xo⟩
theorem et_typ {T' : String} {x : Str} {p : Pos} {r : List V → Hp → VK → Prop} {k} (hc : CallR X (.type T') r) (cv : ConvA X.K E k r) (hg : Gl X x) (hm : X.mg x = none) (hv : bootBuiltins x = some (.type T')) (ha : AT X E (e :: es) t) (hn : x ≠ "__name__" := by decide) (hdb : (x == ("__debug__" : Str)) = false := by decide)
    (he : starEach (e :: es) X.env = (false, eval e X.env) :: starEach es X.env := by rfl) (hpl : (backTo pos (starEach es X.env)).any (·.1) = false := by rfl) : ET X E (.Call (.Name x p) (e :: es) [] pos) (rArgs k t) :=
  ⟨pe_weak (pe_callTy hc hg hm hv ha.pa hn hdb he hpl) fun sl H Q h => UpA.args h fun Z xs S1 vs H1 R RE ok rs kk po xo => cv Z xs S1 vs H1 R RE Q ok rs kk po xo⟩
end

/-! ### targets -/
abbrev TRG := T → Fm → Store → (Fm → Store → Prop) → XT → Prop
abbrev TRGs := List T → Fm → Store → (Fm → Store → Prop) → XT → Prop
structure UpG (K : PySem.W.Frag) (E : XK) (r : TRG) (v : V) (sl : L2.St) (H : Hp) (Q : L2.St → Hp → Prop) : Prop where
  ex : ∃ Z σ S t R RE, FrR K Z S H sl σ ∧ Ok K Z S H ∧ Rep K Z S H v t ∧ r t σ S R RE ∧ POF K Z S H R Q ∧ XOk K Z S H RE E
structure UpGs (K : PySem.W.Frag) (E : XK) (r : TRGs) (vs : List V) (sl : L2.St) (H : Hp) (Q : L2.St → Hp → Prop) : Prop where
  ex : ∃ Z σ S ts R RE, FrR K Z S H sl σ ∧ Ok K Z S H ∧ Reps K Z S H vs ts ∧ r ts σ S R RE ∧ POF K Z S H R Q ∧ XOk K Z S H RE E
structure GT (X : Cx) (E : XK) (tg : Expr) (r : TRG) : Prop where
  pg : PG X tg (UpG X.K E r)
structure GTs (X : Cx) (E : XK) (ts : List Expr) (r : TRGs) : Prop where
  pg : PGs X ts (UpGs X.K E r)
section
variable {X : Cx} {E : XK} {e a b c : Expr} {es : List Expr} {pos : Pos} {ra rb rc : TR} {g : TRG} {gs : TRGs} {t : TRA}
def gNameT (i : Nat) : TRG := fun t σ S R _ => R (σ.set i (some t)) S
theorem pg_weak {X : Cx} {e : Expr} {t t' : TG} (he : PG X e t) (imp : ∀ v sl H Q, t' v sl H Q → t v sl H Q) : PG X e t' := ⟨fun pins s sl H v u Q inv r h => he.run pins s sl H v u Q inv r (imp v sl H Q h)⟩
theorem gt_name {i : Nat} (h : PG X e (gName i)) : GT X E e (gNameT i) := ⟨pg_weak h fun v sl H Q ⟨⟨Z, σ, S, t, R, RE, fr, ok, rep, r, po, _⟩⟩ => po _ S _ H r .refl ok (fr.set i rep)⟩
def gNilT : TRGs := fun ts σ S R _ => ts = [] ∧ R σ S
def gConsT (g : TRG) (gs : TRGs) : TRGs := fun ts σ S R RE => ∃ x r, ts = x :: r ∧ g x σ S (fun σ1 S1 => gs r σ1 S1 R RE) RE
theorem gts_nil : GTs X E [] gNilT := ⟨⟨fun pins s sl H vs us Q I r ⟨⟨Z, σ, S, ts, R, RE, fr, ok, rep, ⟨e, w⟩, po, _⟩⟩ => by
  subst e
  cases rep
  exact pgs_nil.run pins s sl H [] us Q I r ⟨rfl, po σ S sl H w .refl ok fr⟩⟩⟩
theorem gts_cons (h1 : GT X E e g) (h2 : GTs X E es gs) (hs : (assignEach (e :: es) X.env).map (·.2) = assign e X.env :: (assignEach es X.env).map (·.2) := by rfl) : GTs X E (e :: es) (gConsT g gs) :=
  ⟨⟨fun pins s sl H vs us Q I r ⟨⟨Z, σ, S, ts, R, RE, fr, ok, rep, ⟨x, xs, e, w⟩, po, xo⟩⟩ => by
    subst e
    cases rep with
    | cons rx rr =>
      refine (pgs_cons h1.pg h2.pg hs).run pins s sl H _ us Q I r ⟨_, _, rfl, _, σ, S, x, _, RE, fr, ok, rx, w, fun σ1 S1 sl1 H1 k le ok1 fr1 => ?_, xo⟩
      exact ⟨_, σ1, S1, xs, R, RE, fr1, ok1, rr.le le, k, po.le le, xo.le le⟩⟩⟩
def gTupT (n : Nat) (gs : TRGs) : TRG := fun t σ S R RE => ∃ ts, t = .tup ts ∧ ts.length = n ∧ gs ts σ S R RE
theorem gt_tup {k : Nat} {n : Nat} (hc : X.calm = true) (h : GTs X E es gs) (hn : (assignEach es X.env).length = n := by rfl) (hst : (assignEach es X.env).findIdx? (·.1) = none := by rfl) : GT X E (.Tuple es k pos) (gTupT n gs) :=
  ⟨pg_weak (pg_tup hc h.pg hn hst) fun v sl H Q ⟨⟨Z, σ, S, t, R, RE, fr, ok, rep, ⟨ts, e, l, w⟩, po, xo⟩⟩ => by
    subst e
    cases rep with
    | tup h r => exact ⟨_, _, rfl, h.sq, r.length.trans l, _, σ, S, ts, R, RE, fr, ok, r, w, po, xo⟩⟩
/-- xs[i] = .., xs a list that changes -/
def gSubT (ra rb : TR) : TRG := fun t σ S R RE => ra σ S (fun x S1 => rb σ S1 (fun y S2 => ∃ a ts i j, x = .cell a ∧ y = .int i ∧ S2 a = some (.lst ts) ∧ ixN ts.length i = some j ∧ R σ (S2.put a (.lst (ts.set j t)))) RE) RE
theorem gt_sub {o i : Expr} (ho : ET X E o ra) (hi : ET X E i rb) (ha : ∀ v, assign (.Subscript o i pos) X.env v = (do
      let ov ← holding [v] (eval o X.env)
      let iv ← holding [v, ov] (eval i X.env)
      standAt pos
      holding [v, ov, iv] (setItem ov iv v)
      release [v, ov, iv] []) := by intro _; rfl) : GT X E (.Subscript o i pos) (gSubT ra rb) :=
  ⟨pg_weak (pg_sub ho.pe hi.pe set_list ha) fun v sl H Q ⟨⟨Z, σ, S, t, R, RE, fr, ok, rep, w, po, xo⟩⟩ => by
    refine ⟨_, σ, S, _, RE, fr, ok, w, fun x S1 vx H1 k1 le1 ok1 rx => ?_, xo⟩
    refine ⟨_, σ, S1, _, RE, fr.le le1, ok1, k1, fun y S2 vy H2 k2 le2 ok2 ry => ?_, xo.le le1⟩
    obtain ⟨a, ts, i, j, rfl, rfl, hs, hj, w⟩ := k2
    cases rx; cases ry
    have ca := ok2.cl a
    rw [hs] at ca
    obtain ⟨vs, hv, rs⟩ := ca
    refine ⟨a, vs, i, j, rfl, rfl, hv, by rw [rs.length]; exact hj, ?_⟩
    have l3 : Le S2 H2 (S2.put a (.lst (ts.set j t))) (upd H2 a (.lst (vs.set j v))) := le_setc hs
    exact po _ _ _ _ w ((le1.trans le2).trans l3) (ok2.put l3 (ok2.nzc hs) ⟨_, upd_same, (rs.le l3).set j (((rep.le le1).le le2).le l3)⟩) (((fr.le le1).le le2).le l3)⟩
/-! ### statements -/
def sAsg (ra : TR) (g : TRG) : TRS := fun D σ S => ra σ S (fun x S1 => g x σ S1 D.nx D.ex) D.ex
theorem ps_weak {X : Cx} {e : Stmt} {t t' : TS} (he : PS X e t) (imp : ∀ D sl H, t' D sl H → t D sl H) : PS X e t' := ⟨fun pins s sl H D inv h => he.run pins s sl H D inv (imp D sl H h)⟩
theorem pss_weak {X : Cx} {e : List Stmt} {t t' : TS} (he : PSs X e t) (imp : ∀ D sl H, t' D sl H → t D sl H) : PSs X e t' := ⟨fun pins s sl H D inv h => he.run pins s sl H D inv (imp D sl H h)⟩
theorem ss_asg {tg : Expr} (he : ET X E e ra) (hg : GT X E tg g) (hs : swapsWithSole [tg] e pos.line X.env = pure false := by rfl) (hw : swappedStores [tg] e X.env = pure none := by rfl)
    (h1 : (assignEach [tg] X.env).map (·.2) = [assign tg X.env] := by rfl) : SS X E (.Assign [tg] e pos) (sAsg ra g) :=
  ⟨ps_weak (ps_asg he.pe hg.pg hs hw h1) fun D sl H ⟨⟨Z, σ, S, DT, fr, ok, w, eo, xo⟩⟩ =>
    ⟨_, σ, S, _, DT.ex, fr, ok, w, fun x S1 v H1 k le ok1 rep => ⟨_, σ, S1, x, DT.nx, DT.ex, fr.le le, ok1, rep, k, eo.nx.le le, xo.le le⟩, xo⟩⟩
theorem ss_set {i : Nat} {x : Str} {pos' : Pos} (hN : X.N.Nodup) (hi : X.N[i]? = some x) (hx : Loc X.env.scope x) (he : ET X E e ra) (hs : swapsWith e (some (.Name x pos')) pos.line X.env = pure false := by rfl)
    (hf : X.fn x = true ∨ X.env.scope.names.lookup x = some .local := by first | exact .inl rfl | exact .inr rfl | assumption) : SS X E (.Assign [.Name x pos'] e pos) (sAsg ra (gNameT i)) :=
  ⟨ps_weak (ps_set hN hi hx he.pe hs hf) fun D sl H ⟨⟨Z, σ, S, DT, fr, ok, w, eo, xo⟩⟩ =>
    ⟨_, σ, S, _, DT.ex, fr, ok, w, fun x S1 v H1 k le ok1 rep => eo.nx _ S1 _ H1 k le ok1 ((fr.le le).set i rep), xo⟩⟩
/-- a, b = e1, e2 -/
def sPar (i j : Nat) (t : TRA) : TRS := fun D σ S => t σ S (fun ts S1 => ∃ x y, ts = [x, y] ∧ D.nx ((σ.set i (some x)).set j (some y)) S1) D.ex
theorem ss_par {i j : Nat} {x y : Str} {px py pt : Pos} {kt k2 pt2} (hc : X.calm = true) (hN : X.N.Nodup) (hi : X.N[i]? = some x) (hj : X.N[j]? = some y) (hij : i ≠ j)
    (hx : X.env.scope.names.lookup x = some .local) (hy : X.env.scope.names.lookup y = some .local) (ha : AT X E [a, b] t)
    (hw : swappedStores [.Tuple [.Name x px, .Name y py] kt pt] (.Tuple [a, b] k2 pt2) X.env = pure (some [x, y]))
    (hs : swapsWithSole [.Tuple [.Name x px, .Name y py] kt pt] (.Tuple [a, b] k2 pt2) pos.line X.env = pure false := by rfl) :
    SS X E (.Assign [.Tuple [.Name x px, .Name y py] kt pt] (.Tuple [a, b] k2 pt2) pos) (sPar i j t) :=
  ⟨ps_weak (ps_par hc hN hi hj hij hx hy ha.pa hw hs) fun D sl H ⟨⟨Z, σ, S, DT, fr, ok, w, eo, xo⟩⟩ =>
    ⟨_, σ, S, _, DT.ex, fr, ok, w, fun xs S1 vs H1 k le ok1 rep => by
      obtain ⟨x, y, rfl, k⟩ := k
      cases rep with
      | cons r1 rr =>
        cases rr with
        | cons r2 rr =>
          cases rr
          exact ⟨_, _, rfl, eo.nx _ S1 _ H1 k le ok1 (((fr.le le).set i r1).set j r2)⟩, xo⟩⟩
def sDrop (ra : TR) : TRS := fun D σ S => ra σ S (fun _ S1 => D.nx σ S1) D.ex
theorem ss_expr (he : ET X E e ra) (hs : swapsWith e none pos.line X.env = pure false := by rfl) : SS X E (.Expr e pos) (sDrop ra) :=
  ⟨ps_weak (ps_expr he.pe hs) fun D sl H ⟨⟨Z, σ, S, DT, fr, ok, w, eo, xo⟩⟩ => ⟨_, σ, S, _, DT.ex, fr, ok, w, fun x S1 v H1 k le ok1 _ => eo.nx σ S1 sl H1 k le ok1 (fr.le le), xo⟩⟩
def sRet (ra : TR) : TRS := fun D σ S => ra σ S D.rt D.ex
theorem ss_ret (he : ET X E e ra) : SS X E (.Return (some e) pos) (sRet ra) := ⟨ps_weak (ps_ret he.pe) fun D sl H ⟨⟨Z, σ, S, DT, fr, ok, w, eo, xo⟩⟩ => ⟨_, σ, S, _, DT.ex, fr, ok, w, eo.rt, xo⟩⟩
def sRetN : TRS := fun D _ S => D.rt .non S
theorem ss_retN : SS X E (.Return none pos) sRetN := ⟨ps_weak ps_retN fun D sl H ⟨⟨Z, σ, S, DT, fr, ok, w, eo, xo⟩⟩ => eo.rt _ S _ H w .refl ok .non⟩
def sIf (tc : TRB) (ra rb : TRS) : TRS := fun D σ S => tc σ S (fun c S1 => if c = true then ra D σ S1 else rb D σ S1) D.ex
theorem ss_if {ta : TRB} {sa sb : TRS} {as bs : List Stmt} (hc : TT' X E c ta) (ha : BS X E as sa) (hb : BS X E bs sb) : SS X E (.If c as bs pos) (sIf ta sa sb) :=
  ⟨ps_weak (ps_if hc.pt ha.ps hb.ps) fun D sl H ⟨⟨Z, σ, S, DT, fr, ok, w, eo, xo⟩⟩ => ⟨_, σ, S, _, DT.ex, fr, ok, w, fun c S1 H1 k le ok1 => by
    cases c with
    | true => exact ⟨_, σ, S1, DT, fr.le le, ok1, k, eo.le le, xo.le le⟩
    | false => exact ⟨_, σ, S1, DT, fr.le le, ok1, k, eo.le le, xo.le le⟩, xo⟩⟩
def sNext : TRS := fun D σ S => D.nx σ S
def sSeq (ra rb : TRS) : TRS := fun D σ S => ra { D with nx := rb D } σ S
theorem bs_nil : BS X E [] sNext := ⟨pss_weak pss_nil fun D sl H ⟨⟨Z, σ, S, DT, fr, ok, w, eo, xo⟩⟩ => eo.nx σ S sl H w .refl ok fr⟩
theorem bs_cons {st : Stmt} {rest : List Stmt} {sa sb : TRS} (h1 : SS X E st sa) (h2 : BS X E rest sb) : BS X E (st :: rest) (sSeq sa sb) :=
  ⟨pss_weak (pss_cons h1.ps h2.ps) fun D sl H ⟨⟨Z, σ, S, DT, fr, ok, w, eo, xo⟩⟩ => ⟨_, σ, S, { DT with nx := sb DT }, fr, ok, w,
    ⟨fun σ1 S1 sl1 H1 k le ok1 fr1 => ⟨_, σ1, S1, DT, fr1, ok1, k, eo.le le, xo.le le⟩, eo.rt, eo.bk, eo.ct⟩, xo⟩⟩
theorem bs_one {st : Stmt} {sa : TRS} (h1 : SS X E st sa) : BS X E [st] sa :=
  ⟨pss_weak (pss_one h1.ps) fun D sl H h => h⟩
/-! ### what is walked -/
abbrev TRI := Fm → Store → (List T → Store → Prop) → XT → Prop
/-- J walks the things ts, whatever is made meanwhile -/
def SrcOk (K : PySem.W.Frag) (Z : Addr → Prop) (S0 : Store) (H0 : Hp) (J : It) (ts : List T) : Prop := ∀ Z' S H, Hid H0 Z Z' → Le S0 H0 S H → Ok K Z' S H →
  (∀ i t, ts[i]? = some t → J.go i H ∧ ∀ x H', J.yld i H x H' → Le S H S H' ∧ Ok K Z' S H' ∧ Rep K Z' S H' x t) ∧ ∀ i, ts.length ≤ i → J.stop i H
structure UpI (K : PySem.W.Frag) (E : XK) (r : TRI) (sl : L2.St) (H : Hp) (Q : It → Hp → Prop) : Prop where
  ex : ∃ Z σ S R RE, FrR K Z S H sl σ ∧ Ok K Z S H ∧ r σ S R RE ∧ (∀ ts S' J H', R ts S' → Le S H S' H' → Ok K Z S' H' → SrcOk K Z S' H' J ts → Q J H') ∧ XOk K Z S H RE E
structure IT (X : Cx) (E : XK) (tg it : Expr) (r : TRI) : Prop where
  pi : PI X tg it (UpI X.K E r)
def seqOf : T → Option (List T)
  | .lst ts => some ts
  | .scr ts => some ts
  | .tup ts => some ts
  | _ => none
def iSeq (ra : TR) : TRI := fun σ S R RE => ra σ S (fun t S1 => ∃ ts, seqOf t = some ts ∧ R ts S1) RE
theorem src_list {K : PySem.W.Frag} {Z : Addr → Prop} {S : Store} {H : Hp} {p : Addr} {vs : List V} {ts : List T} (h : LstAt Z S H p vs) (r : Reps K Z S H vs ts) : SrcOk K Z S H (Itl K p) ts := fun Z' S1 H1 hz le ok => by
  replace h := h.hide hz
  replace r := r.hide hz
  refine ⟨fun i t hi => ?_, fun i hi => ⟨vs, (h.le le).sq, by rw [r.length]; exact hi⟩⟩
  obtain ⟨v, hv, rep⟩ := r.get hi
  refine ⟨⟨vs, v, (h.le le).sq, hv⟩, fun x H' ⟨e, y⟩ => ?_⟩
  subst e
  have := y vs (h.le le).sq
  rw [hv] at this
  cases this
  exact ⟨.refl, ok, rep.le le⟩
theorem src_scr {K : PySem.W.Frag} {Z : Addr → Prop} {S : Store} {H : Hp} {p : Addr} {vs : List V} {ts : List T} (h : ScrAt K Z S H p vs) (r : Reps K Z S H vs ts) : SrcOk K Z S H (Itl K p) ts := fun Z' S1 H1 hz le ok => by
  replace h := h.hide hz
  replace r := r.hide hz
  refine ⟨fun i t hi => ?_, fun i hi => ⟨vs, (h.le le).sq, by rw [r.length]; exact hi⟩⟩
  obtain ⟨v, hv, rep⟩ := r.get hi
  refine ⟨⟨vs, v, (h.le le).sq, hv⟩, fun x H' ⟨e, y⟩ => ?_⟩
  subst e
  have := y vs (h.le le).sq
  rw [hv] at this
  cases this
  exact ⟨.refl, ok, rep.le le⟩
theorem src_tup {K : PySem.W.Frag} {Z : Addr → Prop} {S : Store} {H : Hp} {p : Addr} {vs : List V} {ts : List T} (h : TupAt K Z S H p vs) (r : Reps K Z S H vs ts) : SrcOk K Z S H (Itt K p) ts := fun Z' S1 H1 hz le ok => by
  replace h := h.hide hz
  replace r := r.hide hz
  refine ⟨fun i t hi => ?_, fun i hi => ⟨vs, (h.le le).sq, by rw [r.length]; exact hi⟩⟩
  obtain ⟨v, hv, rep⟩ := r.get hi
  refine ⟨⟨vs, v, (h.le le).sq, hv⟩, fun x H' ⟨e, y⟩ => ?_⟩
  subst e
  have := y vs (h.le le).sq
  rw [hv] at this
  cases this
  exact ⟨.refl, ok, rep.le le⟩
def iLT (K : PySem.W.Frag) (tl : TE) : TI := fun σ H R => tl σ H fun x H1 => ∃ a, x = .ref a ∧ (((∃ xs, SqL K H1 a xs) ∧ R (Itl K a) H1) ∨ ((∃ xs, SqT K H1 a xs) ∧ R (Itt K a) H1))
theorem pi_lt {tg l : Expr} {tl : TE} (hl : PE X l tl) : PI X tg l (iLT X.K tl) := by
  refine ⟨fun pins s sl H R I h => ?_⟩
  refine thn (hl.run pins s sl H _ I h) fun v s1 ⟨x, H1, I1, r1, q1⟩ => ?_
  obtain ⟨a, e, q⟩ := q1
  subst e
  cases r1
  rcases q with ⟨⟨xs, hq⟩, q⟩ | ⟨⟨xs, hq⟩, q⟩
  · obtain ⟨its, rv, p, hz⟩ := I1.list hq
    refine wpAny_pyIter_list p.isList ?_
    refine ⟨s1.heap.objs.size, [s1.heap.objs.size], _, _, H1, rfl, I1.kept (t' := s1.toks) fun b o e => Heap.get?_push_of_some _ e, turn_list a _, ⟨_, Heap.get?_push_size _ rfl, rfl, rfl⟩, fun b hb => ?_, q⟩
    have e : b = s1.heap.objs.size := by simpa using hb
    subst e
    exact I1.fpOk (Nat.le_refl _) (I1.hok.fresh (Nat.le_refl _))
  · obtain ⟨its, rv, p, hz⟩ := I1.tuple hq
    refine wpAny_pyIter_tuple (show s1.heap.IsTuple a its.toArray from p) ?_
    refine ⟨s1.heap.objs.size, [s1.heap.objs.size], _, _, H1, rfl, I1.kept (t' := s1.toks) fun b o e => Heap.get?_push_of_some _ e, turn_tuple a _, ⟨_, Heap.get?_push_size _ rfl, rfl, rfl⟩, fun b hb => ?_, q⟩
    have e : b = s1.heap.objs.size := by simpa using hb
    subst e
    exact I1.fpOk (Nat.le_refl _) (I1.hok.fresh (Nat.le_refl _))
theorem pi_weak {X : Cx} {tg e : Expr} {t t' : TI} (he : PI X tg e t) (imp : ∀ sl H Q, t' sl H Q → t sl H Q) : PI X tg e t' := ⟨fun pins s sl H R inv h => he.run pins s sl H R inv (imp sl H R h)⟩
theorem it_seq {tg : Expr} (ha : ET X E a ra) : IT X E tg a (iSeq ra) := ⟨pi_weak (pi_lt ha.pe) fun sl H Q ⟨⟨Z, σ, S, R, RE, fr, ok, w, po, xo⟩⟩ => by
  refine ⟨_, σ, S, _, RE, fr, ok, w, fun t S1 v H1 k le ok1 rep => ?_, xo⟩
  obtain ⟨ts, e, k⟩ := k
  cases rep <;> try (cases e; done)
  · cases e
    rename_i h r
    exact ⟨_, rfl, .inr ⟨⟨_, h.sq⟩, po ts S1 _ H1 k le ok1 (src_tup h r)⟩⟩
  · cases e
    rename_i h r
    exact ⟨_, rfl, .inl ⟨⟨_, h.sq⟩, po ts S1 _ H1 k le ok1 (src_list h r)⟩⟩
  · cases e
    rename_i h r
    exact ⟨_, rfl, .inl ⟨⟨_, h.sq⟩, po ts S1 _ H1 k le ok1 (src_scr h r)⟩⟩⟩
def rangeT (lo hi : Int) : List T := (List.range (hi - lo).toNat).map fun (i : Nat) => T.int (lo + i)
theorem src_range {K : PySem.W.Frag} {Z : Addr → Prop} {S : Store} {H : Hp} {lo : Int} {n : Nat} : SrcOk K Z S H (Itr lo n) ((List.range n).map fun (i : Nat) => T.int (lo + i)) := fun Z' S1 H1 hz le ok => by
  refine ⟨fun i t hi => ?_, fun i hi => by rw [List.length_map, List.length_range] at hi; exact hi⟩
  rw [List.getElem?_map] at hi
  obtain ⟨j, hj, e⟩ := Option.map_eq_some_iff.mp hi
  obtain ⟨l, ej⟩ := List.getElem?_eq_some_iff.mp hj
  rw [List.getElem_range] at ej
  subst ej e
  rw [List.length_range] at l
  refine ⟨l, fun x H' ⟨e1, e2⟩ => ?_⟩
  subst e1 e2
  exact ⟨.refl, ok, .int _⟩
def iRng1T (t : TRA) : TRI := fun σ S R RE => t σ S (fun xs S1 => ∃ j : Int, xs = [.int j] ∧ -(2 ^ 62) ≤ j ∧ j < 2 ^ 62 ∧ R (rangeT 0 j) S1) RE
def iRng2T (t : TRA) : TRI := fun σ S R RE => t σ S (fun xs S1 => ∃ i j : Int, xs = [.int i, .int j] ∧ (-(2 ^ 62) ≤ i ∧ i < 2 ^ 62 ∧ -(2 ^ 62) ≤ j ∧ j < 2 ^ 62) ∧ R (rangeT i j) S1) RE
theorem it_range1 {tg : Expr} {p : Pos} (hg : Gl X "range") (hm : X.mg "range" = none) (ha : AT X E [a] t) (hs : starEach [a] X.env = [(false, eval a X.env)] := by rfl) : IT X E tg (.Call (.Name "range" p) [a] [] pos) (iRng1T t) :=
  ⟨pi_weak (pi_range1 hg hm ha.pa hs) fun sl H Q ⟨⟨Z, σ, S, R, RE, fr, ok, w, po, xo⟩⟩ => ⟨_, σ, S, _, RE, fr, ok, w, fun xs S1 vs H1 k le ok1 rep => by
    obtain ⟨j, rfl, h1, h2, k⟩ := k
    cases rep with
    | cons r rr =>
      cases r; cases rr
      refine ⟨j, rfl, h1, h2, po _ S1 _ H1 k le ok1 ?_⟩
      have := src_range (K := X.K) (Z := Z) (S := S1) (H := H1) (lo := 0) (n := j.toNat)
      unfold rangeT
      rw [Int.sub_zero]
      exact this, xo⟩⟩
theorem it_range2 {tg : Expr} {p : Pos} (hg : Gl X "range") (hm : X.mg "range" = none) (ha : AT X E [a, b] t) (hs : starEach [a, b] X.env = [(false, eval a X.env), (false, eval b X.env)] := by rfl) (hs2 : starEach [b] X.env = [(false, eval b X.env)] := by rfl) : IT X E tg (.Call (.Name "range" p) [a, b] [] pos) (iRng2T t) :=
  ⟨pi_weak (pi_range2 hg hm ha.pa hs hs2) fun sl H Q ⟨⟨Z, σ, S, R, RE, fr, ok, w, po, xo⟩⟩ => ⟨_, σ, S, _, RE, fr, ok, w, fun xs S1 vs H1 k le ok1 rep => by
    obtain ⟨i, j, rfl, h, k⟩ := k
    cases rep with
    | cons r rr =>
      cases r
      cases rr with
      | cons r rr =>
        cases r; cases rr
        exact ⟨i, j, rfl, h, po _ S1 _ H1 k le ok1 src_range⟩, xo⟩⟩
/-! ### for -/
def rLoop (g : TRG) (rb : TRS) (D : EnT) : List T → Fm → Store → Prop
  | [], σ, S => D.nx σ S
  | t :: ts, σ, S => g t σ S (fun σ1 S1 => rb { D with nx := rLoop g rb D ts, ct := rLoop g rb D ts, bk := D.nx } σ1 S1) D.ex
def sFor (ri : TRI) (g : TRG) (rb : TRS) : TRS := fun D σ S => ri σ S (fun ts S1 => rLoop g rb D ts σ S1) D.ex
theorem ss_for {iter tg : Expr} {body : List Stmt} {ri : TRI} {rb : TRS} (hp : PassesOwn (model X.prog X.w) X.A X.env X.xe) (hc : X.calm = true) (hi : IT X E tg iter ri) (hg : GT X E tg g) (hb : BS X E body rb)
    (hs : ∀ x, foldedSetIterable iter X.env x = pure x := by intro _; rfl) : SS X E (.For tg iter body [] pos) (sFor ri g rb) :=
  ⟨ps_weak (ps_for hp hc hi.pi hg.pg hb.ps hs) fun D sl H ⟨⟨Z, σ, S, DT, fr, ok, w, eo, xo⟩⟩ => by
    refine ⟨_, σ, S, _, DT.ex, fr, ok, w, fun ts S1 J H1 k le ok1 src => ?_, xo⟩
    refine ⟨fun i m sl' H' => m = ts.length - i ∧ i ≤ ts.length ∧ ∃ σ' S', FrR X.K Z S' H' sl' σ' ∧ Ok X.K Z S' H' ∧ Le S1 H1 S' H' ∧ rLoop g rb DT (ts.drop i) σ' S', ⟨_, rfl, Nat.zero_le _, σ, S1, fr.le le, ok1, .refl, k⟩, ?_⟩
    rintro i m sl' H' ⟨rfl, hi, σ', S', fr', ok', le', k'⟩
    obtain ⟨go, stop⟩ := src Z S' H' (fun _ z => .inl z) le' ok'
    by_cases hlt : i < ts.length
    · refine .inr ?_
      have hd : ts.drop i = ts[i] :: ts.drop (i + 1) := (List.drop_eq_getElem_cons hlt)
      rw [hd] at k'
      obtain ⟨g1, g2⟩ := go i ts[i] (List.getElem?_eq_getElem hlt)
      refine ⟨g1, fun sl2 H2 => ∃ σ2 S2, FrR X.K Z S2 H2 sl2 σ2 ∧ Ok X.K Z S2 H2 ∧ Le S1 H1 S2 H2 ∧ rLoop g rb DT (ts.drop (i + 1)) σ2 S2, ?_, ?_⟩
      · rintro sl2 H2 ⟨σ2, S2, f2, o2, l2, k2⟩
        exact ⟨_, by omega, rfl, hlt, σ2, S2, f2, o2, l2, k2⟩
      · intro x H2 y
        obtain ⟨l2, o2, rep⟩ := g2 x H2 y
        refine ⟨_, σ', S', ts[i], _, DT.ex, fr'.le l2, o2, rep, k', fun σ3 S3 sl3 H3 k3 l3 o3 f3 => ?_, (xo.le (le.trans le')).le l2⟩
        have lt := (le'.trans l2).trans l3
        refine ⟨_, σ3, S3, _, f3, o3, k3, ⟨fun σ4 S4 sl4 H4 k4 l4 o4 f4 => ⟨σ4, S4, f4, o4, lt.trans l4, k4⟩, (eo.rt.le (le.trans lt)), (eo.nx.le (le.trans lt)), fun σ4 S4 sl4 H4 k4 l4 o4 f4 => ⟨σ4, S4, f4, o4, lt.trans l4, k4⟩⟩, (xo.le (le.trans lt))⟩
    · have e : i = ts.length := by omega
      subst e
      rw [List.drop_length] at k'
      exact .inl ⟨stop _ (Nat.le_refl _), eo.nx σ' S' sl' H' k' (le.trans le') ok' fr'⟩⟩
/-- with an invariant -/
theorem rLoop_inv {rb : TRS} {D : EnT} {ts : List T} {σ : Fm} {S : Store} (P : Nat → Fm → Store → Prop) (h0 : P 0 σ S)
    (hs : ∀ i t σ S, ts[i]? = some t → P i σ S → ∀ N : Fm → Store → Prop, (∀ σ' S', P (i + 1) σ' S' → N σ' S') → g t σ S (fun σ1 S1 => rb { D with nx := N, ct := N, bk := D.nx } σ1 S1) D.ex)
    (hd : ∀ σ S, P ts.length σ S → D.nx σ S) : rLoop g rb D ts σ S := by
  suffices h : ∀ (us : List T) (i : Nat) σ S, ts.drop i = us → i ≤ ts.length → P i σ S → rLoop g rb D us σ S from h ts 0 σ S rfl (Nat.zero_le _) h0
  intro us
  induction us with
  | nil =>
    intro i σ S e hi p
    have : i = ts.length := by
      have := congrArg List.length e
      simp at this
      omega
    subst this
    exact hd σ S p
  | cons u us ih =>
    intro i σ S e hi p
    have hlt : i < ts.length := by
      have := congrArg List.length e
      simp at this
      omega
    rw [List.drop_eq_getElem_cons hlt] at e
    injection e with e1 e2
    exact hs i u σ S (by rw [← e1]; exact List.getElem?_eq_getElem hlt) p _ fun σ' S' p' => ih (i + 1) σ' S' e2 hlt p'
/-! ### while -/
def sWhile (tc : TRB) (rb : TRS) : TRS := fun D σ S => ∃ W : Nat → Fm → Store → Prop, (∃ m, W m σ S) ∧ ∀ m σ S, W m σ S →
  tc σ S (fun c S1 => if c = true then rb { D with nx := fun σ' S' => ∃ m', m' < m ∧ W m' σ' S', ct := fun σ' S' => ∃ m', m' < m ∧ W m' σ' S', bk := D.nx } σ S1 else D.nx σ S1) D.ex
theorem ss_while {body : List Stmt} {ta : TRB} {rb : TRS} (hp : PassesOwn (model X.prog X.w) X.A X.env X.xe) (hc : TT' X E c ta) (hb : BS X E body rb) : SS X E (.While c body [] pos) (sWhile ta rb) :=
  ⟨ps_weak (ps_while hp hc.pt hb.ps) fun D sl H ⟨⟨Z, σ, S, DT, fr, ok, ⟨W, ⟨m0, w0⟩, turn⟩, eo, xo⟩⟩ => by
    refine ⟨fun m sl' H' => ∃ σ' S', FrR X.K Z S' H' sl' σ' ∧ Ok X.K Z S' H' ∧ Le S H S' H' ∧ W m σ' S', ⟨m0, σ, S, fr, ok, .refl, w0⟩, ?_⟩
    rintro m sl' H' ⟨σ', S', fr', ok', le', w'⟩
    refine ⟨_, σ', S', _, DT.ex, fr', ok', turn m σ' S' w', fun c S1 H1 k le1 ok1 => ?_, xo.le le'⟩
    cases c with
    | true =>
      refine ⟨fun sl2 H2 => ∃ σ2 S2, FrR X.K Z S2 H2 sl2 σ2 ∧ Ok X.K Z S2 H2 ∧ Le S H S2 H2 ∧ ∃ m', m' < m ∧ W m' σ2 S2, ?_, ?_⟩
      · rintro sl2 H2 ⟨σ2, S2, f2, o2, l2, m', hm, k2⟩
        exact ⟨m', hm, σ2, S2, f2, o2, l2, k2⟩
      · have lt := le'.trans le1
        exact ⟨_, σ', S1, _, fr'.le le1, ok1, k, ⟨fun σ4 S4 sl4 H4 k4 l4 o4 f4 => ⟨σ4, S4, f4, o4, lt.trans l4, k4⟩, eo.rt.le lt, eo.nx.le lt, fun σ4 S4 sl4 H4 k4 l4 o4 f4 => ⟨σ4, S4, f4, o4, lt.trans l4, k4⟩⟩, xo.le lt⟩
    | false => exact eo.nx σ' S1 sl' H1 k (le'.trans le1) ok1 (fr'.le le1)⟩
end

/-! ### comprehensions -/
def XF : XT := fun _ _ _ => False
def EF : XK := fun _ _ _ => False
theorem XOk.f {K : PySem.W.Frag} {Z : Addr → Prop} {S : Store} {H : Hp} : XOk K Z S H XF EF := fun _ _ _ _ _ _ z => z.elim
structure TTs (X : Cx) (E : XK) (es : List Expr) (r : TRB) : Prop where
  pt : PTs X es (UpB X.K E r)
def bYes : TRB := fun _ S R _ => R true S
def rComp (fr : T → Fm) (tt : TRB) (re : TR) : List T → List T → Store → (List T → Store → Prop) → Prop
  | [], acc, S, R => R acc S
  | t :: ts, acc, S, R => tt (fr t) S (fun b S1 => if b = true then re (fr t) S1 (fun y S2 => acc.length < sizeLine ∧ rComp fr tt re ts (acc ++ [y]) S2 R) XF else rComp fr tt re ts acc S1 R) XF
section
variable {X : Cx} {E : XK} {e a b c : Expr} {es : List Expr} {pos : Pos} {ra rb rc : TR} {g : TRG} {gs : TRGs} {t : TRA}
theorem tts_nil : TTs X E [] bYes := ⟨⟨fun pins s sl H Q I h => pts_nil.run pins s sl H Q I (by
  obtain ⟨Z, σ, S, R, RE, fr, ok, w, po, xo⟩ := h.ex
  exact po true S H w .refl ok)⟩⟩
theorem tts_one {ta : TRB} (h : TT' X E c ta) : TTs X E [c] ta := ⟨pts_one h.pt⟩
def rLc (ri : TRI) (j : Nat) (tt : TRB) (re : TR) : TR := fun σ S R RE => ri σ S (fun ts S1 => rComp (fun t => σ.set j (some t)) tt re ts [] S1 (fun ys S2 => R (.lst ys) S2)) RE
theorem lc_turns {K : PySem.W.Frag} {Z : Addr → Prop} {S1 : Store} {H1 : Hp} {J : It} {ts : List T} {sl : L2.St} {σ : Fm} {g : TG} {vs : List Nat} {fr : T → Fm} {tt : TRB} {re : TR} {Q : VK} {R : List T → Store → Prop}
    (ok1 : Ok K Z S1 H1) (fr1 : FrR K Z S1 H1 sl σ) (src : SrcOk K Z S1 H1 J ts) (k : rComp fr tt re ts [] S1 R)
    (hg : ∀ Z' S H x t (Q' : L2.St → Hp → Prop), FrR K Z' S H sl σ → Rep K Z' S H x t → (∀ sl2, FrR K Z' S H sl2 (fr t) → wipe sl2 vs = wipe sl vs → Q' sl2 H) → g x (wipe sl vs) H Q')
    (po : ∀ ys S' v H', R ys S' → Le S1 H1 S' H' → Ok K Z S' H' → Rep K Z S' H' v (.lst ys) → Q v H') :
    ∀ D, H1 D = none → ∃ W : Nat → Nat → Hp → Prop, (∃ m, W 0 m (upd H1 D (.lst []))) ∧ ∀ i m H, W i m H →
  (J.stop i H ∧ Q (.ref D) H) ∨ (J.go i H ∧ ∃ Nx : Hp → Prop, (∀ H', Nx H' → ∃ m', m' < m ∧ W (i + 1) m' H') ∧ ∀ x H', J.yld i H x H' → g x (wipe sl vs) H' fun σ2 H2 => wipe σ2 vs = wipe sl vs ∧ UpB K EF tt σ2 H2 fun b H3 =>
    if b = true then UpE K EF re σ2 H3 fun y H4 => ∃ acc, H4 D = some (.lst acc) ∧ acc.length < sizeLine ∧ Nx (upd H4 D (.lst (acc ++ [y]))) else Nx H3) := by
  intro D hD
  have hz := hid_a (Z := Z) hD
  -- what holds at each turn
  let In : Nat → Hp → Prop := fun i H' => ∃ S' acc accV, Ok K (hideA Z D) S' H' ∧ FrR K (hideA Z D) S' H' sl σ ∧ Le S1 H1 S' H' ∧ H' D = some (.lst accV) ∧ Reps K (hideA Z D) S' H' accV acc ∧ rComp fr tt re (ts.drop i) acc S' R
  refine ⟨fun i m H' => m = ts.length - i ∧ i ≤ ts.length ∧ In i H', ⟨_, rfl, Nat.zero_le _, S1, [], [], ok1.hide hD, (fr1.hide hz).le (le_new hD), le_new hD, upd_same, .nil, k⟩, ?_⟩
  rintro i m H' ⟨rfl, hi, S', acc, accV, ok', fr', le', hd, rs, k'⟩
  obtain ⟨go, stop⟩ := src _ S' H' hz le' ok'
  by_cases hlt : i < ts.length
  · refine .inr ?_
    obtain ⟨g1, g2⟩ := go i ts[i] (List.getElem?_eq_getElem hlt)
    rw [List.drop_eq_getElem_cons hlt] at k'
    refine ⟨g1, In (i + 1), fun H2 h2 => ⟨_, by omega, rfl, hlt, h2⟩, fun x H2 y => ?_⟩
    obtain ⟨l2, o2, rep⟩ := g2 x H2 y
    refine hg _ S' H2 x ts[i] _ (fr'.le l2) rep fun sl2 f2 we => ⟨we, ?_⟩
    have hd2 := (l2 D _ hd (ok'.hid D (.inr rfl)).1).1
    refine ⟨_, fr ts[i], S', _, XF, f2, o2, k', fun b S3 H3 k3 l3 o3 => ?_, .f⟩
    have hd3 := (l3 D _ hd2 (o2.hid D (.inr rfl)).1).1
    cases b with
    | true =>
      refine ⟨_, fr ts[i], S3, _, XF, f2.le l3, o3, k3, fun y S4 vy H4 k4 l4 o4 ry => ?_, .f⟩
      obtain ⟨z, k4⟩ := k4
      have hd4 := (l4 D _ hd3 (o3.hid D (.inr rfl)).1).1
      have ll := ((l2.trans l3).trans l4)
      have lz : LeZ (hideA Z D) S4 H4 S4 (upd H4 D (.lst (accV ++ [vy]))) := lz_hid
      refine ⟨accV, hd4, by rw [rs.length]; exact z, S4, _, _, o4.hidSet, ((fr'.le ll).lz lz), fun a o h n => ?_, upd_same, ((rs.le ll).append (.cons ry .nil)).lz lz, k4⟩
      have := (le'.trans ll) a o h n
      rw [upd_ne (ne_of_none h hD)]
      exact this
    | false => exact ⟨S3, acc, accV, o3, fr'.le (l2.trans l3), (le'.trans l2).trans l3, hd3, rs.le (l2.trans l3), k3⟩
  · have e : i = ts.length := by omega
    subst e
    rw [List.drop_length] at k'
    refine .inl ⟨stop _ (Nat.le_refl _), po acc S' _ H' k' le' ok'.show ?_⟩
    exact .lst ⟨hd, (ok'.hid D (.inr rfl)).1, fun z => by
      obtain ⟨_, o, e⟩ := ok1.hid D z
      rw [hD] at e; cases e⟩ rs.show
theorem et_lc {elt tg iter : Expr} {ifs : List Expr} {scope : Scope} {x : Str} {j : Nat} {ri : TRI} {tt : TRB} {re : TR} (hc : X.calm = true) (hN : X.N.Nodup) (hi : IT X E tg iter ri) (ok : BlkOk X.N X.env.scope scope [(x, j)])
    (hg : ∀ (s : Shared) (H : Hp) (C : Addr) (cl : List (Str × Addr)) (fp : List Addr), PG (X.blk s H scope (compEnvC scope cl C X.env) fp) tg (gName j)) (ht : ∀ (s : Shared) (H : Hp) (C : Addr) (cl : List (Str × Addr)) (fp : List Addr), TTs (X.blk s H scope (compEnvC scope cl C X.env) fp) EF ifs tt)
    (he : ∀ (s : Shared) (H : Hp) (C : Addr) (cl : List (Str × Addr)) (fp : List Addr), ET (X.blk s H scope (compEnvC scope cl C X.env) fp) EF elt re) (hs : ∀ x, foldedSetIterable iter X.env x = pure x := by intro _; rfl) :
    ET X E (.ListComp elt [⟨tg, iter, ifs, 0⟩] scope pos) (rLc ri j tt re) :=
  ⟨pe_weak (pe_lc hc hN hi.pi ok hg (fun s H C cl fp => (ht s H C cl fp).pt) (fun s H C cl fp => (he s H C cl fp).pe) hs) fun sl H Q h => by
    obtain ⟨Z, σ, S, R, RE, fr, ok, w, po, xo⟩ := h.ex
    refine ⟨Z, σ, S, _, RE, fr, ok, w, fun ts S1 J H1 k le ok1 src => ?_, xo⟩
    refine lc_turns (fr := fun t => σ.set j (some t)) ok1 (fr.le le) src k (fun Z' S' H' x t Q' f r q => q _ ?_ ?_) fun ys S' v H' r l o rep => po _ S' v H' r (le.trans l) o rep
    · show FrR X.K Z' S' H' (((wipe sl []).set j none).set j (some x)) (σ.set j (some t))
      rw [List.set_set]
      exact f.set j r
    · show (((wipe sl []).set j none).set j (some x)).set j none = (wipe sl []).set j none
      rw [List.set_set, List.set_set]⟩
/-- y = [..] -/
theorem ss_setLc {i : Nat} {y : Str} {py spos : Pos} {elt tg iter : Expr} {ifs : List Expr} {scope : Scope} {x : Str} {j : Nat} {ri : TRI} {tt : TRB} {re : TR} (hc : X.calm = true) (hN : X.N.Nodup) (hy : X.N[i]? = some y) (hyl : X.env.scope.names.lookup y = some .local)
    (hsw : swapsWith (.ListComp elt [⟨tg, iter, ifs, 0⟩] scope pos) (some (.Name y py)) spos.line X.env = pure true) (hi : IT X E tg iter ri) (ok : BlkOk X.N X.env.scope scope [(x, j)])
    (hg : ∀ (s : Shared) (H : Hp) (C : Addr) (cl : List (Str × Addr)) (fp : List Addr), PG (X.blk s H scope (compEnvC scope cl C X.env) fp) tg (gName j)) (ht : ∀ (s : Shared) (H : Hp) (C : Addr) (cl : List (Str × Addr)) (fp : List Addr), TTs (X.blk s H scope (compEnvC scope cl C X.env) fp) EF ifs tt)
    (he : ∀ (s : Shared) (H : Hp) (C : Addr) (cl : List (Str × Addr)) (fp : List Addr), ET (X.blk s H scope (compEnvC scope cl C X.env) fp) EF elt re) (hs : ∀ x, foldedSetIterable iter X.env x = pure x := by intro _; rfl) :
    SS X E (.Assign [.Name y py] (.ListComp elt [⟨tg, iter, ifs, 0⟩] scope pos) spos) (sAsg (rLc ri j tt re) (gNameT i)) :=
  ⟨ps_weak (ps_setLc hc hN hy hyl hsw hi.pi ok hg (fun s H C cl fp => (ht s H C cl fp).pt) (fun s H C cl fp => (he s H C cl fp).pe) hs) fun D sl H h => by
    obtain ⟨Z, σ, S, DT, fr, ok, w, eo, xo⟩ := h.ex
    refine ⟨Z, σ, S, _, DT.ex, fr, ok, w, fun ts S1 J H1 k le ok1 src => ?_, xo⟩
    refine lc_turns (fr := fun t => σ.set j (some t)) ok1 (fr.le le) src k (fun Z' S' H' x t Q' f r q => q _ ?_ ?_) fun ys S' v H' r l o rep => eo.nx _ S' _ H' r (le.trans l) o ((fr.le (le.trans l)).set i rep)
    · show FrR X.K Z' S' H' (((wipe sl []).set j none).set j (some x)) (σ.set j (some t))
      rw [List.set_set]
      exact f.set j r
    · show (((wipe sl []).set j none).set j (some x)).set j none = (wipe sl []).set j none
      rw [List.set_set, List.set_set]⟩
/-- by an invariant: all items kept -/
theorem rComp_all {fr : T → Fm} {re : TR} {ts : List T} {S : Store} {R : List T → Store → Prop} (P : Nat → Store → Prop) (F : Nat → T → T → Prop) (h0 : P 0 S) (hl : ts.length ≤ sizeLine)
    (hs : ∀ i t S, ts[i]? = some t → P i S → ∀ N : T → Store → Prop, (∀ y S', F i t y → P (i + 1) S' → N y S') → re (fr t) S N XF)
    (hd : ∀ ys S, ys.length = ts.length → (∀ (i : Nat) t y, ts[i]? = some t → ys[i]? = some y → F i t y) → P ts.length S → R ys S) : rComp fr bYes re ts [] S R := by
  suffices h : ∀ (us : List T) (i : Nat) acc S, ts.drop i = us → i ≤ ts.length → acc.length = i → (∀ (j : Nat) t y, ts[j]? = some t → acc[j]? = some y → F j t y) → P i S → rComp fr bYes re us acc S R from
    h ts 0 [] S rfl (Nat.zero_le _) rfl (fun j t y _ e => by simp at e) h0
  intro us
  induction us with
  | nil =>
    intro i acc S e hi la fa p
    have : i = ts.length := by
      have := congrArg List.length e
      simp at this
      omega
    subst this
    exact hd acc S la fa p
  | cons u us ih =>
    intro i acc S e hi la fa p
    have hlt : i < ts.length := by
      have := congrArg List.length e
      simp at this
      omega
    rw [List.drop_eq_getElem_cons hlt] at e
    injection e with e1 e2
    have hu : ts[i]? = some u := by rw [← e1]; exact List.getElem?_eq_getElem hlt
    refine hs i u S hu p _ fun y S' f p' => ⟨by omega, ih (i + 1) (acc ++ [y]) S' e2 hlt (by simp [la]) (fun j t z ht hz => ?_) p'⟩
    by_cases hj : j < acc.length
    · rw [List.getElem?_append_left hj] at hz
      exact fa j t z ht hz
    · rw [List.getElem?_append_right (by omega)] at hz
      by_cases hj2 : j = acc.length
      · subst hj2
        simp at hz
        subst hz
        rw [la] at ht ⊢
        rw [hu] at ht
        cases ht
        exact f
      · rw [List.getElem?_eq_none (by simp; omega)] at hz
        cases hz
end
/-! ### defs -/
/-- a def's promise: arguments, what changes, what is wanted of the answer, of an error -/
abbrev SpT := List T → Store → (T → Store → Prop) → XT → Prop
structure UpF (K : PySem.W.Frag) (sp : SpT) (vs : List V) (H : Hp) (Q : VK) (E : XK) : Prop where
  ex : ∃ Z ts S R RE, Reps K Z S H vs ts ∧ Ok K Z S H ∧ sp ts S R RE ∧ PO K Z S H R Q ∧ XOk K Z S H RE E
theorem passN {X : Cx} : Passes (L2N.CX X.prog X.w) X EF := fun _ _ _ _ _ _ _ h => by
  obtain ⟨_, _, _, _, _, _, _, _, _, _, _, _, z⟩ := h
  exact z.elim
theorem passL2N {X : Cx} {E : XK} (tk : L2N.Takes X (fun cls d _ H => E cls d H)) : Passes (L2N.CX X.prog X.w) X E := L2N.passes_call tk fun _ _ _ _ h => h
structure FnT (P : Program) (w : World) (K : PySem.W.Frag) (mg : Str → Option Value) (base : Heap) (k : Nat) (f : Addr) (fd : FuncData) (ps : List Str) (sp : SpT) : Prop where
  fn : FnG P w K mg base (L2N.CX P w) k f fd ps (UpF K sp)
section
variable {P : Program} {w : World} {K : PySem.W.Frag} {mg : Str → Option Value} {base : Heap} {k : Nat} {f : Addr} {fd : FuncData} {ps : List Str} {sp : SpT}
theorem FnT.up {j : Nat} (F : FnT P w K mg base j f fd ps sp) (h : j ≤ k) : FnT P w K mg base k f fd ps sp := ⟨F.fn.up h⟩
theorem FnT.imp {sp' : SpT} (F : FnT P w K mg base k f fd ps sp) (h : ∀ ts S R RE, sp' ts S R RE → sp ts S R RE) : FnT P w K mg base k f fd ps sp' :=
  ⟨F.fn.imp fun vs H Q E q => let ⟨Z, ts, S, R, RE, rs, ok, s, po, xo⟩ := q.ex; ⟨Z, ts, S, R, RE, rs, ok, h _ _ _ _ s, po, xo⟩⟩
/-- the context of a def's body -/
abbrev cxT (P : Program) (w : World) (K : PySem.W.Frag) (mg : Str → Option Value) (base : Heap) (N : List Str) (qual : Str) (sc : Scope) (f : Addr) (cdv : Value) (A : Around) (out : List Env) (s : Shared) (H : Hp) (E : XK) : Cx := cxOf (L2N.CX P w) P w K mg base N qual sc f cdv A out s H E
theorem up_body {N : List Str} {X : Cx} {E : XK} {body : List Stmt} {r : TRS} {vs : List V} {H : Hp} {Q : VK} (bs : BS X E body r) (hsp : ∀ ts S R RE, sp ts S R RE → r { nx := fun _ S' => R .non S', rt := R, ex := RE } (startT N ts) S) (q : UpF X.K sp vs H Q E) :
    ∃ t, PSs X body t ∧ t { nx := fun _ H' => Q .non H', rt := Q } (start N vs) H := by
  obtain ⟨Z, ts, S, R, RE, rs, ok, s, po, xo⟩ := q.ex
  refine ⟨_, bs.ps, Z, startT N ts, S, _, FrR.start rs, ok, hsp ts S R RE s, ⟨fun σ' S' sl' H' r' le' ok' _ => po _ S' _ H' r' le' ok' .non, po, fun _ _ _ _ z => z.elim, fun _ _ _ _ z => z.elim⟩, xo⟩
theorem okT {x qual : Str} {st : Stmt} {N : List Str} {r : TRS} (F : Fun K x qual st f fd) (S : FnScope N ps (defScope st)) (len : ∀ ts S R RE, sp ts S R RE → ts.length = ps.length)
    (bs : ∀ (cdv : Value) (A : Around) (out : List Env) (s : Shared) (H : Hp) (E : XK), A.guards = some [] → Room k (A.deeper (envOfC qual (defScope st) s.heap.objs.size f cdv)) → BS (cxT P w K mg base N qual (defScope st) f cdv A out s H E) E (defBody st) r)
    (hsp : ∀ ts S R RE, sp ts S R RE → r { nx := fun _ S' => R .non S', rt := R, ex := RE } (startT N ts) S) : FnT P w K mg base (k + 1) f fd ps sp := by
  obtain ⟨_, _, _, _, _, _, cdv, _, _, e, lk, code⟩ := F.ex
  subst e
  refine ⟨okG0 lk code S (fun vs H Q E q => ?_) fun A out s H vs Q E g rm q => up_body (bs cdv A out s H E g rm) hsp q⟩
  obtain ⟨Z, ts, S, R, RE, rs, ok, s, po, xo⟩ := q.ex
  exact rs.length.trans (len _ _ _ _ s)
theorem okTD {x qual : Str} {st : Stmt} {N : List Str} {r : TRS} {dvs : List V} (F : FunD K x qual (defArgs st) (defBody st) (defScope st) dvs [] f fd) (S : FnScope N ps (defScope st)) (len : ∀ ts S R RE, sp ts S R RE → ts.length = ps.length)
    (bs : ∀ (cdv : Value) (A : Around) (out : List Env) (s : Shared) (H : Hp) (E : XK), A.guards = some [] → Room k (A.deeper (envOfC qual (defScope st) s.heap.objs.size f cdv)) → BS (cxT P w K mg base N qual (defScope st) f cdv A out s H E) E (defBody st) r)
    (hsp : ∀ ts S R RE, sp ts S R RE → r { nx := fun _ S' => R .non S', rt := R, ex := RE } (startT N ts) S) : FnT P w K mg base (k + 1) f fd ps sp := by
  obtain ⟨_, _, _, _, _, _, _, cdv, _, _, e, lk, code, _, _⟩ := F.ex
  subst e
  refine ⟨okG0 lk code S (fun vs H Q E q => ?_) fun A out s H vs Q E g rm q => up_body (bs cdv A out s H E g rm) hsp q⟩
  obtain ⟨Z, ts, S, R, RE, rs, ok, s, po, xo⟩ := q.ex
  exact rs.length.trans (len _ _ _ _ s)
end
section
variable {X : Cx} {E : XK} {k n : Nat} {f : Addr} {fd : FuncData} {ps ks : List Str} {sp : SpT} {dvs : List V} {dts : List T} {ds : List Value} {x : Str} {p pos : Pos} {e : Expr} {es : List Expr} {kws : List Keyword} {t : TRA}
def rCall (sp : SpT) (dts : List T) (t : TRA) : TR := fun σ S R RE => t σ S (fun xs S1 => sp (xs ++ dts) S1 R RE) RE
/-- values that are the same whatever the heap -/
def DefT (K : PySem.W.Frag) (dvs : List V) (dts : List T) : Prop := ∀ Z S H, Reps K Z S H dvs dts
theorem DefT.nil {K : PySem.W.Frag} : DefT K [] [] := fun _ _ _ => .nil
theorem DefT.int {K : PySem.W.Frag} {i : Int} {vs ts} (r : DefT K vs ts) : DefT K (.int i :: vs) (.int i :: ts) := fun Z S H => .cons (.int i) (r Z S H)
theorem DefT.non {K : PySem.W.Frag} {vs ts} (r : DefT K vs ts) : DefT K (.non :: vs) (.non :: ts) := fun Z S H => .cons .non (r Z S H)
theorem DefT.bl {K : PySem.W.Frag} {b : Bool} {vs ts} (r : DefT K vs ts) : DefT K (.bl b :: vs) (.bl b :: ts) := fun Z S H => .cons (.bl b) (r Z S H)
theorem DefT.str {K : PySem.W.Frag} {z : Str} {vs ts} (r : DefT K vs ts) : DefT K (.str z :: vs) (.str z :: ts) := fun Z S H => .cons (.str z) (r Z S H)
theorem et_call (F : FnT X.prog X.w X.K X.mg X.base k f fd ps sp) (gds : X.A.guards = some []) (hr : Room k X.A) (hg : Gl X x) (hm : X.mg x = some (.ref f)) (hk : PySem.W.keepIn X.K (.ref f) = true) (hb : Binds X.K fd ps ds) (hd : Vals dvs ds) (hdt : DefT X.K dvs dts) (hx : Passes (L2N.CX X.prog X.w) X E)
    (ha : AT X E (e :: es) t) (hdb : (x == ("__debug__" : Str)) = false := by decide) (he : starEach (e :: es) X.env = (false, eval e X.env) :: starEach es X.env := by rfl) (hpl : (backTo pos (starEach es X.env)).any (·.1) = false := by rfl) :
    ET X E (.Call (.Name x p) (e :: es) [] pos) (rCall sp dts t) :=
  ⟨pe_weak (callG F.fn gds hr hg hm hk hb hd hx ha.pa hdb he hpl) fun sl H Q h => UpA.args (k := fun xs S1 R RE => sp (xs ++ dts) S1 R RE) h fun Z xs S1 vs H1 R RE ok rs kk po xo =>
    ⟨Z, _, S1, R, RE, rs.append (hdt Z S1 H1), ok, kk, po, xo⟩⟩
theorem et_call0 (F : FnT X.prog X.w X.K X.mg X.base k f fd ps sp) (gds : X.A.guards = some []) (hr : Room k X.A) (hg : Gl X x) (hm : X.mg x = some (.ref f)) (hk : PySem.W.keepIn X.K (.ref f) = true) (hb : Binds X.K fd ps ds) (hd : Vals dvs ds) (hdt : DefT X.K dvs dts) (hx : Passes (L2N.CX X.prog X.w) X E)
    (hdb : (x == ("__debug__" : Str)) = false := by decide) : ET X E (.Call (.Name x p) [] [] pos) (rCall sp dts aNil) :=
  ⟨pe_weak (callG0 F.fn gds hr hg hm hk hb hd hx hdb) fun sl H Q h => by
    obtain ⟨Z, σ, S, R, RE, fr, ok, w, po, xo⟩ := h.ex
    exact ⟨Z, _, S, R, RE, hdt Z S H, ok, w, po, xo⟩⟩
/-! keywords -/
structure KT (X : Cx) (E : XK) (kws : List Keyword) (r : TRA) : Prop where
  pk : PK X kws (UpA X.K E r)
/-- an order of the arguments, the same for trees and values -/
def OrdT (K : PySem.W.Frag) (gV : List V → List V → List V) (gT : List T → List T → List T) : Prop := ∀ Z S H vs ts us ws, Reps K Z S H vs ts → Reps K Z S H us ws → Reps K Z S H (gV vs us) (gT ts ws)
def rCallN (n m : Nat) (sp : SpT) (gT : List T → List T → List T) (t tk : TRA) : TR := fun σ S R RE => t σ S (fun xs S1 => tk σ S1 (fun zs S2 => xs.length = n ∧ zs.length = m ∧ sp (gT xs zs) S2 R RE) RE) RE
variable {g : List Value → List Value → List Value} {gV : List V → List V → List V} {gT : List T → List T → List T} {tk : TRA}
theorem et_callN (F : FnT X.prog X.w X.K X.mg X.base k f fd ps sp) (gds : X.A.guards = some []) (hr : Room k X.A) (hg : Gl X x) (hm : X.mg x = some (.ref f)) (hk : PySem.W.keepIn X.K (.ref f) = true) (hb : KBn X.K fd ps n ks g gV) (ho : OrdT X.K gV gT) (hx : Passes (L2N.CX X.prog X.w) X E)
    (ha : AT X E (e :: es) t) (hkw : KT X E kws tk) (hall : (backToKw pos (keywordEach kws X.env)).all (·.1.isSome) = true := by rfl) (hks : (backToKw pos (keywordEach kws X.env)).filterMap (·.1) = ks := by rfl)
    (hdb : (x == ("__debug__" : Str)) = false := by decide) (he : starEach (e :: es) X.env = (false, eval e X.env) :: starEach es X.env := by rfl)
    (hpl : ((backTo pos (starEach (e :: es) X.env)).any (·.1) || (backToKw pos (keywordEach kws X.env)).any (·.1.isNone)) = false := by rfl) :
    ET X E (.Call (.Name x p) (e :: es) kws pos) (rCallN n ks.length sp gT t tk) :=
  ⟨pe_weak (callGN F.fn gds hr hg hm hk hb hx ha.pa hkw.pk hall hks hdb he hpl) fun sl H Q h => by
    obtain ⟨Z, σ, S, R, RE, fr, ok, w, po, xo⟩ := h.ex
    refine ⟨Z, σ, S, _, RE, fr, ok, w, fun xs S1 vs H1 k1 le1 ok1 r1 => ?_, xo⟩
    refine ⟨Z, σ, S1, _, RE, fr.le le1, ok1, k1, fun zs S2 us H2 k2 le2 ok2 r2 => ?_, xo.le le1⟩
    obtain ⟨l1, l2, s⟩ := k2
    exact ⟨r1.length.trans l1, r2.length.trans l2, Z, _, S2, R, RE, ho _ _ _ _ _ _ _ (r1.le le2) r2, ok2, s, (po.le le1).le le2, (xo.le le1).le le2⟩⟩
theorem et_callK (F : FnT X.prog X.w X.K X.mg X.base k f fd ps sp) (gds : X.A.guards = some []) (hr : Room k X.A) (hg : Gl X x) (hm : X.mg x = some (.ref f)) (hk : PySem.W.keepIn X.K (.ref f) = true) (hb : KBn X.K fd ps 0 ks g gV) (ho : OrdT X.K gV gT) (hx : Passes (L2N.CX X.prog X.w) X E)
    (hkw : KT X E kws tk) (hall : (backToKw pos (keywordEach kws X.env)).all (·.1.isSome) = true := by rfl) (hks : (backToKw pos (keywordEach kws X.env)).filterMap (·.1) = ks := by rfl)
    (hdb : (x == ("__debug__" : Str)) = false := by decide)
    (hpl : ((backTo pos (starEach [] X.env)).any (·.1) || (backToKw pos (keywordEach kws X.env)).any (·.1.isNone)) = false := by rfl) :
    ET X E (.Call (.Name x p) [] kws pos) (rCallN 0 ks.length sp gT aNil tk) :=
  ⟨pe_weak (callGK F.fn gds hr hg hm hk hb hx hkw.pk hall hks hdb hpl) fun sl H Q h => by
    obtain ⟨Z, σ, S, R, RE, fr, ok, w, po, xo⟩ := h.ex
    refine ⟨Z, σ, S, _, RE, fr, ok, w, fun zs S2 us H2 k2 le2 ok2 r2 => ?_, xo⟩
    obtain ⟨l1, l2, s⟩ := k2
    exact ⟨rfl, r2.length.trans l2, Z, _, S2, R, RE, ho _ _ _ _ _ _ _ .nil r2, ok2, s, po.le le2, xo.le le2⟩⟩
end

/-! ### data -/
mutual
def T.dat : T → Option PyData
  | .non => some .none
  | .bl b => some (.bool b)
  | .int i => some (.int i)
  | .str z => some (.str z)
  | .lst l => (T.datL l).map .list
  | .tup l => (T.datL l).map .tuple
  | _ => none
def T.datL : List T → Option (List PyData)
  | [] => some []
  | t :: ts => match t.dat, T.datL ts with
    | some d, some ds => some (d :: ds)
    | _, _ => none
end
section
variable {K : PySem.W.Frag} {Z : Addr → Prop} {S : Store} {H : Hp}
mutual
theorem Rep.dp : ∀ {v : V} {t : T}, Rep K Z S H v t → ∀ {d}, t.dat = some d → Dp K H v d
  | _, _, .non, d, e => by rw [T.dat] at e; cases e; exact .non
  | _, _, .bl b, d, e => by rw [T.dat] at e; cases e; exact .bl b
  | _, _, .int i, d, e => by rw [T.dat] at e; cases e; exact .int i
  | _, _, .str z, d, e => by rw [T.dat] at e; cases e; exact .str z
  | _, _, .ty n, d, e => by rw [T.dat] at e <;> first | cases e | (intros; rename_i h; cases h)
  | _, _, .st a, d, e => by rw [T.dat] at e <;> first | cases e | (intros; rename_i h; cases h)
  | _, _, .cell a, d, e => by rw [T.dat] at e <;> first | cases e | (intros; rename_i h; cases h)
  | _, _, .scr h r, d, e => by rw [T.dat] at e <;> first | cases e | (intros; rename_i h; cases h)
  | _, _, .ins h n r, d, e => by rw [T.dat] at e <;> first | cases e | (intros; rename_i h; cases h)
  | _, _, .dct h n, d, e => by rw [T.dat] at e <;> first | cases e | (intros; rename_i h; cases h)
  | _, _, .exc h n hd nd r, d, e => by rw [T.dat] at e <;> first | cases e | (intros; rename_i h; cases h)
  | _, _, .tup h r, d, e => by
    rw [T.dat] at e
    obtain ⟨ds, e1, rfl⟩ := Option.map_eq_some_iff.mp e
    exact .tup h.sq (Reps.dp r e1)
  | _, _, .lst h r, d, e => by
    rw [T.dat] at e
    obtain ⟨ds, e1, rfl⟩ := Option.map_eq_some_iff.mp e
    exact .lst h.sq (Reps.dp r e1)
theorem Reps.dp : ∀ {vs : List V} {ts : List T}, Reps K Z S H vs ts → ∀ {ds}, T.datL ts = some ds → DpAll K H vs ds
  | _, _, .nil, ds, e => by rw [T.datL] at e; cases e; exact .nil
  | _, _, .cons h r, ds, e => by
    rw [T.datL] at e
    split at e
    · rename_i d1 ds1 e1 e2
      cases e
      exact .cons (Rep.dp h e1) (Reps.dp r e2)
    · cases e
end
end
/-! ### operators of trees -/
section
variable {X : Cx} {E : XK}
theorem OpR.or {f : Value → Value → Sem Value} {r r' : R2} (h : OpR X f r) (h' : OpR X f r') : OpR X f (fun x y H Q => r x y H Q ∨ r' x y H Q) := fun pins s σ H x y v u Q I rx ry w =>
  w.elim (h pins s σ H x y v u Q I rx ry) (h' pins s σ H x y v u Q I rx ry)
abbrev KB := T → T → Store → (T → Store → Prop) → XT → Prop
def kAdd : KB := fun x y S R _ => match x, y with
  | .int i, .int j => R (.int (i + j)) S
  | .str a, .str b => a.length + b.length ≤ sizeLine ∧ R (.str (a ++ b)) S
  | .lst a, .lst b => a.length + b.length ≤ sizeLine ∧ R (.lst (a ++ b)) S
  | .tup a, .tup b => a ≠ [] ∧ a.length + b.length ≤ sizeLine ∧ R (.tup (a ++ b)) S
  | _, _ => False
def rStrAdd : R2 := fun x y H Q => ∃ i j, x = .str i ∧ y = .str j ∧ i.length + j.length ≤ sizeLine ∧ Q (.str (i ++ j)) H
theorem cv_add : Conv X.K E kAdd (fun x y H Q => (rI0 fun i j => .int (i + j)) x y H Q ∨ (rStrAdd x y H Q ∨ (rCat x y H Q ∨ rCatT X.K x y H Q))) := by
  intro Z x y S v u H R RE Q ok rx ry kk po xo
  unfold kAdd at kk
  split at kk
  · cases rx; cases ry
    exact .inl ⟨_, _, rfl, rfl, po _ _ _ _ kk .refl ok (.int _)⟩
  · cases rx; cases ry
    exact .inr (.inl ⟨_, _, rfl, rfl, kk.1, po _ _ _ _ kk.2 .refl ok (.str _)⟩)
  · cases rx with
    | lst h1 r1 =>
      cases ry with
      | lst h2 r2 => exact .inr (.inr (.inl ⟨_, _, _, _, rfl, rfl, h1.1, h2.1, by rw [r1.length, r2.length]; exact kk.1, fun p hp => po _ _ _ _ kk.2 (le_new hp) (ok.new hp) (.lstN ok hp (r1.append r2))⟩))
  · cases rx with
    | tup h1 r1 =>
      cases ry with
      | @tup p2 vs2 ts2 h2 r2 =>
        refine .inr (.inr (.inr ⟨_, _, _, _, rfl, rfl, h1.sq, h2.sq, fun e => ?_, by rw [r1.length, r2.length]; exact kk.2.1, fun e => ?_, fun _ p hp => po _ _ _ _ kk.2.2 (le_new hp) (ok.new hp) (.tupN ok hp (r1.append r2))⟩))
        · subst e
          cases r1
          exact kk.1 rfl
        · subst e
          cases r2
          have q := kk.2.2
          rw [List.append_nil] at q
          exact po _ _ _ _ q .refl ok (.tup h1 r1)
  · exact kk.elim
theorem op_addG : OpR X (binaryOp .Add) (fun x y H Q => (rI0 fun i j => .int (i + j)) x y H Q ∨ (rStrAdd x y H Q ∨ (rCat x y H Q ∨ rCatT X.K x y H Q))) := op_add.or (OpR.or op_add_str (op_cat.or op_catT))
def kI2 (C : Int → Int → Prop) (g : Int → Int → T) : KB := fun x y S R _ => match x, y with
  | .int i, .int j => C i j ∧ R (g i j) S
  | _, _ => False
theorem cv_I2 {C : Int → Int → Prop} {g : Int → Int → Int} : Conv X.K E (kI2 C fun i j => .int (g i j)) (rI C fun i j => .int (g i j)) := by
  intro Z x y S v u H R RE Q ok rx ry kk po xo
  unfold kI2 at kk
  split at kk
  · cases rx; cases ry
    exact ⟨_, _, rfl, rfl, kk.1, po _ _ _ _ kk.2 .refl ok (.int _)⟩
  · exact kk.elim
def kI2n (g : Int → Int → T) : KB := fun x y S R _ => match x, y with
  | .int i, .int j => R (g i j) S
  | _, _ => False
theorem cv_I2n {g : Int → Int → Int} : Conv X.K E (kI2n fun i j => .int (g i j)) (rI0 fun i j => .int (g i j)) := by
  intro Z x y S v u H R RE Q ok rx ry kk po xo
  unfold kI2n at kk
  split at kk
  · cases rx; cases ry
    exact ⟨_, _, rfl, rfl, po _ _ _ _ kk .refl ok (.int _)⟩
  · exact kk.elim
theorem cv_B2n {g : Int → Int → Bool} : Conv X.K E (kI2n fun i j => .bl (g i j)) (rI0 fun i j => .bl (g i j)) := by
  intro Z x y S v u H R RE Q ok rx ry kk po xo
  unfold kI2n at kk
  split at kk
  · cases rx; cases ry
    exact ⟨_, _, rfl, rfl, po _ _ _ _ kk .refl ok (.bl _)⟩
  · exact kk.elim
def kMul : KB := fun x y S R _ => match x, y with
  | .int i, .int j => IntMulOk i j ∧ R (.int (i * j)) S
  | .lst a, .int k => (-(2 ^ 63) ≤ k ∧ k < 2 ^ 63) ∧ a.length * k.toNat ≤ sizeLine ∧ R (.lst (List.replicate k.toNat a).flatten) S
  | .tup a, .int k => a ≠ [] ∧ 2 ≤ k ∧ k ≤ 1000 ∧ a.length ≤ 1000 ∧ R (.tup (List.replicate k.toNat a).flatten) S
  | _, _ => False
theorem Reps.rep {K : PySem.W.Frag} {Z : Addr → Prop} {S : Store} {H : Hp} {vs : List V} {ts : List T} (r : Reps K Z S H vs ts) : ∀ n : Nat, Reps K Z S H (List.replicate n vs).flatten (List.replicate n ts).flatten
  | 0 => .nil
  | n + 1 => by
    rw [List.replicate_succ, List.replicate_succ, List.flatten_cons, List.flatten_cons]
    exact r.append (Reps.rep r n)
theorem cv_mul : Conv X.K E kMul (fun x y H Q => (rI IntMulOk fun i j => .int (i * j)) x y H Q ∨ (rRep x y H Q ∨ rRepT X.K x y H Q)) := by
  intro Z x y S v u H R RE Q ok rx ry kk po xo
  unfold kMul at kk
  split at kk
  · cases rx; cases ry
    exact .inl ⟨_, _, rfl, rfl, kk.1, po _ _ _ _ kk.2 .refl ok (.int _)⟩
  · cases ry
    cases rx with
    | lst h1 r1 => exact .inr (.inl ⟨_, _, _, rfl, rfl, h1.1, kk.1.1, kk.1.2, by rw [r1.length]; exact kk.2.1, fun p hp => po _ _ _ _ kk.2.2 (le_new hp) (ok.new hp) (.lstN ok hp (r1.rep _))⟩)
  · cases ry
    cases rx with
    | tup h1 r1 => exact .inr (.inr ⟨_, _, _, rfl, rfl, h1.sq, fun e => by subst e; cases r1; exact kk.1 rfl, kk.2.1, kk.2.2.1, by rw [r1.length]; exact kk.2.2.2.1, fun p hp => po _ _ _ _ kk.2.2.2.2 (le_new hp) (ok.new hp) (.tupN ok hp (r1.rep _))⟩)
  · exact kk.elim
theorem op_mulP : OpR X (binaryOp .Mult) (rI IntMulOk fun i j => .int (i * j)) := opI fun _ _ _ _ _ _ _ hc q => mul_int q hc
theorem op_mulG : OpR X (binaryOp .Mult) (fun x y H Q => (rI IntMulOk fun i j => .int (i * j)) x y H Q ∨ (rRep x y H Q ∨ rRepT X.K x y H Q)) := op_mulP.or (op_rep.or op_repT)
/-! comparisons -/
def scalT : T → T → Bool
  | .non, .non => true | .non, .int _ => true | .int _, .non => true | .non, .bl _ => true | .bl _, .non => true | .non, .str _ => true | .str _, .non => true
  | .int _, .int _ => true | .bl _, .bl _ => true | .str _, .str _ => true
  | .int _, .str _ => true | .str _, .int _ => true | .bl _, .str _ => true | .str _, .bl _ => true
  | _, _ => false
def eqS : T → T → Bool
  | .non, .non => true
  | .int i, .int j => decide (i = j)
  | .bl i, .bl j => decide (i = j)
  | .str i, .str j => decide (i = j)
  | _, _ => false
def kEqG (ng : Bool) : KB := fun x y S R _ => (scalT x y = true ∧ R (.bl (ng ^^ eqS x y)) S) ∨ ∃ d e, x.dat = some d ∧ y.dat = some e ∧ SeqAt.shaped d = true ∧ SeqAt.shaped e = true ∧ R (.bl (ng ^^ PyData.eqv d e)) S
theorem scal_rep {K : PySem.W.Frag} {Z : Addr → Prop} {S : Store} {H : Hp} {v u : V} {x y : T} (rx : Rep K Z S H v x) (ry : Rep K Z S H u y) (h : scalT x y = true) : scal v u = true ∧ decide (v = u) = eqS x y := by
  cases rx <;> cases ry <;> first | (cases h; done) | exact ⟨rfl, by simp [eqS]⟩
theorem cv_eq : Conv X.K E (kEqG false) (fun x y H Q => rEq x y H Q ∨ rEqD X.K x y H Q) := by
  intro Z x y S v u H R RE Q ok rx ry kk po xo
  rcases kk with ⟨h, k⟩ | ⟨d, e, hd, he, sd, se, k⟩
  · obtain ⟨h1, h2⟩ := scal_rep rx ry h
    refine .inl ⟨h1, ?_⟩
    rw [h2]
    exact po _ _ _ _ (by simpa using k) .refl ok (.bl _)
  · exact .inr ⟨d, e, rx.dp hd, ry.dp he, sd, se, po _ _ _ _ (by simpa using k) .refl ok (.bl _)⟩
theorem cv_ne : Conv X.K E (kEqG true) (fun x y H Q => rNe x y H Q ∨ rNeD X.K x y H Q) := by
  intro Z x y S v u H R RE Q ok rx ry kk po xo
  rcases kk with ⟨h, k⟩ | ⟨d, e, hd, he, sd, se, k⟩
  · obtain ⟨h1, h2⟩ := scal_rep rx ry h
    refine .inl ⟨h1, ?_⟩
    rw [h2]
    exact po _ _ _ _ (by simpa using k) .refl ok (.bl _)
  · exact .inr ⟨d, e, rx.dp hd, ry.dp he, sd, se, po _ _ _ _ (by simpa using k) .refl ok (.bl _)⟩
theorem op_eqG (hu : X.A.units + 64 < cLine) : OpR X (compareOp .Eq) (fun x y H Q => rEq x y H Q ∨ rEqD X.K x y H Q) := op_eq.or (op_eqD hu)
theorem op_neG (hu : X.A.units + 64 < cLine) : OpR X (compareOp .NotEq) (fun x y H Q => rNe x y H Q ∨ rNeD X.K x y H Q) := op_ne.or (op_neD hu)
def isNon : T → Bool
  | .non => true
  | _ => false
def kIsN (ng : Bool) : KB := fun x y S R _ => y = .non ∧ R (.bl (ng ^^ isNon x)) S
theorem non_rep {K : PySem.W.Frag} {Z : Addr → Prop} {S : Store} {H : Hp} {v : V} {x : T} (rx : Rep K Z S H v x) : decide (v = .non) = isNon x := by
  cases rx <;> simp [isNon]
theorem cv_isN : Conv X.K E (kIsN false) (fun x y H Q => y = .non ∧ Q (.bl (decide (x = .non))) H) := by
  intro Z x y S v u H R RE Q ok rx ry ⟨e, k⟩ po xo
  subst e
  cases ry
  refine ⟨rfl, ?_⟩
  rw [non_rep rx]
  exact po _ _ _ _ (by simpa using k) .refl ok (.bl _)
theorem cv_notN : Conv X.K E (kIsN true) (fun x y H Q => y = .non ∧ Q (.bl (!decide (x = .non))) H) := by
  intro Z x y S v u H R RE Q ok rx ry ⟨e, k⟩ po xo
  subst e
  cases ry
  refine ⟨rfl, ?_⟩
  rw [non_rep rx]
  exact po _ _ _ _ (by simpa using k) .refl ok (.bl _)
/-! a[i] -/
def kIx : KB := fun x y S R _ => match x, y with
  | .lst l, .int i => ∃ t, atI l i = some t ∧ R t S
  | .tup l, .int i => ∃ t, atI l i = some t ∧ R t S
  | .scr l, .int i => ∃ t, atI l i = some t ∧ R t S
  | .str z, .int i => z.length ≤ sizeLine ∧ ∃ c, atI z.cps.toList i = some c ∧ R (.str ⟨#[c]⟩) S
  | .cell a, .int i => ∃ l t, S a = some (.lst l) ∧ atI l i = some t ∧ R t S
  | _, _ => False
theorem Reps.at {K : PySem.W.Frag} {Z : Addr → Prop} {S : Store} {H : Hp} {vs : List V} {ts : List T} {i : Int} {t : T} (r : Reps K Z S H vs ts) (h : atI ts i = some t) : ∃ v, atI vs i = some v ∧ Rep K Z S H v t := by
  unfold atI at h ⊢
  rw [r.length]
  cases e : ixN ts.length i with
  | none => rw [e] at h; cases h
  | some j => rw [e] at h; exact r.get h
theorem cv_ix : Conv X.K E kIx (rIx X.K) := by
  intro Z x y S v u H R RE Q ok rx ry kk po xo
  unfold kIx at kk
  split at kk
  · obtain ⟨t, h, k⟩ := kk
    cases ry
    cases rx with
    | lst h1 r1 =>
      obtain ⟨w, hw, rw'⟩ := r1.at h
      exact .inl ⟨_, _, _, _, rfl, rfl, h1.sq, hw, po _ _ _ _ k .refl ok rw'⟩
  · obtain ⟨t, h, k⟩ := kk
    cases ry
    cases rx with
    | tup h1 r1 =>
      obtain ⟨w, hw, rw'⟩ := r1.at h
      exact .inr (.inl ⟨_, _, _, _, rfl, rfl, h1.sq, hw, po _ _ _ _ k .refl ok rw'⟩)
  · obtain ⟨t, h, k⟩ := kk
    cases ry
    cases rx with
    | scr h1 r1 =>
      obtain ⟨w, hw, rw'⟩ := r1.at h
      exact .inl ⟨_, _, _, _, rfl, rfl, h1.sq, hw, po _ _ _ _ k .refl ok rw'⟩
  · obtain ⟨z, c, h, k⟩ := kk
    cases ry; cases rx
    exact .inr (.inr ⟨_, _, _, rfl, rfl, z, h, po _ _ _ _ k .refl ok (.str _)⟩)
  · obtain ⟨l, t, hs, h, k⟩ := kk
    cases ry; cases rx
    rename_i a i
    have c := ok.cl a
    rw [hs] at c
    obtain ⟨vs, hv, r1⟩ := c
    obtain ⟨w, hw, rw'⟩ := r1.at h
    exact .inl ⟨_, _, _, _, rfl, rfl, .of hv, hw, po _ _ _ _ k .refl ok rw'⟩
  · exact kk.elim
/-! len, truth, built-ins -/
abbrev KA := List T → Store → (T → Store → Prop) → XT → Prop
def lenT : T → Store → Option Nat
  | .lst l, _ => some l.length
  | .tup l, _ => some l.length
  | .scr l, _ => some l.length
  | .str z, _ => if z.length ≤ sizeLine then some z.length else none
  | .cell a, S => match S a with
    | some (.lst l) => some l.length
    | _ => none
  | _, _ => none
def kLen : KA := fun xs S R _ => ∃ x n, xs = [x] ∧ lenT x S = some n ∧ R (.int (n : Nat)) S
theorem len_rep {K : PySem.W.Frag} {Z : Addr → Prop} {S : Store} {H : Hp} {v : V} {x : T} {n : Nat} (ok : Ok K Z S H) (rx : Rep K Z S H v x) (h : lenT x S = some n) : LenV K v H n := by
  cases rx with
  | str z =>
    simp only [lenT] at h
    split at h
    · cases h; exact ⟨by assumption, rfl⟩
    · cases h
  | tup h1 r1 => cases h; exact .inr ⟨_, h1.sq, r1.length.symm⟩
  | lst h1 r1 => cases h; exact .inl ⟨_, h1.sq, r1.length.symm⟩
  | scr h1 r1 => cases h; exact .inl ⟨_, h1.sq, r1.length.symm⟩
  | cell a =>
    simp only [lenT] at h
    have c := ok.cl a
    split at h
    · rename_i l e
      rw [e] at c
      obtain ⟨vs, hv, r⟩ := c
      cases h
      exact .inl ⟨_, .of hv, r.length.symm⟩
    · cases h
  | _ => cases h
theorem cv_len : ConvA X.K E kLen (fun xs H Q => ∃ x n, xs = [x] ∧ LenV X.K x H n ∧ Q (.int n) H) := by
  intro Z xs S vs H R RE Q ok rs ⟨x, n, e, h, k⟩ po xo
  subst e
  cases rs with
  | cons r rr =>
    cases rr
    exact ⟨_, n, rfl, len_rep ok r h, po _ _ _ _ k .refl ok (.int _)⟩
def kU (g : Int → T) : KA := fun xs S R _ => ∃ i, xs = [.int i] ∧ R (g i) S
theorem cv_U {g : Int → Int} : ConvA X.K E (kU fun i => .int (g i)) (fun xs H Q => ∃ i, xs = [.int i] ∧ Q (.int (g i)) H) := by
  intro Z xs S vs H R RE Q ok rs ⟨i, e, k⟩ po xo
  subst e
  cases rs with
  | cons r rr =>
    cases rr; cases r
    exact ⟨_, rfl, po _ _ _ _ k .refl ok (.int _)⟩
def kA2 (g : Int → Int → T) : KA := fun xs S R _ => ∃ i j, xs = [.int i, .int j] ∧ R (g i j) S
theorem cv_A2 {g : Int → Int → Int} : ConvA X.K E (kA2 fun i j => .int (g i j)) (fun xs H Q => ∃ i j, xs = [.int i, .int j] ∧ Q (.int (g i j)) H) := by
  intro Z xs S vs H R RE Q ok rs ⟨i, j, e, k⟩ po xo
  subst e
  cases rs with
  | cons r rr =>
    cases r
    cases rr with
    | cons r rr =>
      cases r; cases rr
      exact ⟨_, _, rfl, po _ _ _ _ k .refl ok (.int _)⟩
def kDm : KA := fun xs S R _ => ∃ i j, xs = [.int i, .int j] ∧ CDivP i j ∧ R (.tup [.int (i / j), .int (i % j)]) S
theorem cv_dm : ConvA X.K E kDm (fun xs H Q => ∃ i j, xs = [.int i, .int j] ∧ CDivP i j ∧ ∀ p, H p = none → Q (.ref p) (upd H p (.tup [.int (i / j), .int (i % j)]))) := by
  intro Z xs S vs H R RE Q ok rs ⟨i, j, e, c, k⟩ po xo
  subst e
  cases rs with
  | cons r rr =>
    cases r
    cases rr with
    | cons r rr =>
      cases r; cases rr
      exact ⟨_, _, rfl, c, fun p hp => po _ _ _ _ k (le_new hp) (ok.new hp) (.tupN ok hp (.cons (.int _) (.cons (.int _) .nil)))⟩
def kStrI : KA := fun xs S R _ => ∃ i, xs = [.int i] ∧ i.natAbs.log2 < 1920 ∧ R (.str (toString i)) S
theorem cv_strI : ConvA X.K E kStrI (fun xs H Q => ∃ i, xs = [.int i] ∧ i.natAbs.log2 < 1920 ∧ Q (.str (toString i)) H) := by
  intro Z xs S vs H R RE Q ok rs ⟨i, e, c, k⟩ po xo
  subst e
  cases rs with
  | cons r rr =>
    cases rr; cases r
    exact ⟨_, rfl, c, po _ _ _ _ k .refl ok (.str _)⟩
/-- all, any of a list of truths -/
def kAll (f : List Bool → Bool) : KA := fun xs S R _ => ∃ bs : List Bool, xs = [.lst (bs.map .bl)] ∧ R (.bl (f bs)) S
theorem reps_bl {K : PySem.W.Frag} {Z : Addr → Prop} {S : Store} {H : Hp} : ∀ {bs : List Bool} {vs : List V}, Reps K Z S H vs (bs.map .bl) → vs = bs.map .bl
  | [], _, .nil => rfl
  | b :: bs, _, .cons h r => by cases h; rw [reps_bl r]; rfl
theorem cv_all {f : List Bool → Bool} : ConvA X.K E (kAll f) (fun vs H Q => ∃ (a : Addr) (bs : List Bool), vs = [V.ref a] ∧ SqL X.K H a (bs.map V.bl) ∧ Q (.bl (f bs)) H) := by
  intro Z xs S vs H R RE Q ok rs ⟨bs, e, k⟩ po xo
  subst e
  cases rs with
  | cons r rr =>
    cases rr
    cases r with
    | lst h1 r1 =>
      rw [reps_bl r1] at h1
      exact ⟨_, bs, rfl, h1.sq, po _ _ _ _ k .refl ok (.bl _)⟩
end

/-! ### slices -/
abbrev TRO := Fm → Store → (Option Int → Store → Prop) → XT → Prop
structure UpO (K : PySem.W.Frag) (E : XK) (r : TRO) (sl : L2.St) (H : Hp) (Q : Option Int → Hp → Prop) : Prop where
  ex : ∃ Z σ S R RE, FrR K Z S H sl σ ∧ Ok K Z S H ∧ r σ S R RE ∧ (∀ o S' H', R o S' → Le S H S' H' → Ok K Z S' H' → Q o H') ∧ XOk K Z S H RE E
structure OT (X : Cx) (E : XK) (e : Option Expr) (r : TRO) : Prop where
  po : L2.PO X e (UpO X.K E r)
theorem po_weak {X : Cx} {e : Option Expr} {t t' : TO} (he : L2.PO X e t) (imp : ∀ sl H Q, t' sl H Q → t sl H Q) : L2.PO X e t' := ⟨fun pins s sl H Q inv h => he.run pins s sl H Q inv (imp sl H Q h)⟩
def oNone : TRO := fun _ S R _ => R none S
def oSome (ra : TR) : TRO := fun σ S R RE => ra σ S (fun x S1 => ∃ i, x = .int i ∧ R (some i) S1) RE
def cutT (l : List T) (lo hi : Option Int) : List T := (l.drop (HT.sIx l.length 0 lo)).take (HT.sIx l.length l.length hi - HT.sIx l.length 0 lo)
section
variable {X : Cx} {E : XK} {e a b c : Expr} {es : List Expr} {pos p2 : Pos} {ra rb rc : TR} {t : TRA} {lo hi : Option Expr} {rl rh : TRO}
theorem ot_none : OT X E none oNone := ⟨po_weak po_none fun sl H Q ⟨⟨Z, σ, S, R, RE, fr, ok, w, po, xo⟩⟩ => po none S H w .refl ok⟩
theorem ot_some (h : ET X E a ra) : OT X E (some a) (oSome ra) := ⟨po_weak (po_some h.pe) fun sl H Q ⟨⟨Z, σ, S, R, RE, fr, ok, w, po, xo⟩⟩ => ⟨Z, σ, S, _, RE, fr, ok, w, fun x S1 v H1 k le ok1 rep => by
  obtain ⟨i, rfl, k⟩ := k
  cases rep
  exact ⟨i, rfl, po _ S1 H1 k le ok1⟩, xo⟩⟩
def kSl : T → Option Int → Option Int → Store → (T → Store → Prop) → Prop := fun x lo hi S R => match x with
  | .lst l => R (.lst (cutT l lo hi)) S
  | .scr l => R (.lst (cutT l lo hi)) S
  | .tup l => ¬ (HT.sIx l.length 0 lo = 0 ∧ HT.sIx l.length l.length hi = l.length) ∧ R (.tup (cutT l lo hi)) S
  | .str z => z.length ≤ sizeLine ∧ R (.str (cutS z lo hi)) S
  | _ => False
def rSl (ra : TR) (rl rh : TRO) : TR := fun σ S R RE => ra σ S (fun x S1 => rl σ S1 (fun l S2 => rh σ S2 (fun h S3 => kSl x l h S3 R) RE) RE) RE
theorem Reps.cut {K : PySem.W.Frag} {Z : Addr → Prop} {S : Store} {H : Hp} {vs : List V} {ts : List T} {l h : Option Int} (r : Reps K Z S H vs ts) : Reps K Z S H (cutV vs l h) (cutT ts l h) := by
  unfold cutV cutT
  rw [r.length]
  exact (r.drop _).take _
theorem et_slice (ha : ET X E a ra) (hl : OT X E lo rl) (hh : OT X E hi rh) : ET X E (.Subscript a (.Slice lo hi none p2) pos) (rSl ra rl rh) :=
  ⟨pe_weak (pe_slice (SlR.or sl_list (SlR.or sl_tup sl_str)) ha.pe hl.po hh.po) fun sl H Q ⟨⟨Z, σ, S, R, RE, fr, ok, w, po, xo⟩⟩ => by
    refine ⟨Z, σ, S, _, RE, fr, ok, w, fun x S1 v H1 k1 le1 ok1 rep => ?_, xo⟩
    refine ⟨Z, σ, S1, _, RE, fr.le le1, ok1, k1, fun l S2 H2 k2 le2 ok2 => ?_, xo.le le1⟩
    refine ⟨Z, σ, S2, _, RE, (fr.le le1).le le2, ok2, k2, fun h S3 H3 k3 le3 ok3 => ?_, (xo.le le1).le le2⟩
    have po3 := ((po.le le1).le le2).le le3
    have rep3 := (rep.le le2).le le3
    unfold kSl at k3
    split at k3
    · cases rep3 with
      | lst h1 r1 => exact .inl ⟨_, _, rfl, h1.sq, fun p hp => po3 _ _ _ _ k3 (le_new hp) (ok3.new hp) (.lstN ok3 hp r1.cut)⟩
    · cases rep3 with
      | scr h1 r1 => exact .inl ⟨_, _, rfl, h1.sq, fun p hp => po3 _ _ _ _ k3 (le_new hp) (ok3.new hp) (.lstN ok3 hp r1.cut)⟩
    · cases rep3 with
      | tup h1 r1 => exact .inr (.inl ⟨_, _, rfl, h1.sq, by rw [r1.length]; exact k3.1, fun p hp => po3 _ _ _ _ k3.2 (le_new hp) (ok3.new hp) (.tupN ok3 hp r1.cut)⟩)
    · cases rep3
      exact .inr (.inr ⟨_, rfl, k3.1, po3 _ _ _ _ k3.2 .refl ok3 (.str _)⟩)
    · exact k3.elim⟩
/-! ### xs.append(e) and the like: methods of a list that changes -/
def rMut (k : Addr → List T → List T → Store → (T → Store → Prop) → Prop) (ra : TR) (t : TRA) : TR := fun σ S R RE => ra σ S (fun x S1 => ∃ a, x = .cell a ∧ (∃ l, S1 a = some (.lst l)) ∧ t σ S1 (fun xs S2 => ∃ l, S2 a = some (.lst l) ∧ k a l xs S2 R) RE) RE
theorem et_mut {name : Str} {id : String} {apos cpos : Pos} {o : Expr} {r : V → List V → Hp → VK → Prop} {k} (slot : Slot "list" name id) (hty : typeOf (.builtin id) = pure (.type "method_descriptor")) (hm : MtR X id r)
    (cv : ∀ Z a l xs S vs H R Q, Ok X.K Z S H → Reps X.K Z S H vs xs → S a = some (.lst l) → k a l xs S R → PO X.K Z S H R Q → r (.ref a) vs H Q) (ho : ET X E o ra) (ha : AT X E (e :: es) t)
    (hbase : attributeBase o name X.env (eval o X.env) = eval o X.env := by rfl)
    (hfew : ((backTo cpos (starEach (e :: es) X.env)).all (fun x => !x.1) && (backToKw cpos (keywordEach [] X.env)).all (fun x => x.1.isSome)
      && decide ((e :: es).length + ([] : List Keyword).length + (if ([] : List Keyword).isEmpty then 0 else 1) < 30)) = true := by rfl)
    (hline : (apos.endLine == cpos.line) = true := by rfl) (hs : starEach (e :: es) X.env = (false, eval e X.env) :: starEach es X.env := by rfl) (hplain : (backTo cpos (starEach es X.env)).any (·.1) = false := by rfl) :
    ET X E (.Call (.Attribute o name apos) (e :: es) [] cpos) (rMut k ra t) :=
  ⟨pe_weak (pe_bm PySem.F.plainAttrs_list slot hty hm ho.pe ha.pa hbase hfew hline hs hplain) fun sl H Q ⟨⟨Z, σ, S, R, RE, fr, ok, w, po, xo⟩⟩ => by
    refine ⟨Z, σ, S, _, RE, fr, ok, w, fun x S1 v H1 k1 le1 ok1 rep => ?_, xo⟩
    obtain ⟨a, rfl, ⟨l, hl⟩, k1⟩ := k1
    cases rep
    have c := ok1.cl a
    rw [hl] at c
    obtain ⟨vs, hv, _⟩ := c
    refine ⟨.inl ⟨rfl, _, SqL.of hv⟩, Z, σ, S1, _, RE, fr.le le1, ok1, k1, fun xs S2 ws H2 k2 le2 ok2 rs => ?_, xo.le le1⟩
    obtain ⟨l2, hl2, k2⟩ := k2
    exact cv Z a l2 xs S2 ws H2 R Q ok2 rs hl2 k2 ((po.le le1).le le2)⟩
def kAppend : Addr → List T → List T → Store → (T → Store → Prop) → Prop := fun a l xs S R => ∃ x, xs = [x] ∧ l.length < sizeLine ∧ R .non (S.put a (.lst (l ++ [x])))
theorem cv_append : ∀ Z a l xs S vs H R Q, Ok X.K Z S H → Reps X.K Z S H vs xs → S a = some (.lst l) → kAppend a l xs S R → PO X.K Z S H R Q → rAppend (.ref a) vs H Q := by
  intro Z a l xs S vs H R Q ok rs hs ⟨x, e, z, k⟩ po
  subst e
  cases rs with
  | @cons v _ _ _ r rr =>
    cases rr
    have c := ok.cl a
    rw [hs] at c
    obtain ⟨ws, hv, r1⟩ := c
    have l3 : Le S H (S.put a (.lst (l ++ [x]))) (upd H a (.lst (ws ++ [v]))) := le_setc hs
    exact ⟨a, ws, _, rfl, rfl, hv, by rw [r1.length]; exact z, po _ _ _ _ k l3 (ok.put l3 (ok.nzc hs) ⟨_, upd_same, (r1.append (.cons r .nil)).le l3⟩) .non⟩
def kExtend : Addr → List T → List T → Store → (T → Store → Prop) → Prop := fun a l xs S R => ∃ m, xs = [.lst m] ∧ l.length + m.length ≤ sizeLine ∧ R .non (S.put a (.lst (l ++ m)))
theorem cv_extend : ∀ Z a l xs S vs H R Q, Ok X.K Z S H → Reps X.K Z S H vs xs → S a = some (.lst l) → kExtend a l xs S R → PO X.K Z S H R Q → rExtend (.ref a) vs H Q := by
  intro Z a l xs S vs H R Q ok rs hs ⟨m, e, z, k⟩ po
  subst e
  cases rs with
  | cons r rr =>
    cases rr
    cases r with
    | lst h2 r2 =>
      have c := ok.cl a
      rw [hs] at c
      obtain ⟨ws, hv, r1⟩ := c
      have l3 := fun vs => (le_setc hs : Le S H (S.put a (.lst (l ++ m))) (upd H a (.lst (ws ++ vs))))
      exact ⟨a, _, ws, _, rfl, rfl, hv, h2.1, by rw [r1.length, r2.length]; exact z, po _ _ _ _ k (l3 _) (ok.put (l3 _) (ok.nzc hs) ⟨_, upd_same, (r1.append r2).le (l3 _)⟩) .non⟩
/-! ### repr of data -/
structure SmT (k n : Nat) (t : T) : Prop where
  ex : ∃ d, t.dat = some d ∧ d.showable = true ∧ d.hasDict = false ∧ d.depth ≤ k ∧ d.shown.length ≤ n
def shownT (t : T) : Str := match t.dat with
  | some d => d.shown
  | none => Str.empty
def isDispT : T → Bool
  | .lst _ => true
  | .tup _ => true
  | _ => false
def kRepr : KA := fun xs S R _ => ∃ x k n, xs = [x] ∧ isDispT x = true ∧ SmT k n x ∧ k ≤ 64 ∧ n ≤ 16777216 ∧ R (.str (shownT x)) S
theorem cv_repr : ConvA X.K E kRepr (RRepr X.K) := by
  intro Z xs S vs H R RE Q ok rs ⟨x, k, n, e, di, ⟨d, hd, sh, nd, dp, ln⟩, hk, hn, r⟩ po xo
  subst e
  cases rs with
  | cons rx rr =>
    cases rr
    refine ⟨_, d, rfl, rx.dp hd, ?_, sh, nd, Nat.le_trans dp hk, Nat.le_trans ln (by rw [sizeLine_eq]; exact hn), ?_⟩
    · cases x <;> first | (cases di; done) | (rw [T.dat] at hd; obtain ⟨ds, _, rfl⟩ := Option.map_eq_some_iff.mp hd; rfl)
    · refine po _ _ _ _ r .refl ok ?_
      unfold shownT
      rw [hd]
      exact .str _
/-! ### tuple(..), list(..) -/
def kTuple : KA := fun xs S R _ => ∃ x l, xs = [x] ∧ (x = .lst l ∨ x = .tup l) ∧ R (.tup l) S
theorem cv_tuple : ConvA X.K E kTuple (fun xs H Q => ∃ p ys, xs = [.ref p] ∧ ((SqL X.K H p ys ∧ ∀ l, H l = none → Q (.ref l) (upd H l (.tup ys))) ∨ (SqT X.K H p ys ∧ Q (.ref p) H))) := by
  intro Z xs S vs H R RE Q ok rs ⟨x, l, e, hx, k⟩ po xo
  subst e
  cases rs with
  | cons r rr =>
    cases rr
    rcases hx with rfl | rfl
    · cases r with
      | lst h1 r1 => exact ⟨_, _, rfl, .inl ⟨h1.sq, fun p hp => po _ _ _ _ k (le_new hp) (ok.new hp) (.tupN ok hp r1)⟩⟩
    · cases r with
      | tup h1 r1 => exact ⟨_, _, rfl, .inr ⟨h1.sq, po _ _ _ _ k .refl ok (.tup h1 r1)⟩⟩
def kList : KA := fun xs S R _ => ∃ x l, xs = [x] ∧ seqOf x = some l ∧ R (.lst l) S
theorem cv_list : ConvA X.K E kList (fun xs H Q => ∃ p ys, xs = [.ref p] ∧ (SqL X.K H p ys ∨ SqT X.K H p ys) ∧ ∀ l, H l = none → Q (.ref l) (upd H l (.lst ys))) := by
  intro Z xs S vs H R RE Q ok rs ⟨x, l, e, hx, k⟩ po xo
  subst e
  cases rs with
  | cons r rr =>
    cases rr
    cases r <;> try (cases hx; done)
    · rename_i h1 r1
      cases hx
      exact ⟨_, _, rfl, .inr h1.sq, fun p hp => po _ _ _ _ k (le_new hp) (ok.new hp) (.lstN ok hp r1)⟩
    · rename_i h1 r1
      cases hx
      exact ⟨_, _, rfl, .inl h1.sq, fun p hp => po _ _ _ _ k (le_new hp) (ok.new hp) (.lstN ok hp r1)⟩
    · rename_i h1 r1
      cases hx
      exact ⟨_, _, rfl, .inl h1.sq, fun p hp => po _ _ _ _ k (le_new hp) (ok.new hp) (.lstN ok hp r1)⟩
end
/-! keywords -/
section
variable {X : Cx} {E : XK} {e : Expr} {ra : TR} {tk : TRA}
theorem kt_nil : KT X E [] aNil := ⟨⟨fun pos pins s sl H Q I h => pk_nil.run pos pins s sl H Q I (by
  obtain ⟨Z, σ, S, R, RE, fr, ok, w, po, xo⟩ := h.ex
  exact po [] S [] H w .refl ok .nil)⟩⟩
theorem kt_cons {nm : Option Str} {kpos : Pos} {kws : List Keyword} (ha : ET X E e ra) (hr : KT X E kws tk) : KT X E (⟨nm, e, kpos⟩ :: kws) (aCons ra tk) := ⟨⟨fun pos pins s sl H Q I h => (pk_cons ha.pe hr.pk).run pos pins s sl H Q I (by
  obtain ⟨Z, σ, S, R, RE, fr, ok, w, po, xo⟩ := h.ex
  refine ⟨Z, σ, S, _, RE, fr, ok, w, fun x S1 v H1 kk le ok1 rep => ?_, xo⟩
  exact ⟨Z, σ, S1, _, RE, fr.le le, ok1, kk, fun xs S2 vs H2 k2 le2 ok2 rs => po (x :: xs) S2 (v :: vs) H2 k2 (le.trans le2) ok2 (.cons (rep.le le2) rs), xo.le le⟩)⟩⟩
end
/-! ### isinstance -/
/-- what isinstance asks of a class of one's own -/
structure InsC (K : PySem.W.Frag) (C : Addr) : Prop where
  cl : Cls K C
  c1 : PySem.W.findIn K (.ref C) "__class__" = some (some (.builtin "object.__class__"))
  c2 : PySem.W.specialIn K (.builtin "object.__class__") "__get__" = some (some (.builtin "getset_descriptor.__get__"))
  c3 : PySem.W.takesIn K (.builtin "object.__class__") = some true
  c4 : PySem.W.mroIn K C (.type "object") = some true
/-- what isinstance asks of an error's class of one's own -/
structure ExcC (K : PySem.W.Frag) (C : Addr) : Prop where
  cl : (PySem.W.clsIn K C).isSome = true
  ga : PySem.W.findIn K (.ref C) "__getattribute__" = some (some (.builtin "BaseException.__getattribute__"))
  gg : PySem.W.findIn K (.ref C) "__getattr__" = some none
  exC : PySem.W.subIn K (.ref C) (.type "BaseException") = some true
  hd : PySem.W.hasDictIn K C = true
  c1 : PySem.W.findIn K (.ref C) "__class__" = some (some (.builtin "object.__class__"))
  c2 : PySem.W.specialIn K (.builtin "object.__class__") "__get__" = some (some (.builtin "getset_descriptor.__get__"))
  c3 : PySem.W.takesIn K (.builtin "object.__class__") = some true
  c4 : PySem.W.mroIn K C (.type "object") = some true
inductive TyT (K : PySem.W.Frag) (S : Store) : T → Value → Prop
  | non : TyT K S .non (.type "NoneType")
  | bl (x : Bool) : TyT K S (.bl x) (.type "bool")
  | int (i : Int) : TyT K S (.int i) (.type "int")
  | str (x : Str) : TyT K S (.str x) (.type "str")
  | lst (l : List T) : TyT K S (.lst l) (.type "list")
  | scr (l : List T) : TyT K S (.scr l) (.type "list")
  | tup (l : List T) : TyT K S (.tup l) (.type "tuple")
  | dct : TyT K S .dct (.type "dict")
  | cell {a : Addr} {l : List T} (h : S a = some (.lst l)) : TyT K S (.cell a) (.type "list")
  | ins {C : Addr} {gs : List (Str × T)} (h : InsC K C) : TyT K S (.ins C gs) (.ref C)
  | cins {a C : Addr} {gs : List (Str × T)} (h : InsC K C) (e : S a = some (.ins C gs)) : TyT K S (.cell a) (.ref C)
  | exc {C : Addr} {gs : List (Str × T)} (h : ExcC K C) : TyT K S (.exc C gs) (.ref C)
inductive ClT : T → Value → Prop
  | ty (n : String) : ClT (.ty n) (.type n)
  | st (a : Addr) : ClT (.st a) (.ref a)
section
variable {X : Cx} {E : XK}
theorem ty_repX {K : PySem.W.Frag} {Z : Addr → Prop} {S : Store} {H : Hp} {v : V} {x : T} {t : Value} (ok : Ok K Z S H) (rx : Rep K Z S H v x) (h : TyT K S x t) (hx : ∀ C gs, x ≠ .exc C gs) : TyX K H v t := by
  cases h with
  | exc h => exact absurd rfl (hx _ _)
  | non => cases rx; exact .base .non
  | bl b => cases rx; exact .base (.bl b)
  | int i => cases rx; exact .base (.int i)
  | str z => cases rx; exact .base (.str z)
  | dct => cases rx with | dct h n => exact .base (.dK h)
  | lst l => cases rx with | lst h r => exact .base (.lst h.1)
  | scr l =>
    cases rx with
    | scr h r =>
      rcases h with ⟨⟨o, h⟩, _⟩ | ⟨o, its, n, h, c, _⟩
      · exact .base (.frz h)
      · exact .kList h c
  | tup l =>
    cases rx with
    | tup h r =>
      rcases h with ⟨h | ⟨o, h⟩, _⟩ | ⟨o, its, n, h, c, _⟩
      · exact .base (.tup h)
      · exact .fTuple h
      · exact .kTuple h c
  | @cell a l h =>
    cases rx
    have c := ok.cl a
    rw [h] at c
    obtain ⟨vs, hv, _⟩ := c
    exact .base (.lst hv)
  | ins h => cases rx with | ins h2 n r => exact .base (.ins h2 h.cl h.c1 h.c2 h.c3 h.c4)
  | @cins a C gs h e =>
    cases rx
    have c := ok.cl a
    rw [e] at c
    obtain ⟨dx, fs, hv, _⟩ := c
    exact .base (.ins hv h.cl h.c1 h.c2 h.c3 h.c4)
/-- a type that is known: of what the layer knows, or of an error -/
def TyY (K : PySem.W.Frag) (H : Hp) (v : V) (t : Value) : Prop := TyX K H v t ∨ ∃ (p C dx : Addr) (fs : List (Str × V)), v = .ref p ∧ t = .ref C ∧ H p = some (.ext (ExcAt p C dx)) ∧ H dx = some (.xd fs) ∧ ExcC K C
theorem ty_rep {K : PySem.W.Frag} {Z : Addr → Prop} {S : Store} {H : Hp} {v : V} {x : T} {t : Value} (ok : Ok K Z S H) (rx : Rep K Z S H v x) (h : TyT K S x t) : TyY K H v t := by
  by_cases e : ∃ C gs, x = .exc C gs
  · obtain ⟨C, gs, rfl⟩ := e
    cases h with
    | exc h => cases rx with | exc h1 n hd nd r => exact .inr ⟨_, _, _, _, rfl, rfl, h1, hd, h⟩
  · exact .inl (ty_repX ok rx h fun C gs z => e ⟨C, gs, z⟩)
/-- an error as it stands: the object, its dict -/
theorem exc_inst {pins : List (Addr × Obj)} {σ : L2.St} {H : Hp} {s : Shared} {p C dx : Addr} {fs : List (Str × V)} (I : Inv X pins σ H s) (h : H p = some (.ext (ExcAt p C dx))) (hd : H dx = some (.xd fs)) :
    ∃ (oe od : Obj) (mA : Str → Option Value), PySem.W.InstAt s.heap p oe C (some od) ∧ s.heap.Ns1 dx mA ∧ (∀ f, RelO (fs.lookup f) (mA f)) ∧ (∀ y, PySem.W.lookIn y od = some (mA y)) := by
  obtain ⟨⟨oe, t1, e1, e2, e3, e4⟩, _⟩ := (show ObjOk X.prog X.w H s.heap p (.ext (ExcAt p C dx)) from I.hok p _ h)
  obtain ⟨mA, hns, hr⟩ := (show ObjOk X.prog X.w H s.heap dx (.xd fs) from I.hok dx _ hd)
  obtain ⟨od, ho, hl⟩ := lookIn_ns hns
  exact ⟨oe, od, mA, ⟨e1, e2, by unfold PySem.W.notCls; rw [e4], by rw [e3]; exact ho⟩, hns, hr, hl⟩
theorem kit_ofY {pins : List (Addr × Obj)} {σ : L2.St} {H : Hp} {s : Shared} {x : V} {u t : Value} (I : Inv X pins σ H s) (rx : RelV x u) (ty : TyY X.K H x t) : ∃ P : Heap → Prop, PySem.W.KitX X.K u t P ∧ P s.heap ∧ u ≠ .builtin "__main__.__loader__#opaque" := by
  rcases ty with ty | ⟨p, C, dx, fs, rfl, rfl, h, hd, c⟩
  · exact kit_of I rx ty
  · obtain rfl : u = Value.ref p := rx
    obtain ⟨oe, od, mA, J, _⟩ := exc_inst I h hd
    exact ⟨_, PySem.W.kitx_exc c.cl c.ga c.gg c.exC c.c1 c.c2 c.c3 c.c4, J, fun z => nomatch z⟩
def rIsiY (K : PySem.W.Frag) : List V → Hp → VK → Prop := fun xs H Q => ∃ (x c : V) (t u : Value) (b : Bool), xs = [x, c] ∧ ClsV c u ∧ TyY K H x t ∧ PySem.W.kitOne K t u = some b ∧ Q (.bl b) H
theorem call_isiY : CallR X (.builtin "isinstance") (rIsiY X.K) := by
  intro pins s σ H xs us Q I r h
  obtain ⟨x, c, t, u, b, rfl, k, ty, e, q⟩ := h
  obtain ⟨u1, u2, rfl, r1, r2⟩ := vals2 r
  have e2 := k.eq r2
  subst e2
  obtain ⟨P, Z, p, hx⟩ := kit_ofY I r1 ty
  exact PySem.W.kia_one Z I.kIn p e hx fun tk => ⟨.bl b, H, I.tok tk, rfl, q⟩
def kIsi (K : PySem.W.Frag) : KA := fun xs S R _ => ∃ x c t u b, xs = [x, c] ∧ ClT c u ∧ TyT K S x t ∧ PySem.W.kitOne K t u = some b ∧ R (.bl b) S
theorem cv_isi {K : PySem.W.Frag} : ConvA K E (kIsi K) (rIsiY K) := by
  intro Z xs S vs H R RE Q ok rs ⟨x, c, t, u, b, e, hc, ht, hk, k⟩ po xo
  subst e
  cases rs with
  | cons r rr =>
    cases rr with
    | cons r2 rr =>
      cases rr
      refine ⟨_, _, t, u, b, rfl, ?_, ty_rep ok r ht, hk, po _ _ _ _ k .refl ok (.bl b)⟩
      cases hc with
      | ty n => cases r2; exact .ty n
      | st a => cases r2; exact .own a
end

/-! an own error with one field, made and raised: the class's text, C(e) for L2N, raise C(e) -/
section
open PySem.W PySem.Calls PyProof.Rows PySem.HandSPX
def evArgs (p1 p2 : Pos) : Arguments := { posonlyargs := [], args := [{ arg := "self", annotation := none, pos := p1 }, { arg := "value", annotation := none, pos := p2 }], vararg := none, kwonlyargs := [], kw_defaults := [], kwarg := none, defaults := [] }
def evBody (q1 q2 q3 q4 : Pos) : List Stmt := [.Assign [.Attribute (.Name "self" q1) "value" q2] (.Name "value" q3) q4]
def evScope : Scope := { kind := .function, names := [(PySem.Str.ofString "self", .local), (PySem.Str.ofString "value", .local)], isGenerator := false, isCoroutine := false, more := [] }
/-- what the top says of the class at C and of its __init__ at fI -/
structure EvTxt (K : Frag) (C fI : Addr) (qi : Str) : Prop where
  cls : ∃ nm q N bs bm sn sub ab col dd k0 k1 k2 k3 k5, K.lookup C = some (excClassObj nm q C N bs bm true sn sub ab col dd k0 k1 k2 k3 k5 "ValueError.__new__") ∧ refsVE bm = true
  sa : findIn K (.ref C) "__setattr__" = some (some (.builtin "object.__setattr__"))
  ga : findIn K (.ref C) "__getattribute__" = some (some (.builtin "BaseException.__getattribute__"))
  gg : findIn K (.ref C) "__getattr__" = some none
  noN : findIn K (.ref C) "value" = some none
  iC : findIn K (.ref C) "__init__" = some (some (.ref fI))
  tC : typeIn K (.ref fI) = some (.type "function")
  kC : keepIn K (.ref C) = true
  exC : subIn K (.ref C) (.type "BaseException") = some true
  tyC : typeIn K (.ref C) = some (.type "type")
  hdC : hasDictIn K C = true
  fn : ∃ (oc : Value) (od : Option Addr) (doc pm : Value) (an : Option Addr) (cdv ct : Value) (osl : Array (Option Value)) (p1 p2 q1 q2 q3 q4 : Pos),
    K.lookup fI = some ⟨oc, od, .func (fnOf "__init__" qi (evArgs p1 p2) (evBody q1 q2 q3 q4) evScope .none .none doc pm an cdv ct), osl⟩ ∧ codeIn K cdv qi = true
theorem one_fits (u : Value) : [u].length ≤ sizeLine := by
  show 1 ≤ sizeLine
  rw [sizeLine_eq]
  decide
theorem ev_name {M : Model} {s0 : Shared} {nm : Str} {sc : Scope} {fr a : Addr} {cd : Value} {m : Str → Option Value} {y : Str} {ps : Pos} {u : Value} {Q : Value → Shared → Prop} {A : Around} {E : Value → Shared → Prop} (hns : s0.heap.Ns fr m) (hu : m y = some u) (fin : Q u s0)
    (isf : sc.kind = .function := by rfl) (isl : (envOfC nm sc fr a cd).kindOf y = some .local := by rfl) (dbg : (y == ("__debug__" : Str)) = false := by decide) :
    wpAny M A (eval (.Name y ps) (envOfC nm sc fr a cd)) Q E s0 := wpAny_Name (wpAny_loadName_local isf isl hns hu fin) dbg
/-- what __init__ leaves of the new error at x -/
structure EvEnd (h h' : Heap) (x C dx t1 : Addr) (u : Value) : Prop where
  keep : ∀ b o, b ≠ x → h.get? b = some o → h'.get? b = some o
  obj : h'.get? x = some { cls := .ref C, dict := some dx, data := .fields #[.ref t1, .none, .none, .none, .bool false, .none] }
  dbig : h.objs.size ≤ dx
  dne : dx ≠ x
  ns : h'.Ns1 dx (fun y => if y = "value" then some u else none)
structure EvMade (h h' : Heap) (e C d : Addr) (u : Value) : Prop where
  keep : ∀ b o, h.get? b = some o → h'.get? b = some o
  new : h.objs.size ≤ e
  obj : ∃ oe t1, h'.get? e = some oe ∧ oe.cls = .ref C ∧ oe.dict = some d ∧ oe.data = .fields #[.ref t1, .none, .none, .none, .bool false, .none]
  dbig : h.objs.size ≤ d
  dne : d ≠ e
  ns : h'.Ns1 d (fun y => if y = "value" then some u else none)
section
variable {prog : Program} {w : World} {A : Around} {E : Value → Shared → Prop} {R : Result → Shared → Prop} {s0 : Shared} {K : Frag} {C fI : Addr} {qi : Str}
theorem ev_init (Z : EvTxt K C fI qi) {x t0 : Addr} {u : Value} (inK : K.In s0.heap) (lim : s0.heap.NoLimit) (hx : s0.heap.get? x = some (excO C t0)) (room : A.depth < recursionLimit)
    (fin : ∀ h' tk dx, EvEnd s0.heap h' x C dx t0 u → R (.ok (.ret .none)) { s0 with heap := h', toks := tk }) :
    codeAny (model prog w) A (.call (.ref fI) ⟨[.ref x, u], []⟩) R s0 := by
  obtain ⟨oc, od, doc, pm, an, cdv, ct, osl, p1, p2, q1, q2, q3, q4, lk, code⟩ := Z.fn
  obtain ⟨cn, cq, cN, cb, cm, csn, csb, cab, ccol, cdd, j0, j1, j2, j3, j5, lkC, refs⟩ := Z.cls
  have cdat : clsIn K C = some { name := cn, bases := cb, mro := .ref C :: cm, ns := cN, qualname := cq, hasDict := true, slotNames := csn, subclasses := csb, abstract := cab, collection := ccol, hasDel := false } := by
    unfold clsIn
    rw [lkC] <;> rfl
  refine Att.call_fn (binds := [("self", .ref x), ("value", u)]) inK lim lk code room (BindsTo.of_eq (by first | rfl | with_unfolding_all rfl)) (by first | rfl | decide | with_unfolding_all rfl) (fun s1 inC => ?_) rfl rfl rfl
  obtain ⟨h1, tk1, rfl⟩ := inC.toInCall.same
  have kp : ∀ b o, s0.heap.get? b = some o → h1.get? b = some o := inC.toInCall.keep
  have hns := inC.toInCall.ns
  have inK1 : K.In h1 := inK.keeps kp
  have hx1 := kp _ _ hx
  show wpAny _ _ (execs _ _) _ _ _
  refine wpAny_execs_cons (plainObj_wpAny_Assign_Attribute ?_)
  refine ev_name (u := u) hns (by first | rfl | with_unfolding_all rfl | kernel_rfl) (ev_name (u := .ref x) hns (by first | rfl | with_unfolding_all rfl | kernel_rfl) ?_)
  refine set_plain inK1 (ox := excO C t0) (od := none) ⟨hx1, rfl, rfl, trivial⟩ Z.sa ?_
  refine exc_osa inK1 hx1 cdat (show refsVE (.ref C :: cm) = true from refs) rfl Z.noN (fun h3 tk3 dx kp3 dbig dne hx3 ns3 => ?_)
  show wpAny _ _ (execs _ _) _ _ _
  have lt : s0.heap.objs.size < h1.objs.size := hns.lt
  exact wpAny_execs_nil (fin h3 tk3 dx ⟨fun b o hb e => kp3 b o hb (kp b o e), hx3, Nat.le_of_lt (Nat.lt_of_lt_of_le lt dbig), dne, ns3⟩)
theorem ev_made (Z : EvTxt K C fI qi) {u : Value} (inK : K.In s0.heap) (lim : s0.heap.NoLimit) (room : A.depth + 1 < recursionLimit)
    (fin : ∀ h' tk e d, EvMade s0.heap h' e C d u → R (.ok (.ret (.ref e))) { s0 with heap := h', toks := tk }) :
    codeAny (model prog w) A (.call (.ref C) ⟨[u], []⟩) R s0 := by
  obtain ⟨cn, cq, cN, cb, cm, csn, csb, cab, ccol, cdd, j0, j1, j2, j3, j5, lkC, refs⟩ := Z.cls
  obtain ⟨hp, gn, dr, tk, os⟩ := s0
  have kp : ∀ b o, hp.get? b = some o → ((hp.push (kdv_tup [u])).push (excO C hp.objs.size)).get? b = some o := fun b o e => Heap.get?_push_of_some _ (Heap.get?_push_of_some _ e)
  have got : ((hp.push (kdv_tup [u])).push (excO C hp.objs.size)).get? (hp.objs.size + 1) = some (excO C hp.objs.size) := by heap_get
  refine call_own F.excBase_ValueError (fun Y => refsVE_contains Y cm refs) (inK _ _ lkC) (looks_findIn inK Z.iC) (fun self => bind_fn inK self Z.tC) (one_fits u) ?_
  refine ev_init (s0 := ⟨(hp.push (kdv_tup [u])).push (excO C hp.objs.size), gn, dr, tk, os⟩) Z (inK.keeps kp) (lim.keeps kp) got ?_ fun h' tk' dx made => ?_
  · show A.depth + 1 < recursionLimit
    exact room
  · have old : ∀ b o, hp.get? b = some o → h'.get? b = some o := fun b o e => made.keep b o (Nat.ne_of_lt (Nat.lt_succ_of_lt (Heap.lt_size e))) (kp b o e)
    have far : hp.objs.size + 1 + 1 ≤ dx := by
      have q := made.dbig
      first
        | exact q
        | (rw [Heap.size_push, Heap.size_push] at q; exact q)
        | simpa only [Heap.size_push] using q
    exact ⟨rfl, fin h' tk' (hp.objs.size + 1) dx ⟨old, Nat.le_succ _, ⟨_, _, made.obj, rfl, rfl, rfl⟩, Nat.le_trans (Nat.le_trans (Nat.le_succ _) (Nat.le_succ _)) far, made.dne, made.ns⟩⟩
end
end
theorem relO_ev {v : V} {u : Value} (r : RelV v u) (y : Str) : RelO (List.lookup y [(("value" : Str), v)]) (if y = "value" then some u else none) := by
  by_cases hy : y = "value"
  · subst hy
    rw [if_pos rfl, show List.lookup ("value" : Str) [(("value" : Str), v)] = some v by simp [List.lookup]]
    exact r
  · have ny : (y == ("value" : Str)) = false := by simpa using hy
    rw [if_neg hy, show List.lookup y [(("value" : Str), v)] = none by simp [List.lookup, ny]]
    trivial
section
variable {X : Cx} {C fI : Addr} {qi : Str}
/-- C(e): the error's own dict is new -/
def tEv (C : Addr) (ta : TA) : L2.St → Hp → XK → Prop := fun sl H Q => ta sl H fun vs H1 => ∃ v, vs = [v] ∧ ∀ d, H1 d = none → Q (.ref C) (some d) (upd H1 d (.xd [(("value" : Str), v)]))
theorem pmk_ev {nm : Str} {a : Expr} {ta : TA} {p pos : Pos} {k : Nat} (Z : EvTxt X.K C fI qi) (hm : X.mg nm = some (.ref C)) (room : Room k X.A) (ha : PA X [a] ta) (hg : Gl X nm) (dbg : (nm == ("__debug__" : Str)) = false := by decide)
    (hst : starEach (a :: []) X.env = (false, eval a X.env) :: starEach [] X.env := by rfl) (hpl : (backTo pos (starEach [] X.env)).any (·.1) = false := by rfl) :
    L2N.PMk X (.Call (.Name nm p) [a] [] pos) (tEv C ta) := by
  intro pins st sl H Q inv want
  refine wpAny_Call_Name_kw (ld_glob inv hg hm ?_ dbg)
  refine PySem.W.callWith_K (h₀ := X.base) inv.ok.mod.kin Z.kC (thn (ha.run pos pins st sl H _ inv want) fun us st1 got => ?_) hst hpl
  obtain ⟨vs, H1, inv1, rel, v, ev, q⟩ := got
  subst ev
  refine ⟨inv1.kIn, ?_⟩
  obtain ⟨u, rfl, rv⟩ := vals1 rel
  show wpAny _ _ (call (.ref C) [u]) _ _ _
  have lim := inv1.nolimit
  obtain ⟨hp, gn, dr, tk, os⟩ := st1
  refine wpAny_call (ev_made Z inv1.kIn lim (by have := room.dp; omega) fun h' tk' e d made => ?_)
  show L2N.MkP X pins sl Q (.ref e) ⟨h', gn, dr, tk', os⟩
  obtain ⟨oe, t1, hoe, ec, ed, edat⟩ := made.obj
  obtain ⟨G, g1, g2⟩ := restrict h' fun b => decide (b ≠ e)
  have same : ∀ b, b ≠ e → G.get? b = h'.get? b := fun b hb => g1 b (decide_eq_true hb)
  have gone : G.get? e = none := g2 e (by simp)
  have old : ∀ b o, hp.get? b = some o → G.get? b = some o := fun b o z => (same b (Nat.ne_of_lt (Nat.lt_of_lt_of_le (Heap.lt_size z) made.new))).trans (made.keep b o z)
  have ok : ObjOk X.prog X.w (upd H1 d (.xd [(("value" : Str), v)])) G d (.xd [(("value" : Str), v)]) := ⟨_, made.ns.at fun o z => (same d made.dne).trans z, fun y => relO_ev rv y⟩
  have inv2 : Inv X pins sl (upd H1 d (.xd [(("value" : Str), v)])) ⟨G, gn, dr, tk', os⟩ := inv1.laid (t' := tk') old made.dbig ok
  refine ⟨e, oe, _, ⟨G, gn, dr, tk', os⟩, _, .ref C, some d, rfl, inv2, fun b o z => ?_, gone, hoe, ⟨ec, ed, fun vs hv => ?_⟩, edat, rfl, ?_, rfl, inv1.bare, raises_own Z.exC Z.tyC, q d (inv1.hok.fresh made.dbig)⟩
  · by_cases hb : b = e
    · have z' : G.get? b = some o := z
      rw [hb, gone] at z'
      cases z'
    · exact (same b hb).symm.trans z
  · rw [edat] at hv
    cases hv
    rfl
  · rw [upd_ne (Ne.symm made.dne)]
    exact inv1.hok.fresh made.new
/-- raise C(e) -/
theorem ps_ev {nm : Str} {a : Expr} {ta : TA} {W : WX} {p pos pos2 : Pos} {k : Nat} (calm : X.calm = true) (Z : EvTxt X.K C fI qi) (hm : X.mg nm = some (.ref C)) (room : Room k X.A) (tk : L2N.Takes X W) (ha : PA X [a] ta) (hg : Gl X nm) (dbg : (nm == ("__debug__" : Str)) = false := by decide)
    (hst : starEach (a :: []) X.env = (false, eval a X.env) :: starEach [] X.env := by rfl) (hpl : (backTo pos (starEach [] X.env)).any (·.1) = false := by rfl) :
    PS X (.Raise (some (.Call (.Name nm p) [a] [] pos)) none pos2) (fun _ sl H => tEv C ta sl H fun cls d H' => W cls d sl H') := L2N.ps_raise calm tk (pmk_ev Z hm room ha hg dbg hst hpl)
end


/-! ### places of written sequences -/
section
variable {α : Type} {a0 a1 a2 a3 a4 a5 a6 a7 : α} {l : List α}
theorem at_0 : atI (a0 :: l) 0 = some a0 := by
  unfold atI ixN
  have h : (0 : Int) < (((a0 :: l).length : Nat) : Int) := by simp only [List.length_cons]; omega
  simp [h]
theorem atI_ofNat {xs : List α} {j : Nat} {v : α} (h : xs[j]? = some v) : atI xs (j : Int) = some v := by
  have hl : j < xs.length := (List.getElem?_eq_some_iff.mp h).1
  unfold atI ixN
  have h1 : ((j : Int) < ((xs.length : Nat) : Int)) := by omega
  simp [h1, h]
theorem at_1 : atI (a0 :: a1 :: l) 1 = some a1 := atI_ofNat (j := 1) rfl
theorem at_2 : atI (a0 :: a1 :: a2 :: l) 2 = some a2 := atI_ofNat (j := 2) rfl
theorem at_3 : atI (a0 :: a1 :: a2 :: a3 :: l) 3 = some a3 := atI_ofNat (j := 3) rfl
theorem at_4 : atI (a0 :: a1 :: a2 :: a3 :: a4 :: l) 4 = some a4 := atI_ofNat (j := 4) rfl
theorem at_5 : atI (a0 :: a1 :: a2 :: a3 :: a4 :: a5 :: l) 5 = some a5 := atI_ofNat (j := 5) rfl
theorem at_6 : atI (a0 :: a1 :: a2 :: a3 :: a4 :: a5 :: a6 :: l) 6 = some a6 := atI_ofNat (j := 6) rfl
theorem at_7 : atI (a0 :: a1 :: a2 :: a3 :: a4 :: a5 :: a6 :: a7 :: l) 7 = some a7 := atI_ofNat (j := 7) rfl
end
theorem ix_1_0 : ixN 1 0 = some 0 := by decide
theorem ix_2_0 : ixN 2 0 = some 0 := by decide
theorem ix_2_1 : ixN 2 1 = some 1 := by decide
theorem ix_3_0 : ixN 3 0 = some 0 := by decide
theorem ix_3_1 : ixN 3 1 = some 1 := by decide
theorem ix_3_2 : ixN 3 2 = some 2 := by decide
theorem ix_4_0 : ixN 4 0 = some 0 := by decide
theorem ix_4_1 : ixN 4 1 = some 1 := by decide
theorem ix_4_2 : ixN 4 2 = some 2 := by decide
theorem ix_4_3 : ixN 4 3 = some 3 := by decide
/-! ### the rest of the operators -/
section
variable {X : Cx} {E : XK} {e a b c : Expr} {es : List Expr} {pos : Pos} {ra rb rc : TR} {t : TRA}
theorem op_fdivP : OpR X (binaryOp .FloorDiv) (rI CDivP fun i j => .int (i / j)) := opI fun i j _ _ _ _ _ hc q => by
  have h1 : (0 : Int) < j := hc.1
  refine floordiv_int (by omega) ?_ (.inl hc.2)
  rw [Int.fdiv_eq_ediv_of_nonneg i (by omega)]
  exact q
def rNeg (ra : TR) : TR := fun σ S R RE => ra σ S (fun x S1 => ∃ i, x = .int i ∧ R (.int (-i)) S1) RE
theorem et_neg (ha : ET X E a ra) : ET X E (.UnaryOp .USub a pos) (rNeg ra) :=
  ⟨pe_weak (pe_un un_neg ha.pe) fun sl H Q h => UpE.one (k := fun σ x S1 R RE => ∃ i, x = .int i ∧ R (.int (-i)) S1) h fun Z σ x S1 v H1 R RE fr ok rx kk po xo => by
    obtain ⟨i, rfl, kk⟩ := kk
    cases rx
    exact ⟨i, rfl, po _ S1 _ H1 kk .refl ok (.int _)⟩⟩
/-! in, not in -/
def flatT : T → Bool
  | .non => true
  | .bl _ => true
  | .int _ => true
  | .str _ => true
  | _ => false
def eqT : T → T → Bool
  | .non, .non => true
  | .bl a, .bl b => a == b
  | .bl a, .int b => (if a then 1 else 0) == b
  | .int a, .bl b => a == (if b then 1 else 0)
  | .int a, .int b => a == b
  | .str a, .str b => a == b
  | _, _ => false
def inT (x : T) (l : List T) : Bool := l.any fun y => eqT y x
theorem flat_rep {K : PySem.W.Frag} {Z : Addr → Prop} {S : Store} {H : Hp} {v : V} {x : T} (r : Rep K Z S H v x) : flatT x = true → flatV v = true := by
  cases r <;> intro h <;> first | rfl | (cases h; done)
theorem eq_rep {K : PySem.W.Frag} {Z : Addr → Prop} {S : Store} {H : Hp} {v u : V} {x y : T} (r : Rep K Z S H v x) (q : Rep K Z S H u y) (fx : flatT x = true) (fy : flatT y = true) : eqV v u = eqT x y := by
  cases r <;> cases q <;> first | rfl | (cases fx; done) | (cases fy; done)
theorem in_rep {K : PySem.W.Frag} {Z : Addr → Prop} {S : Store} {H : Hp} {v : V} {x : T} (rx : Rep K Z S H v x) (fx : flatT x = true) : ∀ {vs : List V} {l : List T}, Reps K Z S H vs l → l.all flatT = true → vs.all flatV = true ∧ inV v vs = inT x l
  | _, _, .nil, _ => ⟨rfl, rfl⟩
  | _, _, .cons r rr, f => by
    rw [List.all_cons, Bool.and_eq_true] at f
    obtain ⟨a, b⟩ := in_rep rx fx rr f.2
    refine ⟨by rw [List.all_cons, flat_rep r f.1, a]; rfl, ?_⟩
    unfold inV inT at b ⊢
    rw [List.any_cons, List.any_cons, eq_rep r rx f.1 fx, b]
def kIn (ng : Bool) : KB := fun x y S R _ => ∃ l, seqOf y = some l ∧ flatT x = true ∧ l.all flatT = true ∧ R (.bl (ng ^^ inT x l)) S
theorem cv_inX (ng : Bool) : Conv X.K E (kIn ng) (rIn X.K ng) := by
  intro Z x y S v u H R RE Q ok rx ry ⟨l, hl, fx, fl, k⟩ po xo
  have fv := flat_rep rx fx
  have fin : ∀ {vs : List V}, Reps X.K Z S H vs l → vs.all flatV = true ∧ Q (.bl (if ng then !inV v vs else inV v vs)) H := fun r => by
    obtain ⟨a, b⟩ := in_rep rx fx r fl
    refine ⟨a, ?_⟩
    rw [b]
    refine po _ _ _ _ k .refl ok ?_
    cases ng <;> simp <;> exact .bl _
  cases ry <;> try (cases hl; done)
  · rename_i h r
    cases hl
    exact ⟨_, _, rfl, .inr h.sq, fv, (fin r).1, (fin r).2⟩
  · rename_i h r
    cases hl
    exact ⟨_, _, rfl, .inl h.sq, fv, (fin r).1, (fin r).2⟩
  · rename_i h r
    cases hl
    exact ⟨_, _, rfl, .inl h.sq, fv, (fin r).1, (fin r).2⟩
theorem cv_in : Conv X.K E (kIn false) (rIn X.K false) := cv_inX false
theorem cv_notin : Conv X.K E (kIn true) (rIn X.K true) := cv_inX true
theorem op_inG : OpR X (compareOp .In) (rIn X.K false) := op_in_seq
theorem op_notinG : OpR X (compareOp .NotIn) (rIn X.K true) := op_notIn_seq
/-! raise C(e) -/
def sRaise (C : Addr) (t : TRA) : TRS := fun D σ S => t σ S (fun xs S1 => ∃ x, xs = [x] ∧ D.ex C [("value", x)] S1) D.ex
theorem ss_raise {C fI : Addr} {qi nm : Str} {p pos2 : Pos} {k : Nat} (Zt : EvTxt X.K C fI qi) (calm : X.calm = true) (hm : X.mg nm = some (.ref C)) (room : Room k X.A) (tk : L2N.Takes X (fun cls d _ H => E cls d H)) (ha : AT X E [a] t) (hg : Gl X nm := by rfl) (dbg : (nm == ("__debug__" : Str)) = false := by decide)
    (hst : starEach (a :: []) X.env = (false, eval a X.env) :: starEach [] X.env := by rfl) (hpl : (backTo pos (starEach [] X.env)).any (·.1) = false := by rfl) : SS X E (.Raise (some (.Call (.Name nm p) [a] [] pos)) none pos2) (sRaise C t) :=
  ⟨ps_weak (ps_ev calm Zt hm room tk ha.pa hg dbg hst hpl) fun D sl H h => by
    obtain ⟨Z, σ, S, DT, fr, ok, w, eo, xo⟩ := h.ex
    refine ⟨Z, σ, S, _, DT.ex, fr, ok, w, fun xs S1 vs H1 k le ok1 rs => ?_, xo⟩
    obtain ⟨x, rfl, k⟩ := k
    cases rs with
    | cons r rr =>
      cases rr
      exact ⟨_, rfl, fun d hd => xo C _ S1 (some d) _ _ k (le.trans (le_new hd)) (ok1.new hd) upd_same (.cons (r.le (le_new hd)) .nil)⟩⟩
end
/-! ### how arguments come -/
structure CallD (K : PySem.W.Frag) (fd : FuncData) (ps : List Str) (dts : List T) : Prop where
  ex : ∃ (ds : List Value) (dvs : List V), Binds K fd ps ds ∧ Vals dvs ds ∧ DefT K dvs dts
theorem CallD.all {K : PySem.W.Frag} {fd : FuncData} {ps : List Str} (b : Binds K fd ps []) : CallD K fd ps [] := ⟨[], [], b, .nil, .nil⟩
/-- k keywords behind n values -/
structure CallB (K : PySem.W.Frag) (fd : FuncData) (ps : List Str) (n : Nat) (ks : List Str) (gT : List T → List T → List T) : Prop where
  ex : ∃ (g : List Value → List Value → List Value) (gV : List V → List V → List V), KBn K fd ps n ks g gV ∧ OrdT K gV gT
def selG {α : Type} (w : Nat) (us its ws : List α) : List α := match w with
  | 0 => us
  | 1 => its
  | _ => ws
def pickG {α : Type} : List (Nat × Nat) → List α → List α → List α → List α
  | [], _, _, _ => []
  | (w, i) :: pk, us, its, ws => match (selG w us its ws)[i]? with
    | some x => x :: pickG pk us its ws
    | none => pickG pk us its ws
theorem valsAt {vs : List V} {us : List Value} (r : Vals vs us) (i : Nat) : (vs[i]? = none ∧ us[i]? = none) ∨ ∃ v u, vs[i]? = some v ∧ us[i]? = some u ∧ RelV v u := by
  induction r generalizing i with
  | nil => exact .inl ⟨rfl, rfl⟩
  | cons a r ih =>
    cases i with
    | zero => exact .inr ⟨_, _, rfl, rfl, a⟩
    | succ i => exact ih i
theorem repsAt {K : PySem.W.Frag} {Z : Addr → Prop} {S : Store} {H : Hp} {vs : List V} {us : List T} (r : Reps K Z S H vs us) (i : Nat) : (vs[i]? = none ∧ us[i]? = none) ∨ ∃ v u, vs[i]? = some v ∧ us[i]? = some u ∧ Rep K Z S H v u := by
  induction us generalizing vs i with
  | nil => cases r; exact .inl ⟨rfl, rfl⟩
  | cons u us ih =>
    cases r with
    | cons a r =>
      cases i with
      | zero => exact .inr ⟨_, _, rfl, rfl, a⟩
      | succ i => exact ih r i
theorem pick_vals {vs ds zs : List V} {us its ws : List Value} (r1 : Vals vs us) (r2 : Vals ds its) (r3 : Vals zs ws) : ∀ pk, Vals (pickG pk vs ds zs) (pickG pk us its ws)
  | [] => .nil
  | (w, i) :: pk => by
    have ih := pick_vals r1 r2 r3 pk
    have r : Vals (selG w vs ds zs) (selG w us its ws) := by
      match w with
      | 0 => exact r1
      | 1 => exact r2
      | _ + 2 => exact r3
    unfold pickG
    rcases valsAt r i with ⟨h1, h2⟩ | ⟨v, u, h1, h2, rv⟩
    · rw [h1, h2]; exact ih
    · rw [h1, h2]; exact .cons rv ih
theorem pick_reps {K : PySem.W.Frag} {Z : Addr → Prop} {S : Store} {H : Hp} {vs ds zs : List V} {us its ws : List T} (r1 : Reps K Z S H vs us) (r2 : Reps K Z S H ds its) (r3 : Reps K Z S H zs ws) : ∀ pk, Reps K Z S H (pickG pk vs ds zs) (pickG pk us its ws)
  | [] => .nil
  | (w, i) :: pk => by
    have ih := pick_reps r1 r2 r3 pk
    have r : Reps K Z S H (selG w vs ds zs) (selG w us its ws) := by
      match w with
      | 0 => exact r1
      | 1 => exact r2
      | _ + 2 => exact r3
    unfold pickG
    rcases repsAt r i with ⟨h1, h2⟩ | ⟨v, u, h1, h2, rv⟩
    · rw [h1, h2]; exact ih
    · rw [h1, h2]; exact .cons rv ih
theorem pick_ord {K : PySem.W.Frag} {dvs : List V} {dts : List T} (d : DefT K dvs dts) (pk : List (Nat × Nat)) : OrdT K (fun vs zs => pickG pk vs dvs zs) (fun ts zs => pickG pk ts dts zs) :=
  fun Z S H _ _ _ _ r1 r3 => pick_reps r1 (d Z S H) r3 pk
section
variable {X : Cx} {E : XK} {k n : Nat} {f : Addr} {fd : FuncData} {ps ks : List Str} {sp : SpT} {dts : List T} {x : Str} {p pos : Pos} {e : Expr} {es : List Expr} {kws : List Keyword} {t tk : TRA} {gT : List T → List T → List T}
theorem et_callD (F : FnT X.prog X.w X.K X.mg X.base k f fd ps sp) (gds : X.A.guards = some []) (hr : Room k X.A) (hg : Gl X x) (hm : X.mg x = some (.ref f)) (hk : PySem.W.keepIn X.K (.ref f) = true) (cd : CallD X.K fd ps dts) (hx : Passes (L2N.CX X.prog X.w) X E)
    (ha : AT X E (e :: es) t) (hdb : (x == ("__debug__" : Str)) = false := by decide) (he : starEach (e :: es) X.env = (false, eval e X.env) :: starEach es X.env := by rfl) (hpl : (backTo pos (starEach es X.env)).any (·.1) = false := by rfl) :
    ET X E (.Call (.Name x p) (e :: es) [] pos) (rCall sp dts t) := by
  obtain ⟨ds, dvs, hb, hd, hdt⟩ := cd.ex
  exact et_call F gds hr hg hm hk hb hd hdt hx ha hdb he hpl
theorem et_call0D (F : FnT X.prog X.w X.K X.mg X.base k f fd ps sp) (gds : X.A.guards = some []) (hr : Room k X.A) (hg : Gl X x) (hm : X.mg x = some (.ref f)) (hk : PySem.W.keepIn X.K (.ref f) = true) (cd : CallD X.K fd ps dts) (hx : Passes (L2N.CX X.prog X.w) X E)
    (hdb : (x == ("__debug__" : Str)) = false := by decide) : ET X E (.Call (.Name x p) [] [] pos) (rCall sp dts aNil) := by
  obtain ⟨ds, dvs, hb, hd, hdt⟩ := cd.ex
  exact et_call0 F gds hr hg hm hk hb hd hdt hx hdb
theorem et_callNB (F : FnT X.prog X.w X.K X.mg X.base k f fd ps sp) (gds : X.A.guards = some []) (hr : Room k X.A) (hg : Gl X x) (hm : X.mg x = some (.ref f)) (hk : PySem.W.keepIn X.K (.ref f) = true) (cb : CallB X.K fd ps n ks gT) (hx : Passes (L2N.CX X.prog X.w) X E)
    (ha : AT X E (e :: es) t) (hkw : KT X E kws tk) (hall : (backToKw pos (keywordEach kws X.env)).all (·.1.isSome) = true := by rfl) (hks : (backToKw pos (keywordEach kws X.env)).filterMap (·.1) = ks := by rfl)
    (hdb : (x == ("__debug__" : Str)) = false := by decide) (he : starEach (e :: es) X.env = (false, eval e X.env) :: starEach es X.env := by rfl)
    (hpl : ((backTo pos (starEach (e :: es) X.env)).any (·.1) || (backToKw pos (keywordEach kws X.env)).any (·.1.isNone)) = false := by rfl) :
    ET X E (.Call (.Name x p) (e :: es) kws pos) (rCallN n ks.length sp gT t tk) := by
  obtain ⟨g, gV, hb, ho⟩ := cb.ex
  exact et_callN F gds hr hg hm hk hb ho hx ha hkw hall hks hdb he hpl
theorem et_callKB (F : FnT X.prog X.w X.K X.mg X.base k f fd ps sp) (gds : X.A.guards = some []) (hr : Room k X.A) (hg : Gl X x) (hm : X.mg x = some (.ref f)) (hk : PySem.W.keepIn X.K (.ref f) = true) (cb : CallB X.K fd ps 0 ks gT) (hx : Passes (L2N.CX X.prog X.w) X E)
    (hkw : KT X E kws tk) (hall : (backToKw pos (keywordEach kws X.env)).all (·.1.isSome) = true := by rfl) (hks : (backToKw pos (keywordEach kws X.env)).filterMap (·.1) = ks := by rfl)
    (hdb : (x == ("__debug__" : Str)) = false := by decide)
    (hpl : ((backTo pos (starEach [] X.env)).any (·.1) || (backToKw pos (keywordEach kws X.env)).any (·.1.isNone)) = false := by rfl) :
    ET X E (.Call (.Name x p) [] kws pos) (rCallN 0 ks.length sp gT aNil tk) := by
  obtain ⟨g, gV, hb, ho⟩ := cb.ex
  exact et_callK F gds hr hg hm hk hb ho hx hkw hall hks hdb hpl
end

/-! ### instances -/
def insOf : T → Store → Option (Addr × List (Str × T))
  | .ins C gs, _ => some (C, gs)
  | .cell a, S => match S a with
    | some (.ins C gs) => some (C, gs)
    | _ => none
  | _, _ => none
def putT (f : Str) (t : T) : List (Str × T) → List (Str × T)
  | [] => [(f, t)]
  | (g, x) :: r => if g = f then (g, t) :: r else (g, x) :: putT f t r
section
variable {K : PySem.W.Frag} {Z : Addr → Prop} {S S1 : Store} {H H1 : Hp}
theorem ins_rep {v : V} {x : T} {C : Addr} {gs : List (Str × T)} (ok : Ok K Z S H) (r : Rep K Z S H v x) (h : insOf x S = some (C, gs)) : ∃ a dx fs, v = .ref a ∧ H a = some (.ins C dx fs) ∧ RepF K Z S H fs gs := by
  cases r <;> try (cases h; done)
  · rename_i a
    have c := ok.cl a
    simp only [insOf] at h
    split at h
    · rename_i C' gs' e
      cases h
      rw [e] at c
      obtain ⟨dx, fs, q, rf⟩ := c
      exact ⟨a, dx, fs, rfl, q, rf⟩
    · cases h
  · rename_i p C' dx fs gs' h1 n rf
    cases h
    exact ⟨p, dx, fs, rfl, h1, rf⟩
theorem RepF.put {fs : List (Str × V)} {gs : List (Str × T)} {f : Str} {v : V} {t : T} (r : RepF K Z S H fs gs) (h : Rep K Z S H v t) : RepF K Z S H (putF f v fs) (putT f t gs) := by
  induction gs generalizing fs with
  | nil => cases r; exact .cons h .nil
  | cons g gs ih =>
    cases r with
    | @cons n w u vs ts q r =>
      unfold putF putT
      by_cases e : n = f
      · rw [if_pos e, if_pos e]; exact .cons h r
      · rw [if_neg e, if_neg e]; exact .cons q (ih r)
end
/-- what the class at C says of an attribute of its instances -/
structure InF (K : PySem.W.Frag) (C : Addr) (f : Str) : Prop where
  cl : Cls K C
  na : NoAttr K C f
/-- .. of a constant of its own -/
structure InC (K : PySem.W.Frag) (C : Addr) (f : Str) (t : T) : Prop where
  cl : Cls K C
  ex : ∃ v u, Con K C f v u ∧ ∀ Z S H, Rep K Z S H v t
section
variable {X : Cx} {E : XK} {a e o : Expr} {es : List Expr} {pos apos cpos : Pos} {ra rb : TR} {t tk : TRA} {f m : Str} {C : Addr}
def rFld (K : PySem.W.Frag) (f : Str) (ra : TR) : TR := fun σ S R RE => ra σ S (fun x S1 => ∃ C gs t, insOf x S1 = some (C, gs) ∧ InF K C f ∧ gs.lookup f = some t ∧ R t S1) RE
theorem et_fld (ha : ET X E a ra) (hb : attributeBase a f X.env (eval a X.env) = eval a X.env := by rfl) : ET X E (.Attribute a f pos) (rFld X.K f ra) :=
  ⟨pe_weak (pe_fld ha.pe hb) fun sl H Q h => UpE.one (k := fun σ x S1 R RE => ∃ C gs t, insOf x S1 = some (C, gs) ∧ InF X.K C f ∧ gs.lookup f = some t ∧ R t S1) h fun Z σ x S1 v H1 R RE fr ok rx kk po xo => by
    obtain ⟨C, gs, t, hi, nf, hl, k⟩ := kk
    obtain ⟨b, dx, fs, rfl, hH, rf⟩ := ins_rep ok rx hi
    obtain ⟨u, hu, ru⟩ := rf.look hl
    exact ⟨b, C, dx, fs, u, rfl, hH, nf.cl, nf.na, hu, po _ _ _ _ k .refl ok ru⟩⟩
def rCon (K : PySem.W.Frag) (f : Str) (ra : TR) : TR := fun σ S R RE => ra σ S (fun x S1 => ∃ C gs t, insOf x S1 = some (C, gs) ∧ InC K C f t ∧ gs.lookup f = none ∧ R t S1) RE
theorem et_con (ha : ET X E a ra) (hb : attributeBase a f X.env (eval a X.env) = eval a X.env := by rfl) : ET X E (.Attribute a f pos) (rCon X.K f ra) :=
  ⟨pe_weak (pe_con ha.pe hb) fun sl H Q h => UpE.one (k := fun σ x S1 R RE => ∃ C gs t, insOf x S1 = some (C, gs) ∧ InC X.K C f t ∧ gs.lookup f = none ∧ R t S1) h fun Z σ x S1 v H1 R RE fr ok rx kk po xo => by
    obtain ⟨C, gs, t, hi, ⟨cl, w, u, cn, rp⟩, hl, k⟩ := kk
    obtain ⟨b, dx, fs, rfl, hH, rf⟩ := ins_rep ok rx hi
    exact ⟨b, C, dx, fs, w, u, rfl, hH, cl, cn, rf.lookN hl, po _ _ _ _ k .refl ok (rp _ _ _)⟩⟩
/-- C.f, f a constant of the class -/
theorem et_cval {mc u : Value} {v : V} {x : Str} {p : Pos} {tt : T} (r : ClX.CRead X.K C mc) (k : ClX.CVal X.K C mc f v u) (rep : ∀ Z S H, Rep X.K Z S H v tt) (hg : Gl X x) (hm : X.mg x = some (.ref C)) (hd : (x == ("__debug__" : Str)) = false := by decide)
    (hb : attributeBase (.Name x p) f X.env (eval (.Name x p) X.env) = eval (.Name x p) X.env := by rfl) : ET X E (.Attribute (.Name x p) f pos) (rC tt) :=
  ⟨pe_weak (ClX.pe_cval (pe_glob (v := .ref C) hg hm rfl hd) hb) fun sl H Q ⟨⟨Z, σ, S, R, RE, fr, ok, w, po, xo⟩⟩ => ⟨C, mc, v, u, rfl, r, k, po _ _ _ _ w .refl ok (rep _ _ _)⟩⟩
/-- o.f = e -/
def sFldT (K : PySem.W.Frag) (f : Str) (rv ra : TR) : TRS := fun D σ S => rv σ S (fun y S1 => ra σ S1 (fun x S2 => ∃ a C gs, x = .cell a ∧ S2 a = some (.ins C gs) ∧ InF K C f ∧ gs.length < 1000 ∧ D.nx σ (S2.put a (.ins C (putT f y gs)))) D.ex) D.ex
theorem ss_fld (ha : ET X E o ra) (hv : ET X E e rb) (hs : swapsWith e (some (.Attribute o f apos)) pos.line X.env = pure false := by rfl) : SS X E (.Assign [.Attribute o f apos] e pos) (sFldT X.K f rb ra) :=
  ⟨ps_weak (ps_fld ha.pe hv.pe hs) fun D sl H h => by
    obtain ⟨Z, σ, S, DT, fr, ok, w, eo, xo⟩ := h.ex
    refine ⟨Z, σ, S, _, DT.ex, fr, ok, w, fun y S1 v H1 k1 le1 ok1 ry => ?_, xo⟩
    refine ⟨Z, σ, S1, _, DT.ex, fr.le le1, ok1, k1, fun x S2 u H2 k2 le2 ok2 rx => ?_, xo.le le1⟩
    obtain ⟨b, C, gs, rfl, hs, nf, hl, k⟩ := k2
    cases rx
    have c := ok2.cl b
    rw [hs] at c
    obtain ⟨dx, fs, hH, rf⟩ := c
    have l3 : Le S2 H2 (S2.put b (.ins C (putT f y gs))) (upd H2 b (.ins C dx (putF f v fs))) := le_setc hs
    exact ⟨b, C, dx, fs, rfl, hH, nf.cl, nf.na, by rw [rf.length]; exact hl, eo.nx _ _ _ _ k ((le1.trans le2).trans l3) (ok2.put l3 (ok2.nzc hs) ⟨dx, _, upd_same, (rf.put (ry.le le2)).le l3⟩) (((fr.le le1).le le2).le l3)⟩⟩
end
/-! ### calls -/
section
variable {X : Cx} {E : XK} {k n : Nat} {f C : Addr} {fd : FuncData} {ps ks : List Str} {sp : SpT} {dts : List T} {x m : Str} {p pos apos : Pos} {e o : Expr} {es : List Expr} {kws : List Keyword} {t tk : TRA} {ra : TR} {gT : List T → List T → List T}
theorem goT {pins : List (Addr × Obj)} {sl : L2.St} {H : Hp} {s : Shared} {Q : VK} {us0 us : List Value} {kw : List (Str × Value)} {vs : List V} (F : FnT X.prog X.w X.K X.mg X.base k f fd ps sp) (gds : X.A.guards = some []) (hr : Room k X.A) (hx : Passes (L2N.CX X.prog X.w) X E)
    (inv : Inv X pins sl H s) (b : BindsTo s fd ⟨us0, kw⟩ (ps.zip us)) (r : Vals vs us) (want : UpF X.K sp vs H Q E) : wpAny (model X.prog X.w) X.A (call (.ref f) us0 kw) (EP X pins sl Q) X.xe s := goG F.fn gds hr hx inv b r want
/-- what a new instance is made by: its __init__ -/
theorem make_t {pins : List (Addr × Obj)} {sl : L2.St} {H : Hp} {s : Shared} {Q : VK} {us : List Value} {kw : List (Str × Value)} {all : Addr → List Value} {vsA : Addr → List V} {G : Addr → List T} {Z : Addr → Prop} {S : Store} {R : T → Store → Prop} {RE : XT}
    (M : Mk X.K C f) (F : FnT X.prog X.w X.K X.mg X.base k f fd ps sp) (gds : X.A.guards = some []) (hr : Room (k + 1) X.A) (hx : Passes (L2N.CX X.prog X.w) X E) (inv : Inv X pins sl H s)
    (b : ∀ (s' : Shared) (u : Addr), X.K.In s'.heap → (all u).length = ps.length → BindsTo s' fd ⟨.ref u :: us, kw⟩ (ps.zip (all u))) (r : ∀ u, Vals (vsA u) (all u)) (ok : Ok X.K Z S H)
    (rp : ∀ u S' H', Le S H S' H' → Reps X.K Z S' H' (vsA u) (G u))
    (want : ∀ u, S u = none → sp (G u) (S.put u (.ins C [])) (fun z S2 => z = .non ∧ ∃ gs, S2 u = some (.ins C gs) ∧ R (.ins C gs) (S2.drop u)) RE) (po : PO X.K Z S H R Q) (xo : XOk X.K Z S H RE E) :
    wpAny (model X.prog X.w) X.A (call (.ref C) us kw) (EP X pins sl Q) X.xe s := by
  have nx : H (s.heap.objs.size + 1) = none := inv.hok.fresh (Nat.le_succ _)
  have nd : H s.heap.objs.size = none := inv.hok.fresh (Nat.le_refl _)
  have ne : s.heap.objs.size + 1 ≠ s.heap.objs.size := Nat.succ_ne_self _
  have I2 := Inv.made (C := C) inv
  have ok1 : Ok X.K Z S (upd H s.heap.objs.size (.own (s.heap.objs.size + 1))) := ok.new nd
  have nx1 : upd H s.heap.objs.size (.own (s.heap.objs.size + 1)) (s.heap.objs.size + 1) = none := by rw [upd_ne ne]; exact nx
  have l2 : Le S (upd H s.heap.objs.size (.own (s.heap.objs.size + 1))) (S.put (s.heap.objs.size + 1) (.ins C [])) (upd (upd H s.heap.objs.size (.own (s.heap.objs.size + 1))) (s.heap.objs.size + 1) (.ins C s.heap.objs.size [])) := le_newc nx1
  have ok2 : Ok X.K Z (S.put (s.heap.objs.size + 1) (.ins C [])) (upd (upd H s.heap.objs.size (.own (s.heap.objs.size + 1))) (s.heap.objs.size + 1) (.ins C s.heap.objs.size [])) := ok1.put l2 (ok1.nz nx1) ⟨_, [], upd_same, .nil⟩
  have le : Le S H (S.put (s.heap.objs.size + 1) (.ins C [])) (upd (upd H s.heap.objs.size (.own (s.heap.objs.size + 1))) (s.heap.objs.size + 1) (.ins C s.heap.objs.size [])) := (le_new nd).trans l2
  have up : UpF X.K sp (vsA (s.heap.objs.size + 1)) (upd (upd H s.heap.objs.size (.own (s.heap.objs.size + 1))) (s.heap.objs.size + 1) (.ins C s.heap.objs.size [])) (fun v H2 => v = .non ∧ Q (.ref (s.heap.objs.size + 1)) H2) E := by
    refine ⟨Z, G _, _, _, RE, rp _ _ _ le, ok2, want _ (ok.free nx), fun z S3 v H3 w l3 ok3 rep => ?_, xo.le le⟩
    obtain ⟨rfl, gs, hs, w⟩ := w
    cases rep
    exact ⟨rfl, po _ _ _ _ w ((le.trans l3).trans le_drop) ok3.drop (.frzI ok3 hs)⟩
  refine wpAny_call (make_map (f := f) inv.kIn M.makes M.init (beq_iff_eq.mp M.fn) (codeAny_mono (F.fn.go _ X.stack _ _ ⟨Value.ref (s.heap.objs.size + 1) :: us, kw⟩ _ _ _ E (by first | exact gds | simpa [Around.under] using gds) (hr.make C us kw) (I2.env0.make C us kw) (b _ _ I2.kIn ((r _).length.symm.trans (F.fn.len _ _ _ _ up))) (r _) up) fun q s' hq => ?_))
  cases q with
  | error er => exact hx pins sl _ _ er s' I2 hq
  | ok fl =>
    cases fl with
    | ret u =>
      obtain ⟨v, H', I3, rv, rfl, q3⟩ := I2.after hq
      exact ⟨rv, V.ref (s.heap.objs.size + 1), H', I3, rfl, q3⟩
    | next => exact hq.elim
    | brk => exact hq.elim
    | cont => exact hq.elim
def rMake (C : Addr) (sp : SpT) (dts : List T) (t : TRA) : TR := fun σ S R RE => t σ S (fun xs S1 => ∀ u, S1 u = none → sp (.cell u :: (xs ++ dts)) (S1.put u (.ins C [])) (fun z S2 => z = .non ∧ ∃ gs, S2 u = some (.ins C gs) ∧ R (.ins C gs) (S2.drop u)) RE) RE
theorem cell_reps {K : PySem.W.Frag} {Z : Addr → Prop} {S : Store} {H : Hp} {u : Addr} {vs : List V} {ts : List T} (r : Reps K Z S H vs ts) : Reps K Z S H (.ref u :: vs) (.cell u :: ts) := .cons (.cell u) r
theorem et_make (M : Mk X.K C f) (F : FnT X.prog X.w X.K X.mg X.base k f fd ps sp) (gds : X.A.guards = some []) (hr : Room (k + 1) X.A) (hg : Gl X x) (hm : X.mg x = some (.ref C)) (cd : CallD X.K fd ps dts) (hx : Passes (L2N.CX X.prog X.w) X E)
    (ha : AT X E (e :: es) t) (hdb : (x == ("__debug__" : Str)) = false := by decide) (he : starEach (e :: es) X.env = (false, eval e X.env) :: starEach es X.env := by rfl) (hpl : (backTo pos (starEach es X.env)).any (·.1) = false := by rfl) :
    ET X E (.Call (.Name x p) (e :: es) [] pos) (rMake C sp dts t) := by
  refine ⟨⟨fun pins s sl H Q I h => ?_⟩⟩
  obtain ⟨Z, σ, S, R, RE, fr, ok, w, po, xo⟩ := h.ex
  obtain ⟨ds, dvs, hb, hd, hdt⟩ := cd.ex
  refine wpAny_Call_Name_kw (ld_glob I hg hm ?_ hdb)
  refine PySem.W.callWith_K (h₀ := X.base) I.ok.mod.kin M.kp (thn (ha.pa.run pos pins s sl H (fun vs H1 => ∃ xs S1, (∀ u, S1 u = none → sp (.cell u :: (xs ++ dts)) (S1.put u (.ins C [])) (fun z S2 => z = .non ∧ ∃ gs, S2 u = some (.ins C gs) ∧ R (.ins C gs) (S2.drop u)) RE) ∧ Le S H S1 H1 ∧ Ok X.K Z S1 H1 ∧ Reps X.K Z S1 H1 vs xs) I
    ⟨Z, σ, S, _, RE, fr, ok, w, fun xs S1 vs H1 k1 l1 o1 r1 => ⟨xs, S1, k1, l1, o1, r1⟩, xo⟩) fun us s1 hu => ?_) he hpl
  obtain ⟨vs, H1, I1, rv, xs, S1, k1, l1, o1, r1⟩ := hu
  refine ⟨I1.kIn, ?_⟩
  exact make_t (us := us) (kw := []) (all := fun u => (Value.ref u :: us) ++ ds) (vsA := fun u => .ref u :: (vs ++ dvs)) (G := fun u => .cell u :: (xs ++ dts)) M F gds hr hx I1 (fun s' u hK hl => hb s' (.ref u :: us) hK hl) (fun u => .cons rfl (rv.append hd)) o1
    (fun u S' H' l => cell_reps ((r1.le l).append (hdt _ _ _))) k1 (po.le l1) (xo.le l1)
theorem et_make0 (M : Mk X.K C f) (F : FnT X.prog X.w X.K X.mg X.base k f fd ps sp) (gds : X.A.guards = some []) (hr : Room (k + 1) X.A) (hg : Gl X x) (hm : X.mg x = some (.ref C)) (cd : CallD X.K fd ps dts) (hx : Passes (L2N.CX X.prog X.w) X E)
    (hdb : (x == ("__debug__" : Str)) = false := by decide) : ET X E (.Call (.Name x p) [] [] pos) (rMake C sp dts aNil) := by
  refine ⟨⟨fun pins s sl H Q I h => ?_⟩⟩
  obtain ⟨Z, σ, S, R, RE, fr, ok, w, po, xo⟩ := h.ex
  obtain ⟨ds, dvs, hb, hd, hdt⟩ := cd.ex
  refine wpAny_Call_Name_kw (ld_glob I hg hm ?_ hdb)
  refine PySem.W.callWith_K0 I.kIn M.kp ?_
  exact make_t (us := []) (kw := []) (all := fun u => [Value.ref u] ++ ds) (vsA := fun u => .ref u :: ([] ++ dvs)) (G := fun u => .cell u :: ([] ++ dts)) M F gds hr hx I (fun s' u hK hl => hb s' [.ref u] hK hl) (fun u => .cons rfl hd) ok
    (fun u S' H' l => cell_reps (hdt _ _ _)) w po xo
/-- with keywords; gT puts the new one and the values in order -/
def rMakeN (C : Addr) (n m : Nat) (sp : SpT) (gT : List T → List T → List T) (t tk : TRA) : TR := fun σ S R RE => t σ S (fun xs S1 => tk σ S1 (fun zs S2 => xs.length = n ∧ zs.length = m ∧
  ∀ u, S2 u = none → sp (gT (.cell u :: xs) zs) (S2.put u (.ins C [])) (fun z S3 => z = .non ∧ ∃ gs, S3 u = some (.ins C gs) ∧ R (.ins C gs) (S3.drop u)) RE) RE) RE
theorem et_makeN (M : Mk X.K C f) (F : FnT X.prog X.w X.K X.mg X.base k f fd ps sp) (gds : X.A.guards = some []) (hr : Room (k + 1) X.A) (hg : Gl X x) (hm : X.mg x = some (.ref C)) (cb : CallB X.K fd ps (n + 1) ks gT) (hx : Passes (L2N.CX X.prog X.w) X E)
    (ha : AT X E (e :: es) t) (hkw : KT X E kws tk) (hall : (backToKw pos (keywordEach kws X.env)).all (·.1.isSome) = true := by rfl) (hks : (backToKw pos (keywordEach kws X.env)).filterMap (·.1) = ks := by rfl)
    (hdb : (x == ("__debug__" : Str)) = false := by decide) (he : starEach (e :: es) X.env = (false, eval e X.env) :: starEach es X.env := by rfl)
    (hpl : ((backTo pos (starEach (e :: es) X.env)).any (·.1) || (backToKw pos (keywordEach kws X.env)).any (·.1.isNone)) = false := by rfl) :
    ET X E (.Call (.Name x p) (e :: es) kws pos) (rMakeN C n ks.length sp gT t tk) := by
  refine ⟨⟨fun pins s sl H Q I h => ?_⟩⟩
  obtain ⟨Z, σ, S, R, RE, fr, ok, w, po, xo⟩ := h.ex
  obtain ⟨g, gV, hb, ho⟩ := cb.ex
  refine wpAny_Call_Name_kw (ld_glob I hg hm ?_ hdb)
  refine PySem.W.callWith_KW (h₀ := X.base) I.ok.mod.kin M.kp hall (thn (ha.pa.run pos pins s sl H (fun vs H1 => ∃ xs S1, tk σ S1 _ RE ∧ Le S H S1 H1 ∧ Ok X.K Z S1 H1 ∧ Reps X.K Z S1 H1 vs xs) I
    ⟨Z, σ, S, _, RE, fr, ok, w, fun xs S1 vs H1 k1 l1 o1 r1 => ⟨xs, S1, k1, l1, o1, r1⟩, xo⟩) fun us s1 hu => ?_) hpl he
  obtain ⟨vs, H1, I1, rv, xs, S1, k1, l1, o1, r1⟩ := hu
  refine thn (hkw.pk.run pos pins s1 sl H1 (fun zvs H2 => ∃ zs S2, (xs.length = n ∧ zs.length = ks.length ∧
    ∀ u, S2 u = none → sp (gT (.cell u :: xs) zs) (S2.put u (.ins C [])) (fun z S3 => z = .non ∧ ∃ gs, S3 u = some (.ins C gs) ∧ R (.ins C gs) (S3.drop u)) RE) ∧ Le S1 H1 S2 H2 ∧ Ok X.K Z S2 H2 ∧ Reps X.K Z S2 H2 zvs zs) I1
    ⟨Z, σ, S1, _, RE, fr.le l1, o1, k1, fun zs S2 zvs H2 k2 l2 o2 r2 => ⟨zs, S2, k2, l2, o2, r2⟩, xo.le l1⟩) fun ws s2 hu => ?_
  obtain ⟨zvs, H2, I2, rz, zs, S2, ⟨e1, e2, k2⟩, l2, o2, r2⟩ := hu
  refine ⟨I2.kIn, ?_⟩
  rw [hks]
  have lu : us.length = n := (rv.length.symm.trans r1.length).trans e1
  have lw : ws.length = ks.length := (rz.length.symm.trans r2.length).trans e2
  exact make_t (us := us) (kw := ks.zip ws) (all := fun u => g (Value.ref u :: us) ws) (vsA := fun u => gV (.ref u :: vs) zvs) (G := fun u => gT (.cell u :: xs) zs) M F gds hr hx I2 (fun s' u hK hl => hb.to s' (.ref u :: us) ws hK (by simp [lu]) lw) (fun u => hb.rel (.cons rfl rv) rz) o2
    (fun u S' H' l => ho _ _ _ _ _ _ _ (cell_reps ((r1.le l2).le l)) (r2.le l)) k2 (po.le (l1.trans l2)) (xo.le (l1.trans l2))
theorem et_makeK0 (M : Mk X.K C f) (F : FnT X.prog X.w X.K X.mg X.base k f fd ps sp) (gds : X.A.guards = some []) (hr : Room (k + 1) X.A) (hg : Gl X x) (hm : X.mg x = some (.ref C)) (cb : CallB X.K fd ps 1 ks gT) (hx : Passes (L2N.CX X.prog X.w) X E)
    (hkw : KT X E kws tk) (hall : (backToKw pos (keywordEach kws X.env)).all (·.1.isSome) = true := by rfl) (hks : (backToKw pos (keywordEach kws X.env)).filterMap (·.1) = ks := by rfl)
    (hdb : (x == ("__debug__" : Str)) = false := by decide)
    (hpl : ((backTo pos (starEach [] X.env)).any (·.1) || (backToKw pos (keywordEach kws X.env)).any (·.1.isNone)) = false := by rfl) :
    ET X E (.Call (.Name x p) [] kws pos) (rMakeN C 0 ks.length sp gT aNil tk) := by
  refine ⟨⟨fun pins s sl H Q I h => ?_⟩⟩
  obtain ⟨Z, σ, S, R, RE, fr, ok, w, po, xo⟩ := h.ex
  obtain ⟨g, gV, hb, ho⟩ := cb.ex
  refine wpAny_Call_Name_kw (ld_glob I hg hm ?_ hdb)
  refine PySem.W.callWith_KW0 (h₀ := X.base) I.ok.mod.kin M.kp hall ?_ hpl
  refine thn (hkw.pk.run pos pins s sl H (fun zvs H2 => ∃ zs S2, (([] : List T).length = 0 ∧ zs.length = ks.length ∧
    ∀ u, S2 u = none → sp (gT [.cell u] zs) (S2.put u (.ins C [])) (fun z S3 => z = .non ∧ ∃ gs, S3 u = some (.ins C gs) ∧ R (.ins C gs) (S3.drop u)) RE) ∧ Le S H S2 H2 ∧ Ok X.K Z S2 H2 ∧ Reps X.K Z S2 H2 zvs zs) I
    ⟨Z, σ, S, _, RE, fr, ok, w, fun zs S2 zvs H2 k2 l2 o2 r2 => ⟨zs, S2, k2, l2, o2, r2⟩, xo⟩) fun ws s2 hu => ?_
  obtain ⟨zvs, H2, I2, rz, zs, S2, ⟨e1, e2, k2⟩, l2, o2, r2⟩ := hu
  refine ⟨I2.kIn, ?_⟩
  rw [hks]
  have lw : ws.length = ks.length := (rz.length.symm.trans r2.length).trans e2
  exact make_t (us := []) (kw := ks.zip ws) (all := fun u => g [Value.ref u] ws) (vsA := fun u => gV [.ref u] zvs) (G := fun u => gT [.cell u] zs) M F gds hr hx I2 (fun s' u hK hl => hb.to s' [.ref u] ws hK rfl lw) (fun u => hb.rel (.cons rfl .nil) rz) o2
    (fun u S' H' l => ho _ _ _ _ _ _ _ (cell_reps .nil) (r2.le l)) k2 (po.le l2) (xo.le l2)
/-! methods; D tells which promise the method has at which class -/
structure MetD (X : Cx) (m : Str) (dts : List T) (D : Addr → SpT → Prop) : Prop where
  at_ : ∀ C sp, D C sp → ∃ k f fd ps, Cls X.K C ∧ Meth X.K C m f ∧ FnT X.prog X.w X.K X.mg X.base k f fd ps sp ∧ Room k X.A ∧ CallD X.K fd ps dts
/-- just one class -/
def one (C : Addr) (sp : SpT) : Addr → SpT → Prop := fun C' sp' => C' = C ∧ sp' = sp
theorem MetD.one (c : Cls X.K C) (hm : Meth X.K C m f) (F : FnT X.prog X.w X.K X.mg X.base k f fd ps sp) (hr : Room k X.A) (cd : CallD X.K fd ps dts) : MetD X m dts (one C sp) := ⟨fun C' sp' ⟨e1, e2⟩ => by
  subst e1 e2
  exact ⟨k, f, fd, ps, c, hm, F, hr, cd⟩⟩
def rMeth (D : Addr → SpT → Prop) (m : Str) (dts : List T) (ra : TR) (t : TRA) : TR := fun σ S R RE => ra σ S (fun x S1 => ∃ C gs sp, insOf x S1 = some (C, gs) ∧ D C sp ∧ gs.lookup m = none ∧ t σ S1 (fun xs S2 => sp (x :: (xs ++ dts)) S2 R RE) RE) RE
variable {D : Addr → SpT → Prop}
theorem et_meth {pl : Sem Bool} (M : MetD X m dts D) (gds : X.A.guards = some []) (hx : Passes (L2N.CX X.prog X.w) X E) (ho : ET X E o ra) (ha : AT X E (e :: es) t)
    (hst : starEach (e :: es) X.env = (false, eval e X.env) :: starEach es X.env := by rfl) (hpl : (backTo pos (starEach es X.env)).any (·.1) = false := by rfl)
    (ht : eval (.Call (.Attribute o m apos) (e :: es) [] pos) X.env = ((eval o X.env) >>= fun ov => standAt apos.atName >>= fun _ => holding [ov] (getMethod ov m pl) >>= fun g => callWith pos g.1 g.2 (backTo pos (starEach (e :: es) X.env)) (backToKw pos (keywordEach [] X.env))) := by rfl) :
    ET X E (.Call (.Attribute o m apos) (e :: es) [] pos) (rMeth D m dts ra t) := by
  refine ⟨⟨fun pins s sl H Q I h => ?_⟩⟩
  obtain ⟨Z, σ, S, R, RE, fr, ok, w, po, xo⟩ := h.ex
  refine PySem.W.methodCall_KW (pl := pl) (thn (ho.pe.run pins s sl H (fun v H1 => ∃ x S1, _ ∧ Le S H S1 H1 ∧ Ok X.K Z S1 H1 ∧ Rep X.K Z S1 H1 v x) I ⟨Z, σ, S, _, RE, fr, ok, w, fun x S1 v H1 k1 l1 o1 r1 => ⟨x, S1, k1, l1, o1, r1⟩, xo⟩) fun u s1 hu => ?_) ht
  obtain ⟨v, H1, I1, rv, x, S1, ⟨C, gs, sp, hi, hD, hn, k1⟩, l1, o1, r1⟩ := hu
  obtain ⟨a, dx, fs, rfl, hH, rf⟩ := ins_rep o1 r1 hi
  obtain rfl : u = Value.ref a := rv
  obtain ⟨kk, g, fd, ps, c, hm, F, hr, cd⟩ := M.at_ C sp hD
  obtain ⟨ds, dvs, hb, hd, hdt⟩ := cd.ex
  refine getmeth_ok I1 hH c hm (rf.lookN hn) ?_
  refine PySem.W.callWith_K (first := [.ref a]) (h₀ := X.base) I.ok.mod.kin hm.kp (thn (ha.pa.run pos pins s1 sl H1 (fun vs H2 => ∃ xs S2, _ ∧ Le S1 H1 S2 H2 ∧ Ok X.K Z S2 H2 ∧ Reps X.K Z S2 H2 vs xs) I1 ⟨Z, σ, S1, _, RE, fr.le l1, o1, k1, fun xs S2 vs H2 k2 l2 o2 r2 => ⟨xs, S2, k2, l2, o2, r2⟩, xo.le l1⟩) fun us s2 hu => ?_) hst hpl
  obtain ⟨vs, H2, I2, rvs, xs, S2, k2, l2, o2, r2⟩ := hu
  refine ⟨I2.kIn, ?_⟩
  have up : UpF X.K sp (.ref a :: (vs ++ dvs)) H2 Q E := ⟨Z, _, S2, R, RE, .cons (r1.le l2) (r2.append (hdt _ _ _)), o2, k2, (po.le l1).le l2, (xo.le l1).le l2⟩
  have vv : Vals (V.ref a :: (vs ++ dvs)) ((Value.ref a :: us) ++ ds) := .cons rfl (rvs.append hd)
  exact goT F gds hr hx I2 (hb s2 (.ref a :: us) I2.kIn (vv.length.symm.trans (F.fn.len _ _ _ _ up))) vv up
theorem et_meth0 {pl : Sem Bool} (M : MetD X m dts D) (gds : X.A.guards = some []) (hx : Passes (L2N.CX X.prog X.w) X E) (ho : ET X E o ra)
    (ht : eval (.Call (.Attribute o m apos) [] [] pos) X.env = ((eval o X.env) >>= fun ov => standAt apos.atName >>= fun _ => holding [ov] (getMethod ov m pl) >>= fun g => callWith pos g.1 g.2 (backTo pos (starEach [] X.env)) (backToKw pos (keywordEach [] X.env))) := by rfl) :
    ET X E (.Call (.Attribute o m apos) [] [] pos) (rMeth D m dts ra aNil) := by
  refine ⟨⟨fun pins s sl H Q I h => ?_⟩⟩
  obtain ⟨Z, σ, S, R, RE, fr, ok, w, po, xo⟩ := h.ex
  refine PySem.W.methodCall_KW (pl := pl) (thn (ho.pe.run pins s sl H (fun v H1 => ∃ x S1, _ ∧ Le S H S1 H1 ∧ Ok X.K Z S1 H1 ∧ Rep X.K Z S1 H1 v x) I ⟨Z, σ, S, _, RE, fr, ok, w, fun x S1 v H1 k1 l1 o1 r1 => ⟨x, S1, k1, l1, o1, r1⟩, xo⟩) fun u s1 hu => ?_) ht
  obtain ⟨v, H1, I1, rv, x, S1, ⟨C, gs, sp, hi, hD, hn, k1⟩, l1, o1, r1⟩ := hu
  obtain ⟨a, dx, fs, rfl, hH, rf⟩ := ins_rep o1 r1 hi
  obtain rfl : u = Value.ref a := rv
  obtain ⟨kk, g, fd, ps, c, hm, F, hr, cd⟩ := M.at_ C sp hD
  obtain ⟨ds, dvs, hb, hd, hdt⟩ := cd.ex
  refine getmeth_ok I1 hH c hm (rf.lookN hn) ?_
  refine PySem.W.callWith_K0 (first := [.ref a]) I1.kIn hm.kp ?_
  have up : UpF X.K sp (.ref a :: dvs) H1 Q E := ⟨Z, _, S1, R, RE, .cons r1 (hdt _ _ _), o1, k1, po.le l1, xo.le l1⟩
  have vv : Vals (V.ref a :: dvs) ([Value.ref a] ++ ds) := .cons rfl hd
  exact goT F gds hr hx I1 (hb s1 [.ref a] I1.kIn (vv.length.symm.trans (F.fn.len _ _ _ _ up))) vv up
/-- .. with keywords alone -/
structure MetB (X : Cx) (m : Str) (ks : List Str) (gT : List T → List T → List T) (D : Addr → SpT → Prop) : Prop where
  at_ : ∀ C sp, D C sp → ∃ k f fd ps, Cls X.K C ∧ Meth X.K C m f ∧ FnT X.prog X.w X.K X.mg X.base k f fd ps sp ∧ Room k X.A ∧ CallB X.K fd ps 1 ks gT
def rMethK (D : Addr → SpT → Prop) (m : Str) (n : Nat) (gT : List T → List T → List T) (ra : TR) (tk : TRA) : TR := fun σ S R RE => ra σ S (fun x S1 => ∃ C gs sp, insOf x S1 = some (C, gs) ∧ D C sp ∧ gs.lookup m = none ∧ tk σ S1 (fun zs S2 => zs.length = n ∧ sp (gT [x] zs) S2 R RE) RE) RE
theorem et_methK {pl : Sem Bool} (M : MetB X m ks gT D) (gds : X.A.guards = some []) (hx : Passes (L2N.CX X.prog X.w) X E) (ho : ET X E o ra) (hkw : KT X E kws tk)
    (hall : (backToKw pos (keywordEach kws X.env)).all (·.1.isSome) = true := by rfl) (hks : (backToKw pos (keywordEach kws X.env)).filterMap (·.1) = ks := by rfl)
    (hpl : ((backTo pos (starEach [] X.env)).any (·.1) || (backToKw pos (keywordEach kws X.env)).any (·.1.isNone)) = false := by rfl)
    (ht : eval (.Call (.Attribute o m apos) [] kws pos) X.env = ((eval o X.env) >>= fun ov => standAt apos.atName >>= fun _ => holding [ov] (getMethod ov m pl) >>= fun g => callWith pos g.1 g.2 (backTo pos (starEach [] X.env)) (backToKw pos (keywordEach kws X.env))) := by rfl) :
    ET X E (.Call (.Attribute o m apos) [] kws pos) (rMethK D m ks.length gT ra tk) := by
  refine ⟨⟨fun pins s sl H Q I h => ?_⟩⟩
  obtain ⟨Z, σ, S, R, RE, fr, ok, w, po, xo⟩ := h.ex
  refine PySem.W.methodCall_KW (pl := pl) (thn (ho.pe.run pins s sl H (fun v H1 => ∃ x S1, _ ∧ Le S H S1 H1 ∧ Ok X.K Z S1 H1 ∧ Rep X.K Z S1 H1 v x) I ⟨Z, σ, S, _, RE, fr, ok, w, fun x S1 v H1 k1 l1 o1 r1 => ⟨x, S1, k1, l1, o1, r1⟩, xo⟩) fun u s1 hu => ?_) ht
  obtain ⟨v, H1, I1, rv, x, S1, ⟨C, gs, sp, hi, hD, hn, k1⟩, l1, o1, r1⟩ := hu
  obtain ⟨a, dx, fs, rfl, hH, rf⟩ := ins_rep o1 r1 hi
  obtain rfl : u = Value.ref a := rv
  obtain ⟨kk, g, fd, ps, c, hm, F, hr, cb⟩ := M.at_ C sp hD
  obtain ⟨g2, gV, hb, hor⟩ := cb.ex
  refine getmeth_ok I1 hH c hm (rf.lookN hn) ?_
  refine PySem.W.callWith_KW0 (first := [.ref a]) (h₀ := X.base) I.ok.mod.kin hm.kp hall ?_ hpl
  refine thn (hkw.pk.run pos pins s1 sl H1 (fun zvs H2 => ∃ zs S2, (zs.length = ks.length ∧ sp (gT [x] zs) S2 R RE) ∧ Le S1 H1 S2 H2 ∧ Ok X.K Z S2 H2 ∧ Reps X.K Z S2 H2 zvs zs) I1 ⟨Z, σ, S1, _, RE, fr.le l1, o1, k1, fun zs S2 zvs H2 k2 l2 o2 r2 => ⟨zs, S2, k2, l2, o2, r2⟩, xo.le l1⟩) fun ws s2 hu => ?_
  obtain ⟨zvs, H2, I2, rz, zs, S2, ⟨e2, k2⟩, l2, o2, r2⟩ := hu
  refine ⟨I2.kIn, ?_⟩
  rw [hks]
  have lw : ws.length = ks.length := (rz.length.symm.trans r2.length).trans e2
  have up : UpF X.K sp (gV [.ref a] zvs) H2 Q E := ⟨Z, _, S2, R, RE, hor _ _ _ _ _ _ _ (.cons (r1.le l2) .nil) r2, o2, k2, (po.le l1).le l2, (xo.le l1).le l2⟩
  exact goT F gds hr hx I2 (hb.to s2 [.ref a] ws I2.kIn rfl lw) (hb.rel (vs := [V.ref a]) (.cons rfl .nil) rz) up
end

section
variable {X : Cx} {E : XK} {k n : Nat} {f g C q : Addr} {fd : FuncData} {ps ks : List Str} {sp : SpT} {dts : List T} {x m : Str} {p pos apos : Pos} {e o a b : Expr} {es : List Expr} {kws : List Keyword} {t tk : TRA} {ra rb : TR}
/-! ### properties -/
structure PrpD (X : Cx) (m : Str) (D : Addr → SpT → Prop) : Prop where
  at_ : ∀ C sp, D C sp → ∃ k p g fd ps, Cls X.K C ∧ PropOf X.K C m p g ∧ FnT X.prog X.w X.K X.mg X.base k g fd ps sp ∧ Room (k + 1) X.A ∧ Binds X.K fd ps []
theorem PrpD.one (c : Cls X.K C) (hp : PropOf X.K C m q g) (F : FnT X.prog X.w X.K X.mg X.base k g fd ps sp) (hr : Room (k + 1) X.A) (hb : Binds X.K fd ps []) : PrpD X m (one C sp) := ⟨fun C' sp' ⟨e1, e2⟩ => by
  subst e1 e2
  exact ⟨k, q, g, fd, ps, c, hp, F, hr, hb⟩⟩
def rProp (D : Addr → SpT → Prop) (ra : TR) : TR := fun σ S R RE => ra σ S (fun x S1 => ∃ C gs sp, insOf x S1 = some (C, gs) ∧ D C sp ∧ sp [x] S1 R XF) RE
variable {D : Addr → SpT → Prop}
theorem et_prop (M : PrpD X m D) (gds : X.A.guards = some []) (ha : ET X E a ra) (hab : attributeBase a m X.env (eval a X.env) = eval a X.env := by rfl) : ET X E (.Attribute a m pos) (rProp D ra) := by
  refine ⟨⟨fun pins s sl H Q I h => ?_⟩⟩
  obtain ⟨Z, σ, S, R, RE, fr, ok, w, po, xo⟩ := h.ex
  refine attr_of hab (thn (ha.pe.run pins s sl H (fun v H1 => ∃ x S1, _ ∧ Le S H S1 H1 ∧ Ok X.K Z S1 H1 ∧ Rep X.K Z S1 H1 v x) I ⟨Z, σ, S, _, RE, fr, ok, w, fun x S1 v H1 k1 l1 o1 r1 => ⟨x, S1, k1, l1, o1, r1⟩, xo⟩) fun u s1 hu => ?_)
  obtain ⟨v, H1, I1, rv, x, S1, ⟨C, gs, sp, hi, hD, k1⟩, l1, o1, r1⟩ := hu
  obtain ⟨i, dx, fs, rfl, hH, rf⟩ := ins_rep o1 r1 hi
  obtain rfl : u = Value.ref i := rv
  obtain ⟨kk, pp, gg, fd, ps, c, hp, F, hr, hb⟩ := M.at_ C sp hD
  obtain ⟨mA, O, _⟩ := ins_get I1.hok hH
  obtain ⟨od, J, _⟩ := O.look
  obtain ⟨rest, hrec⟩ := hp.rec_
  have I2 := I1.tok (s1.toks + 1)
  have hc : (PySem.W.clsIn X.K C).isSome = true := by
    obtain ⟨cd, e1, _⟩ := PySem.W.any_some c.hd
    rw [e1]
    rfl
  have up : UpF X.K sp [.ref i] H1 Q EF := ⟨Z, _, S1, R, XF, .cons r1 .nil, o1, k1, po.le l1, fun _ _ _ _ _ _ z => z.elim⟩
  refine PySem.W.get_bind I1.kIn J (PySem.W.plainGet_of (c.get m)).1 (PySem.W.findObj_data hc hp.at_ hp.get hp.tak) (PySem.W.plainGet_of (c.get m)).2 (wpAny_call (PySem.W.prop_get (s := { s1 with toks := s1.toks + 1 }) I1.kIn hrec ?_))
  refine codeAny_mono (F.fn.go X.A.in1 X.stack { s1 with toks := s1.toks + 1 } H1 ⟨[.ref i], []⟩ ([Value.ref i] ++ []) [V.ref i] Q EF (by first | exact gds | simpa [Around.in1] using gds) hr.in1 I2.env0.in1 (hb _ [.ref i] I2.kIn (F.fn.len _ _ _ _ up)) (show Vals [V.ref i] [Value.ref i] from .cons rfl .nil) up) fun z s' hq => ?_
  cases z with
  | error er => exact (passN (X := X.nox) pins sl H1 { s1 with toks := s1.toks + 1 } er s' (I2.wish _) hq).elim
  | ok fl =>
    cases fl with
    | ret u =>
      obtain ⟨v, H', I3, rv, q3⟩ := I2.after hq
      show wpAny _ _ (handedOut u) _ _ _
      rw [PySem.W.handedOut_of (handed_of rv)]
      exact wpAny_pure ⟨v, H', I3, rv, q3⟩
    | next => exact hq.elim
    | brk => exact hq.elim
    | cont => exact hq.elim
/-! ### C.f(..), f a plain def of the class; C.m(..), m a classmethod -/
def rClsFn (sp : SpT) (dts : List T) (t : TRA) : TR := fun σ S R RE => t σ S (fun xs S1 => sp (xs ++ dts) S1 R RE) RE
theorem et_clsfn {mc : Value} {pl : Sem Bool} (r : ClX.CRead X.K C mc) (hv : PySem.W.findCls X.K (.ref C) mc m = some (.val (.ref f))) (hk : PySem.W.keepIn X.K (.ref f) = true) (F : FnT X.prog X.w X.K X.mg X.base k f fd ps sp) (cd : CallD X.K fd ps dts) (hr : Room k X.A) (gds : X.A.guards = some []) (hx : Passes (L2N.CX X.prog X.w) X E)
    (hg : Gl X x) (hm : X.mg x = some (.ref C)) (ha : AT X E (e :: es) t) (hd : (x == ("__debug__" : Str)) = false := by decide)
    (hst : starEach (e :: es) X.env = (false, eval e X.env) :: starEach es X.env := by rfl) (hpl : (backTo pos (starEach es X.env)).any (·.1) = false := by rfl)
    (ht : eval (.Call (.Attribute (.Name x p) m apos) (e :: es) [] pos) X.env = ((eval (.Name x p) X.env) >>= fun ov => standAt apos.atName >>= fun _ => holding [ov] (getMethod ov m pl) >>= fun g => callWith pos g.1 g.2 (backTo pos (starEach (e :: es) X.env)) (backToKw pos (keywordEach [] X.env))) := by rfl) :
    ET X E (.Call (.Attribute (.Name x p) m apos) (e :: es) [] pos) (rClsFn sp dts t) := by
  refine ⟨⟨fun pins s sl H Q I h => ?_⟩⟩
  obtain ⟨Z, σ, S, R, RE, fr, ok, w, po, xo⟩ := h.ex
  obtain ⟨ds, dvs, hb, hd2, hdt⟩ := cd.ex
  refine PySem.W.methodCall_KW (pl := pl) (thn ((pe_glob (pos := p) (v := .ref C) hg hm rfl hd).run pins s sl H (fun v H1 => v = .ref C ∧ H1 = H) I ⟨rfl, rfl⟩) fun u s1 hu => ?_) ht
  obtain ⟨v, H1, I1, rv, rfl, rfl⟩ := hu
  obtain rfl : u = Value.ref C := rv
  refine PySem.W.method_cls I1.kIn r.ga (PySem.W.cls_value I1.kIn r.rd hv (handed_of (v := .ref f) rfl) ?_)
  have I2 := I1.tok (s1.toks + 1)
  refine PySem.W.callWith_K (first := []) (h₀ := X.base) I.ok.mod.kin hk (thn (ha.pa.run pos pins _ sl _ (fun vs H2 => ∃ xs S2, _ ∧ Le S H1 S2 H2 ∧ Ok X.K Z S2 H2 ∧ Reps X.K Z S2 H2 vs xs) I2 ⟨Z, σ, S, _, RE, fr, ok, w, fun xs S2 vs H2 k2 l2 o2 r2 => ⟨xs, S2, k2, l2, o2, r2⟩, xo⟩) fun us s2 hu => ?_) hst hpl
  obtain ⟨vs, H2, I3, rvs, xs, S2, k2, l2, o2, r2⟩ := hu
  refine ⟨I3.kIn, ?_⟩
  have up : UpF X.K sp (vs ++ dvs) H2 Q E := ⟨Z, _, S2, R, RE, r2.append (hdt _ _ _), o2, k2, po.le l2, xo.le l2⟩
  have vv : Vals (vs ++ dvs) (us ++ ds) := rvs.append hd2
  exact goT F gds hr hx I3 (hb s2 us I3.kIn (vv.length.symm.trans (F.fn.len _ _ _ _ up))) vv up
end

theorem cxUpN {P : Program} {w : World} : StX.CXUp (L2N.CX P w) := by
  intro outer s H s2 H2 E e s' un kp same cx
  obtain ⟨a, B, H', cls, d, ea, fl, hok, ub, na, os, ag, he⟩ := cx
  refine ⟨a, B, H', cls, d, ea, fl, hok, ?_, na, os.trans same, ag, he⟩
  exact {
    keep := fun b o q n hb => ub.keep b o (kp b o q) (un.free b o q n (by simp)) hb
    slot := fun b o q hb => ub.slot b o (kp b o q) hb
    free := fun b o q n => ub.free b o (kp b o q) (un.free b o q n (by simp))
    there := fun b o q hb => ub.there b o (kp b o q) hb
    tups := fun b xs q => ub.tups b xs (un.tups b xs q)
    frzs := fun b o xs q => ub.frzs b o xs (un.frzs b o xs q)
    tbls := fun b ps q => by
      obtain ⟨m1, e1⟩ := un.tbls b ps q
      obtain ⟨m2, e2⟩ := ub.tbls b _ e1
      exact ⟨m1 ++ m2, by rw [e2, Array.append_assoc]⟩ }

/-! ### defs with *args alone -/
structure FnS (P : Program) (w : World) (K : PySem.W.Frag) (mg : Str → Option Value) (base : Heap) (k : Nat) (f : Addr) (sp : SpT) : Prop where
  go : ∀ (A : Around) (out : List Env) (s : Shared) (H : Hp) (us : List Value) (vs : List V) (Q : VK) (E : XK), A.guards = some [] → Room k A → Env0 P w K mg base A out s H → Vals vs us → UpF K sp vs H Q E →
    codeAny (model P w) A (.call (.ref f) ⟨us, []⟩) (CR (L2N.CX P w) out P w H s Q E) s
section
variable {P : Program} {w : World} {K : PySem.W.Frag} {mg : Str → Option Value} {base : Heap} {k : Nat} {f : Addr} {fd : FuncData} {sp : SpT}
theorem okTS {x qual pv : Str} {st : Stmt} {N : List Str} {r : TRS} (F : Fun K x qual st f fd) (S : FnScope N [pv] (defScope st))
    (hb : ∀ us : List Value, bindArgs fd ⟨us, []⟩ = (newTuple us >>= fun t => pure [(pv, t)]))
    (bs : ∀ (cdv : Value) (A : Around) (out : List Env) (s : Shared) (H : Hp) (E : XK), A.guards = some [] → Room k (A.deeper (envOfC qual (defScope st) s.heap.objs.size f cdv)) → BS (cxT P w K mg base N qual (defScope st) f cdv A out s H E) E (defBody st) r)
    (hsp : ∀ ts S R RE, sp ts S R RE → ts.length ≤ sizeLine ∧ r { nx := fun _ S' => R .non S', rt := R, ex := RE } (startT N [.tup ts]) S) : FnS P w K mg base (k + 1) f sp := by
  obtain ⟨_, _, _, _, _, _, cdv, _, _, e, lk, code⟩ := F.ex
  subst e
  refine ⟨fun A out s H us vs Q E gds hr e0 rv up => ?_⟩
  obtain ⟨Z, ts, S0, R, RE, rs, ok, h, po, xo⟩ := up.ex
  obtain ⟨hl, h⟩ := hsp ts S0 R RE h
  have lv : vs.length ≤ sizeLine := by rw [rs.length]; exact hl
  have lu : us.length ≤ sizeLine := by rw [← rv.length]; exact lv
  have hn : H s.heap.objs.size = Option.none := e0.hok.fresh (Nat.le_refl _)
  refine StX.run_bnd lk code S hr e0 (G := fun xs H2 => ∃ p, H p = Option.none ∧ xs = [V.ref p] ∧ H2 = upd H p (.tup vs)) (fun A' Ex Q' g => ?_) fun s2 H2 xs ⟨p, hp, ex, eH⟩ hr' => ?_
  · rw [hb us]
    refine wpAny_bind (wpAny_newTuple (wpAny_pure ?_) lu)
    have made : ObjOk P w (upd H s.heap.objs.size (.tup vs)) (s.heap.push ({ cls := .type "tuple", data := .seq us.toArray } : Obj)) s.heap.objs.size (.tup vs) := ⟨lv, us, rv, ⟨_, Heap.get?_push_size _ rfl, rfl, _, rfl⟩⟩
    have un := StX.un_laid (fs := frs out) (s := s) (o := ({ cls := .type "tuple", data := .seq us.toArray } : Obj)) (u := .tup vs) hn
    exact g _ _ [V.ref s.heap.objs.size] [Value.ref s.heap.objs.size] (StX.env0_laid e0 made) un rfl (fun e s' => cxUpN out s H _ _ E e s' un (fun b o q => Heap.get?_push_of_some _ q) rfl) (.cons rfl .nil) rfl ⟨_, hn, rfl, rfl⟩
  · subst ex eH
    refine ⟨_, (bs cdv A out s2 _ E gds hr').ps, Z, startT N [.tup ts], S0, _, FrR.start (.cons (.tupN ok hp rs) .nil), ok.new hp, h, ⟨fun σ' S' sl' H' r' le' ok' _ => po _ S' _ H' r' ((le_new hp).trans le') ok' .non, po.le (le_new hp), fun _ _ _ _ z => z.elim, fun _ _ _ _ z => z.elim⟩, xo.le (le_new hp)⟩
end
section
variable {X : Cx} {E : XK} {k : Nat} {f : Addr} {sp : SpT} {x : Str} {p pos : Pos} {e : Expr} {es : List Expr} {t : TRA}
theorem goS {pins : List (Addr × Obj)} {sl : L2.St} {H : Hp} {s : Shared} {Q : VK} {us : List Value} {vs : List V} (F : FnS X.prog X.w X.K X.mg X.base k f sp) (gds : X.A.guards = some []) (hr : Room k X.A) (hx : Passes (L2N.CX X.prog X.w) X E)
    (inv : Inv X pins sl H s) (r : Vals vs us) (want : UpF X.K sp vs H Q E) : wpAny (model X.prog X.w) X.A (call (.ref f) us) (EP X pins sl Q) X.xe s := by
  refine wpAny_call (codeAny_mono (F.go X.A X.stack s H us vs Q E gds hr inv.env0 r want) fun r s' got => ?_)
  cases r with
  | error er => exact hx pins sl H s er s' inv got
  | ok fl =>
    cases fl with
    | ret u => exact inv.after got
    | next => exact got.elim
    | brk => exact got.elim
    | cont => exact got.elim
def rCallS (sp : SpT) (t : TRA) : TR := fun σ S R RE => t σ S (fun xs S1 => sp xs S1 R RE) RE
theorem et_callS (F : FnS X.prog X.w X.K X.mg X.base k f sp) (gds : X.A.guards = some []) (hr : Room k X.A) (hg : Gl X x) (hm : X.mg x = some (.ref f)) (hk : PySem.W.keepIn X.K (.ref f) = true) (hx : Passes (L2N.CX X.prog X.w) X E)
    (ha : AT X E (e :: es) t) (hdb : (x == ("__debug__" : Str)) = false := by decide) (he : starEach (e :: es) X.env = (false, eval e X.env) :: starEach es X.env := by rfl) (hpl : (backTo pos (starEach es X.env)).any (·.1) = false := by rfl) :
    ET X E (.Call (.Name x p) (e :: es) [] pos) (rCallS sp t) := by
  refine ⟨⟨fun pins s sl H Q I h => ?_⟩⟩
  obtain ⟨Z, σ, S, R, RE, fr, ok, w, po, xo⟩ := h.ex
  refine wpAny_Call_Name_kw (ld_glob I hg hm ?_ hdb)
  refine PySem.W.callWith_K (h₀ := X.base) I.ok.mod.kin hk (thn (ha.pa.run pos pins s sl H (fun vs H1 => ∃ xs S1, sp xs S1 R RE ∧ Le S H S1 H1 ∧ Ok X.K Z S1 H1 ∧ Reps X.K Z S1 H1 vs xs) I
    ⟨Z, σ, S, _, RE, fr, ok, w, fun xs S1 vs H1 k1 l1 o1 r1 => ⟨xs, S1, k1, l1, o1, r1⟩, xo⟩) fun us s1 hu => ?_) he hpl
  obtain ⟨vs, H1, I1, rv, xs, S1, k1, l1, o1, r1⟩ := hu
  exact ⟨I1.kIn, goS F gds hr hx I1 rv ⟨Z, xs, S1, R, RE, r1, o1, k1, po.le l1, xo.le l1⟩⟩
end
/-! x * y where x's class has the def and y is of a built-in type, or of that class too -/
section
open PySem.W PySem.Calls PyProof.Rows
variable {prog : Program} {w : World} {A : Around} {E : Value → Shared → Prop} {s : Shared} {K : Frag} {x C L f : Addr} {h₀ : Heap} {m : Str → Option Value} {ox : Obj} {od : Option Obj} {T : String}
theorem binT {op : Operator} {b : Value} {fo ro rc : Option Value} {Q : Value → Shared → Prop} (F : PyProof.Rows.Fr h₀ L s.heap m) (X₀ : K.In h₀) (I : InstAt s.heap x ox C od) (ty : Looks (model prog w) s.heap (typeOf b) (.type T)) (first_ : selfFirst K C = true)
    (at_ : findIn K (.ref C) (PySem.dunder op.info.2) = some (some (.ref f))) (fn : isFn K (.ref f) = true) (right_ : findIn K (.ref C) (dunderR op.info.2) = some rc) (rp : rc = none ∨ ∃ g : Addr, rc = some (.ref g))
    (t1 : findIn K (.type T) (PySem.dunder op.info.2) = some fo) (t2 : findIn K (.type T) (dunderR op.info.2) = some ro) (no : subIn K (.type T) (.ref C) = some false)
    (h : wpAny (model prog w) A (call (.ref f) [.ref x, b]) (PySem.W.CmpBack Q) E s) : wpAny (model prog w) A (binaryOp op (.ref x) b) Q E s := by
  have X := X₀.keeps F.keep
  obtain ⟨cd, rest, hcd, hm⟩ := ksp_first first_
  rcases hi : op.info with ⟨sym, nm'⟩
  rw [hi] at at_ right_ t1 t2
  dsimp only at at_ right_ t1 t2
  have one := ksp_try X I at_ fn h
  obtain ⟨hh, g, d, tt, os⟩ := s
  have L1 : Looks (model prog w) hh (typeOf (.ref x)) (.ref C) := I.type
  have L2 : Looks (model prog w) hh (typeOf b) (.type T) := ty
  have L3 : Looks (model prog w) hh (fillsNumberSlot (.ref C) nm') true := fills_K X hcd hm at_
  have L4 : Looks (model prog w) hh (fillsNumberSlot (.type T) nm') ((fo.isSome && !isSeqSlot fo) || (ro.isSome && !isSeqSlot ro)) := ksp_fillsT X t1 t2
  have L5 : Looks (model prog w) hh (isSubtype (.type T) (.ref C)) false := looks_subIn X no
  have L6 : Looks (model prog w) hh (numberSlotInPython (.ref C) nm') true := ksp_inPy X at_ right_ rp
  have L7 : Looks (model prog w) hh (numberSlotInPython (.type T) nm') false := Looks.of_pure rfl
  have L8 : Looks (model prog w) hh (typeLookup (.type T) (dunderR nm')) ro := looks_findIn X t2
  generalize ((fo.isSome && !isSeqSlot fo) || (ro.isSome && !isSeqSlot ro)) = right at L4
  have ne : (Value.ref C == Value.type T) = false := Bool.eq_false_iff.mpr fun q => by cases beq_iff_eq.mp q
  simp only [binaryOp, hi]
  refine wpAny_holding (wpAny_bind ?_)
  unfold binaryOp1
  refine wpAny_bind (L1.at (wpAny_bind (L2.at (wpAny_bind (L3.at ?_)))))
  simp only [ne, Bool.false_eq_true, if_false]
  cases right with
  | false =>
    ksp_lk
    refine wpAny_mono one (fun r s' got => ?_) fun _ _ e => e
    obtain ⟨v, rfl, q⟩ := got
    ksp_lk
    exact q
  | true =>
    ksp_lk
    refine wpAny_mono one (fun r s' got => ?_) fun _ _ e => e
    obtain ⟨v, rfl, q⟩ := got
    ksp_lk
    exact q
end
/-- what the class at C says of its operator -/
structure BinOwn (K : PySem.W.Frag) (C f : Addr) (op : Operator) : Prop where
  first_ : PySem.W.selfFirst K C = true
  at_ : PySem.W.findIn K (.ref C) (PySem.dunder op.info.2) = some (some (.ref f))
  fn : PySem.W.isFn K (.ref f) = true
  right_ : ∃ rc, PySem.W.findIn K (.ref C) (PySem.dunderR op.info.2) = some rc ∧ (rc = none ∨ ∃ g : Addr, rc = some (.ref g))
/-- what a built-in type says of it -/
structure BinTy (K : PySem.W.Frag) (C : Addr) (op : Operator) (T : String) : Prop where
  l : ∃ fo, PySem.W.findIn K (.type T) (PySem.dunder op.info.2) = some fo
  r : ∃ ro, PySem.W.findIn K (.type T) (PySem.dunderR op.info.2) = some ro
  no : PySem.W.subIn K (.type T) (.ref C) = some false
/-- what may stand right of it -/
def BinArg (K : PySem.W.Frag) (C : Addr) (op : Operator) (H : Hp) (y : V) : Prop := (∃ T, TyX K H y (.type T) ∧ BinTy K C op T) ∨ ∃ b dx fs, y = .ref b ∧ H b = some (.ins C dx fs)

/-! ### x * y by the class's own def -/
structure BinT (K : PySem.W.Frag) (C : Addr) (op : Operator) (y : T) (S : Store) : Prop where
  ok : (∃ ty, TyT K S y (.type ty) ∧ BinTy K C op ty) ∨ ∃ gs, insOf y S = some (C, gs)
def rOpOwn (K : PySem.W.Frag) (C : Addr) (op : Operator) (sp : SpT) : KB := fun x y S R RE => (∃ gs, insOf x S = some (C, gs)) ∧ BinT K C op y S ∧ sp [x, y] S (fun z S' => (∃ C' gs', z = .ins C' gs') ∧ R z S') RE
theorem et_opOwn {X : Cx} {E : XK} {op : Operator} {C f : Addr} {fd : FuncData} {k : Nat} {ps : List Str} {sp : SpT} {a b : Expr} {pos : Pos} {ra rb : TR} (S : BinOwn X.K C f op) (F : FnT X.prog X.w X.K X.mg X.base k f fd ps sp) (gds : X.A.guards = some []) (hr : Room k X.A) (hb : Binds X.K fd ps []) (hx : Passes (L2N.CX X.prog X.w) X E)
    (ha : ET X E a ra) (hbb : ET X E b rb) : ET X E (.BinOp a op b pos) (rBin (rOpOwn X.K C op sp) ra rb) := by
  have run : OpR X (binaryOp op) (fun v u H Q => ∃ Z x y S0 R RE, Ok X.K Z S0 H ∧ Rep X.K Z S0 H v x ∧ Rep X.K Z S0 H u y ∧ rOpOwn X.K C op sp x y S0 R RE ∧ PO X.K Z S0 H R Q ∧ XOk X.K Z S0 H RE E) := by
    intro pins s sl H v w u1 u2 Q inv rx ry want
    obtain ⟨Z, x, y, S0, R, RE, ok, r1, r2, ⟨⟨gs, hi⟩, ⟨arg⟩, kk⟩, po, xo⟩ := want
    obtain ⟨i, dx, fs, rfl, hH, rf⟩ := ins_rep ok r1 hi
    obtain rfl : u1 = Value.ref i := rx
    obtain ⟨mA, O, _⟩ := ins_get inv.hok hH
    obtain ⟨od, J, _⟩ := O.look
    obtain ⟨m, fr⟩ := inv.fr
    have up : UpF X.K sp [.ref i, w] H (fun v H' => (∃ b, v = .ref b) ∧ Q v H') E := ⟨Z, [x, y], S0, _, RE, .cons r1 (.cons r2 .nil), ok, kk, fun z S' v H' kz le ok' rep => by
      obtain ⟨⟨C', gs', rfl⟩, kz⟩ := kz
      refine ⟨?_, po _ _ _ _ kz le ok' rep⟩
      cases rep
      exact ⟨_, rfl⟩, xo⟩
    have vv : Vals [V.ref i, w] [Value.ref i, u2] := .cons rfl (.cons ry .nil)
    have hl : ([Value.ref i, u2] ++ []).length = ps.length := vv.length.symm.trans (F.fn.len _ _ _ _ up)
    have run : wpAny (model X.prog X.w) X.A (call (.ref f) [.ref i, u2]) (PySem.W.CmpBack (EP X pins sl Q)) X.xe s := by
      refine thn (goT F gds hr hx inv (hb s [.ref i, u2] inv.kIn hl) vv up) fun z s' got => ?_
      obtain ⟨v, H', I3, rz, ⟨b, eb⟩, q3⟩ := got
      subst eb
      obtain rfl : z = Value.ref b := rz
      exact ⟨.ref b, H', I3, rfl, q3⟩
    rcases arg with ⟨ty, ht, B⟩ | ⟨gs2, hi2⟩
    · obtain ⟨KP, kx, kp, _⟩ := kit_ofY inv ry (ty_rep ok r2 ht)
      obtain ⟨fo, l⟩ := B.l
      obtain ⟨ro, r⟩ := B.r
      obtain ⟨rc, r3, r4⟩ := S.right_
      exact binT fr inv.ok.mod.kin J (kx.ty _ _ inv.kIn kp) S.first_ S.at_ S.fn r3 r4 l r B.no run
    · obtain ⟨b2, dx2, fs2, rfl, hb2, _⟩ := ins_rep ok r2 hi2
      obtain rfl : u2 = Value.ref b2 := ry
      obtain ⟨mB, OB, _⟩ := ins_get inv.hok hb2
      obtain ⟨od2, JB, _⟩ := OB.look
      exact PySem.W.binop_K fr inv.ok.mod.kin J JB.type S.first_ S.at_ S.fn run
  exact ⟨pe_weak (pe_op run ha.pe hbb.pe) fun sl H Q h => UpE.two h fun Z x y S2 v u H2 R RE ok rx ry kk po xo => ⟨Z, x, y, S2, R, RE, ok, rx, ry, kk, po, xo⟩⟩

section
variable {X : Cx} {E : XK} {k : Nat} {f C : Addr} {fd : FuncData} {ps ks : List Str} {sp : SpT} {dts : List T} {m : Str} {p pos : Pos} {e a b c : Expr} {gT : List T → List T → List T} {D1 D2 : Addr → SpT → Prop} {ra : TR}
/-! what is never reached -/
def rNo : TR := fun _ _ _ _ => False
def sNo : TRS := fun _ _ _ => False
theorem et_never : ET X E e rNo := ⟨⟨fun _ _ _ _ _ _ h => by
  obtain ⟨_, _, _, _, _, _, _, w, _, _⟩ := h.ex
  exact w.elim⟩⟩
theorem ss_never {st : Stmt} : SS X E st sNo := ⟨⟨fun _ _ _ _ _ _ h => by
  obtain ⟨_, _, _, _, _, _, w, _, _⟩ := h.ex
  exact w.elim⟩⟩
theorem MetD.or (h1 : MetD X m dts D1) (h2 : MetD X m dts D2) : MetD X m dts (fun C sp => D1 C sp ∨ D2 C sp) := ⟨fun C sp d => d.elim (h1.at_ C sp) (h2.at_ C sp)⟩
theorem MetB.one (c : Cls X.K C) (hm : Meth X.K C m f) (F : FnT X.prog X.w X.K X.mg X.base k f fd ps sp) (hr : Room k X.A) (cb : CallB X.K fd ps 1 ks gT) : MetB X m ks gT (one C sp) := ⟨fun C' sp' ⟨e1, e2⟩ => by
  subst e1 e2
  exact ⟨k, f, fd, ps, c, hm, F, hr, cb⟩⟩
theorem MetB.or (h1 : MetB X m ks gT D1) (h2 : MetB X m ks gT D2) : MetB X m ks gT (fun C sp => D1 C sp ∨ D2 C sp) := ⟨fun C sp d => d.elim (h1.at_ C sp) (h2.at_ C sp)⟩
/-- C.f is the constant t -/
structure CValT (K : PySem.W.Frag) (C : Addr) (f : Str) (t : T) : Prop where
  ex : ∃ v u, ClX.CVal K C (.type "type") f v u ∧ ∀ Z S H, Rep K Z S H v t
theorem et_cvalT {x : Str} {tt : T} (r : ClX.CRead X.K C (.type "type")) (k : CValT X.K C m tt) (hg : Gl X x) (hm : X.mg x = some (.ref C)) (hd : (x == ("__debug__" : Str)) = false := by decide)
    (hb : attributeBase (.Name x p) m X.env (eval (.Name x p) X.env) = eval (.Name x p) X.env := by rfl) : ET X E (.Attribute (.Name x p) m pos) (rC tt) := by
  obtain ⟨v, u, cv, rep⟩ := k.ex
  exact et_cval r cv rep hg hm hd hb
theorem bs_pass : BS X E [.Pass pos] sNext := ⟨pss_weak (pss_cons ps_pass pss_nil) fun D sl H ⟨⟨Z, σ, S, DT, fr, ok, w, eo, xo⟩⟩ => eo.nx σ S sl H w .refl ok fr⟩
/-! the same, the written part named -/
theorem et_fldK (K : PySem.W.Frag) (hK : X.K = K) (ha : ET X E a ra) (hb : attributeBase a m X.env (eval a X.env) = eval a X.env := by rfl) : ET X E (.Attribute a m pos) (rFld K m ra) := by
  subst hK
  exact et_fld ha hb
theorem et_conK (K : PySem.W.Frag) (hK : X.K = K) (ha : ET X E a ra) (hb : attributeBase a m X.env (eval a X.env) = eval a X.env := by rfl) : ET X E (.Attribute a m pos) (rCon K m ra) := by
  subst hK
  exact et_con ha hb
theorem ss_fldK (K : PySem.W.Frag) (hK : X.K = K) {rb : TR} {apos : Pos} (ha : ET X E a ra) (hv : ET X E e rb) (hs : swapsWith e (some (.Attribute a m apos)) pos.line X.env = pure false := by rfl) : SS X E (.Assign [.Attribute a m apos] e pos) (sFldT K m rb ra) := by
  subst hK
  exact ss_fld ha hv hs
theorem et_opOwnK (K : PySem.W.Frag) (hK : X.K = K) {op : Operator} {rb : TR} (S : BinOwn X.K C f op) (F : FnT X.prog X.w X.K X.mg X.base k f fd ps sp) (gds : X.A.guards = some []) (hr : Room k X.A) (hb : Binds X.K fd ps []) (hx : Passes (L2N.CX X.prog X.w) X E)
    (ha : ET X E a ra) (hbb : ET X E b rb) : ET X E (.BinOp a op b pos) (rBin (rOpOwn K C op sp) ra rb) := by
  subst hK
  exact et_opOwn S F gds hr hb hx ha hbb
theorem tt_never : TT' X E e (fun _ _ _ _ => False) := ⟨⟨fun _ _ _ _ _ _ h => by
  obtain ⟨_, _, _, _, _, _, _, w, _, _⟩ := h.ex
  exact w.elim⟩⟩
/-! a test that is a conditional expression -/
def bIf (tc ta tb : TRB) : TRB := fun σ S R RE => tc σ S (fun c S1 => if c = true then ta σ S1 R RE else tb σ S1 R RE) RE
theorem tt_ifExp {tc ta tb : TRB} (hc : TT' X E c tc) (ha : TT' X E a ta) (hb : TT' X E b tb) : TT' X E (.IfExp c a b pos) (bIf tc ta tb) := by
  refine ⟨⟨fun pins s sl H Q I h => ?_⟩⟩
  obtain ⟨Z, σ, S, R, RE, fr, ok, w, po, xo⟩ := h.ex
  refine isTrue_IfExp (thn (hc.pt.run pins s sl H (fun d H1 => ∃ S1, (if d = true then ta σ S1 R RE else tb σ S1 R RE) ∧ Le S H S1 H1 ∧ Ok X.K Z S1 H1) I ⟨Z, σ, S, _, RE, fr, ok, w, fun d S1 H1 k1 l1 o1 => ⟨S1, k1, l1, o1⟩, xo⟩) fun d s1 ⟨H1, I1, q1⟩ => ?_)
  obtain ⟨S1, k1, l1, o1⟩ := q1
  cases d with
  | true => exact ha.pt.run pins s1 sl H1 Q I1 ⟨Z, σ, S1, R, RE, fr.le l1, o1, k1, po.le l1, xo.le l1⟩
  | false => exact hb.pt.run pins s1 sl H1 Q I1 ⟨Z, σ, S1, R, RE, fr.le l1, o1, k1, po.le l1, xo.le l1⟩
end
/-! ### the end -/
section
variable {P : Program} {w : World} {K : PySem.W.Frag} {mg : Str → Option Value} {base : Heap} {k : Nat} {f : Addr} {fd : FuncData} {ps : List Str} {sp : SpT}
/-- a def that lets nothing out, as the end wants it -/
theorem FnT.cx0 (F : FnT P w K mg base k f fd ps sp) : FnG P w K mg base CX0 k f fd ps (fun vs H Q _ => UpF K sp vs H Q EF) := by
  refine ⟨fun vs H Q E h => F.fn.len _ _ _ _ h, fun A out st H as us vs Q E gds hr e0 b r h => ?_⟩
  refine codeAny_mono (F.fn.go A out st H as us vs Q EF gds hr e0 b r h) fun z s' got => ?_
  cases z with
  | error er =>
    obtain ⟨_, _, _, _, _, _, _, _, _, _, _, _, q⟩ := got
    exact q.elim
  | ok fl =>
    cases fl with
    | ret u => exact got
    | next => exact got
    | brk => exact got
    | cont => exact got
end
/-- what a law promises -/
def sp_law : SpT := fun ts S R _ => match ts with
  | [.scr l] => (∃ ns : List Int, l = ns.map T.int ∧ ns.length ≤ 63) ∧ ∀ S', R (.bl true) S'
  | _ => False
theorem reps_ints {K : PySem.W.Frag} {Z : Addr → Prop} {S : Store} {H : Hp} : ∀ ns : List Int, Reps K Z S H (ns.map V.int) (ns.map T.int)
  | [] => .nil
  | n :: ns => .cons (.int n) (reps_ints ns)
theorem law_want (K : PySem.W.Frag) (H : Hp) (a : Addr) (ns : List Int) (hl : ns.length ≤ 63) (only : Only H) (hS : SqL K H a (ns.map V.int)) : UpF K sp_law [.ref a] H (fun v _ => v = .bl true) EF := by
  have sc : ScrAt K (fun _ => False) (fun _ => none) H a (ns.map V.int) := by
    rcases hS with h | h
    · refine .inl ⟨?_, rfl, id⟩
      rcases h with h | h
      · rcases only a with z | ⟨o, xs, z⟩
        · rw [h] at z; cases z
        · rw [h] at z; cases z
      · exact h
    · exact .inr h
  refine ⟨fun _ => False, [.scr (ns.map T.int)], fun _ => none, fun t _ => t = .bl true, XF, .cons (.scr sc (reps_ints ns)) .nil, ⟨fun _ => trivial, fun _ z => z.elim⟩, ⟨⟨ns, rfl, hl⟩, fun _ => rfl⟩, ?_, fun _ _ _ _ _ _ z => z.elim⟩
  intro t S' v H' e _ _ rep
  subst e
  cases rep
  rfl
theorem walkT {l : PySem.W.OpenLaw} {k : Nat} {q : Program} {loose : List Str} {XP : (Str → Option Value) → Heap → Prop} {YP : World → Heap → Prop} {d : DefRec} {K : Params → PySem.W.Frag} {x : Str}
    (hn : l.most = some 63) (hdf : d.params.defaults = []) (hr : Room k callerA) (hY : ∀ (w : World) (h : Heap), YP w h → (K w.params).In h)
    (F : ∀ (w : World) (mg : Str → Option Value) (fa : Addr) (h : Heap), (K w.params).In h → h.Ns mainGlobals mg → mg d.name = some (.ref fa) →
      ∃ fd : FuncData, (∀ (s : Shared) (u : Value), BindsTo s fd ⟨[u], []⟩ [(x, u)]) ∧ ∀ base : Heap, (K w.params).In base → base.Ns mainGlobals mg → FnT l.prog w (K w.params) mg base k fa fd [x] sp_law) :
    PySem.W.WalkO q loose XP YP l.row.toRowW d [] (fun f vs => PySem.call f vs) :=
  walkG hn (by rw [sizeLine_eq]; decide) hdf hr hY (sp := fun K vs H Q _ => UpF K sp_law vs H Q EF) (fun w mg fa h a b c => let ⟨fd, e, g⟩ := F w mg fa h a b c; ⟨fd, e, fun base i n => (g base i n).cx0⟩) fun K H a ns hl o s => law_want K H a ns hl o s

theorem roomR {k : Nat} {A : Around} (r : Room k A) : A.units + 70 < cLine := by have := r.un; omega
section
variable {P : Program} {w : World} {K : PySem.W.Frag} {mg : Str → Option Value} {base : Heap} {k : Nat} {f : Addr} {fd : FuncData} {ps : List Str} {sp : SpT}
/-- a def with keyword-only defaults -/
theorem okTK {x qual : Str} {st : Stmt} {N : List Str} {r : TRS} {dvs : List V} {kws : List (Str × V)} (F : FunD K x qual (defArgs st) (defBody st) (defScope st) dvs kws f fd) (S : FnScope N ps (defScope st)) (len : ∀ ts S R RE, sp ts S R RE → ts.length = ps.length)
    (bs : ∀ (cdv : Value) (A : Around) (out : List Env) (s : Shared) (H : Hp) (E : XK), A.guards = some [] → Room k (A.deeper (envOfC qual (defScope st) s.heap.objs.size f cdv)) → BS (cxT P w K mg base N qual (defScope st) f cdv A out s H E) E (defBody st) r)
    (hsp : ∀ ts S R RE, sp ts S R RE → r { nx := fun _ S' => R .non S', rt := R, ex := RE } (startT N ts) S) : FnT P w K mg base (k + 1) f fd ps sp := by
  obtain ⟨_, _, _, _, _, _, _, cdv, _, _, e, lk, code, _, _⟩ := F.ex
  subst e
  refine ⟨okG0 lk code S (fun vs H Q E q => ?_) fun A out s H vs Q E g rm q => up_body (bs cdv A out s H E g rm) hsp q⟩
  obtain ⟨Z, ts, S, R, RE, rs, ok, s, po, xo⟩ := q.ex
  exact rs.length.trans (len _ _ _ _ s)
end
section
variable {K : PySem.W.Frag} {x qual : Str} {st : Stmt} {f : Addr} {fd : FuncData} {ps : List Str} {dvs : List V} {dts : List T} {kws : List (Str × V)}
theorem Fun.cb (F : Fun K x qual st f fd) (n : Nat) (ks : List Str) (pk : List (Nat × Nat))
    (h : ∀ (kV doc pm : Value) (an : Option Addr) (cdv ct : Value) (us ws : List Value), us.length = n → ws.length = ks.length → bindArgs (PySem.W.fnOf x qual (defArgs st) (defBody st) (defScope st) .none kV doc pm an cdv ct) ⟨us, ks.zip ws⟩ = pure (ps.zip (pickG pk us [] ws))) :
    CallB K fd ps n ks (fun ts zs => pickG pk ts [] zs) := by
  obtain ⟨oc, od, kV, doc, pm, an, cdv, ct, osl, e, lk, hcd⟩ := F.ex
  subst e
  exact ⟨fun us ws => pickG pk us [] ws, fun vs zs => pickG pk vs [] zs, ⟨fun s us ws _ l1 l2 => .of_eq (h kV doc pm an cdv ct us ws l1 l2), fun r1 r2 => pick_vals r1 .nil r2 pk⟩, pick_ord DefT.nil pk⟩
theorem FunK.cb (F : FunD K x qual (defArgs st) (defBody st) (defScope st) [] kws f fd) (n : Nat) (ks : List Str) (pk : List (Nat × Nat))
    (h : ∀ (kV doc pm : Value) (an : Option Addr) (cdv ct : Value) (us ws : List Value), us.length = n → ws.length = ks.length → bindArgs (PySem.W.fnOf x qual (defArgs st) (defBody st) (defScope st) .none kV doc pm an cdv ct) ⟨us, ks.zip ws⟩ = pure (ps.zip (pickG pk us [] ws))) :
    CallB K fd ps n ks (fun ts zs => pickG pk ts [] zs) := by
  obtain ⟨oc, od, dV, kV, doc, pm, an, cdv, ct, osl, e, lk, hcd, hD, hK⟩ := F.ex
  subst e
  rcases hD with ⟨_, e⟩ | ⟨e, _⟩
  · subst e
    exact ⟨fun us ws => pickG pk us [] ws, fun vs zs => pickG pk vs [] zs, ⟨fun s us ws _ l1 l2 => .of_eq (h kV doc pm an cdv ct us ws l1 l2), fun r1 r2 => pick_vals r1 .nil r2 pk⟩, pick_ord DefT.nil pk⟩
  · exact absurd rfl e
theorem FunK.cd (F : FunD K x qual (defArgs st) (defBody st) (defScope st) [] kws f fd) (n : Nat) (hk : kws ≠ []) (hn : n + kws.length = ps.length) (d : DefT K (kws.map (·.2)) dts)
    (h : ∀ (D : Addr) (doc pm : Value) (an : Option Addr) (cdv ct : Value) (us ks : List Value), us.length = n → ks.length = kws.length →
      KwChain D ((kws.map (·.1)).zip ks) (bindArgs (PySem.W.fnOf x qual (defArgs st) (defBody st) (defScope st) .none (.ref D) doc pm an cdv ct) ⟨us, []⟩) (ps.zip (us ++ ks))) : CallD K fd ps dts := by
  obtain ⟨ds, r, b⟩ := F.binds0 n hk hn h
  exact ⟨ds, _, b, r, d⟩
theorem FunP.cd (F : FunD K x qual (defArgs st) (defBody st) (defScope st) dvs [] f fd) (n j : Nat) (hd : dvs ≠ []) (hn : n + (dvs.length - j) = ps.length) (d : DefT K (dvs.drop j) dts)
    (h : ∀ (T : Addr) (kV doc pm : Value) (an : Option Addr) (cdv ct : Value) (us its : List Value), us.length = n → its.length = dvs.length →
      ∃ k, bindArgs (PySem.W.fnOf x qual (defArgs st) (defBody st) (defScope st) (.ref T) kV doc pm an cdv ct) ⟨us, []⟩ = seqItems? (.ref T) >>= k ∧ k (some its.toArray) = pure (ps.zip (us ++ its.drop j))) : CallD K fd ps dts := by
  obtain ⟨ds, r, b⟩ := F.binds1 n j hd hn h
  exact ⟨ds, _, b, r, d⟩
theorem FunP.cb (F : FunD K x qual (defArgs st) (defBody st) (defScope st) dvs [] f fd) (n : Nat) (ks : List Str) (pk : List (Nat × Nat)) (hd : dvs ≠ []) (d : DefT K dvs dts)
    (h : ∀ (T : Addr) (kV doc pm : Value) (an : Option Addr) (cdv ct : Value) (us its ws : List Value), us.length = n → its.length = dvs.length → ws.length = ks.length →
      ∃ k, bindArgs (PySem.W.fnOf x qual (defArgs st) (defBody st) (defScope st) (.ref T) kV doc pm an cdv ct) ⟨us, ks.zip ws⟩ = seqItems? (.ref T) >>= k ∧ k (some its.toArray) = pure (ps.zip (pickG pk us its ws))) :
    CallB K fd ps n ks (fun ts zs => pickG pk ts dts zs) := by
  obtain ⟨oc, od, dV, kV, doc, pm, an, cdv, ct, osl, e, lk, hcd, hD, hK⟩ := F.ex
  subst e
  rcases hD with ⟨e, _⟩ | ⟨_, A, o, its, m, e, lT, oT, rT⟩
  · exact absurd e hd
  · subst e
    refine ⟨fun us ws => pickG pk us its ws, fun vs zs => pickG pk vs dvs zs, ⟨fun s us ws inK l1 l2 => ?_, fun r1 r2 => pick_vals r1 rT r2 pk⟩, pick_ord d pk⟩
    obtain ⟨k, e1, e2⟩ := h A kV doc pm an cdv ct us its ws l1 rT.length.symm l2
    refine BindsTo.of_looks fun M => ?_
    rw [e1]
    exact looks_items inK lT oT (.of_pure e2)
end

/-! a != b where the class has an own __eq__ and no own __ne__ -/
namespace NeOwn
open PySem PySem.Calls PyProof.Rows
section
variable {prog : Program} {w : World} {A : Around} {E : Value → Shared → Prop} {s : Shared} {K : PySem.W.Frag} {x C f : Addr} {ox : Obj} {od : Option Obj} {b tb : Value}
/-- the answer of __eq__, turned about -/
def Neg (Q : Value → Shared → Prop) (r : Value) (s' : Shared) : Prop := ∃ c, r = .bool c ∧ Q (.bool (!c)) s'
theorem body {Q : Fin → Shared → Prop} (inK : K.In s.heap) (I : PySem.W.InstAt s.heap x ox C od) (hu : A.units < cLine) (he : PySem.W.findIn K (.ref C) "__eq__" = some (some (.ref f))) (hf : PySem.W.isFn K (.ref f) = true)
    (hc : wpAny (model prog w) A (call (.ref f) [.ref x, b]) (Neg fun r s' => Q (.done (.ret r)) s') E s) : wpAny (model prog w) A (Builtin.«object.__ne__» ⟨[.ref x, b], []⟩) Q E s := by
  unfold Builtin.«object.__ne__»
  repeat (first
    | with_reducible refine wpAny_cRoomFor hu ?_
    | (refine wpAny_bind (m := callSpecialIfBound? (.ref x) (Str.ofString "__eq__") [b]) (PySem.W.ifBound_K inK I he hf (wpAny_mono hc (fun r s' got => by
          obtain ⟨c, rfl, hq⟩ := got
          repeat (first | exact hq | exact wpAny_pure hq | exact wpAny_truthy_bool hq | (refine wpAny_bind (m := truthy (.bool _)) (wpAny_truthy_bool ?_)) | wp_step)) fun _ _ z => z)))
    | wp_step)
theorem slot {args : List Value} {Q : Option Value → Shared → Prop} (inK : K.In s.heap) (I : PySem.W.InstAt s.heap x ox C od) (hs : PySem.W.findIn K (.ref C) "__ne__" = some (some (.builtin "object.__ne__")))
    (hc : wpAny (model prog w) A (call (.builtin "object.__ne__") (.ref x :: args)) (fun r => Q (some r)) E s) : wpAny (model prog w) A (callSpecialIfBound? (.ref x) "__ne__" args) Q E s := by
  simp only [callSpecialIfBound?, bindSpecialIfBound?]
  have last : wpAny (model prog w) A (call (.builtin "object.__ne__") ([.ref x] ++ args) >>= fun r => pure (some r)) Q E s := wpAny_bind (wpAny_mono hc (fun r s' z => wpAny_pure z) fun _ _ z => z)
  have bd := PySem.F.cmp_object.ne.bind (Value.ref x)
  refine wpAny_holding (wpAny_bind (wpAny_bind (wpAny_bind (I.type.here ((PySem.W.looks_findIn inK hs).here (wpAny_bind (wpAny_askSetting (wpAny_ite ?_))))))))
  split
  · exact wpAny_bind (wpAny_of_eq bd (wpAny_pure (by exact last)))
  · exact wpAny_tryCatch (wpAny_bind (wpAny_of_eq bd (wpAny_pure (by exact last))))
theorem ne_K {Q : Value → Shared → Prop} (hu : A.units + 1 < cLine) (inK : K.In s.heap) (I : PySem.W.InstAt s.heap x ox C od) (hb : PySem.W.Looks (model prog w) s.heap (typeOf b) (.ref C))
    (hs : PySem.W.findIn K (.ref C) "__ne__" = some (some (.builtin "object.__ne__"))) (hm : PySem.W.mroIn K C (.type "object") = some true) (he : PySem.W.findIn K (.ref C) "__eq__" = some (some (.ref f))) (hf : PySem.W.isFn K (.ref f) = true)
    (hc : wpAny (model prog w) A.in1 (call (.ref f) [.ref x, b]) (Neg Q) E s) : wpAny (model prog w) A (richCompare .NotEq (.ref x) b) Q E s := by
  have once : wpAny (model prog w) A (tryCompare (.ref x) "__ne__" b) (fun r s' => ∃ c, r = some (.bool c) ∧ Q (.bool c) s') E s := by
    simp only [tryCompare]
    refine wpAny_bind (slot inK I hs (wpAny_call (codeAny_call_builtin PySem.F.cmp_object.ne.plain PySem.F.cmpEntry_ne (PySem.W.check_slot PySem.F.cmpKind_ne PySem.F.cmpSplit_ne (I.type.andThen (PySem.W.looks_mroIn inK hm)) (PySem.F.cmpArgs_ne _ _)
      (body (A := A.in1) inK I hu he hf (wpAny_mono hc (fun r s' got => ?_) fun _ _ z => z))))))
    obtain ⟨c, rfl, hq⟩ := got
    exact ⟨c, rfl, wpAny_pure ⟨!c, rfl, hq⟩⟩
  unfold richCompare
  simp only [oneThing_ref]
  refine wpAny_holding (wpAny_bind (wpAny_cRoomFor (Nat.lt_of_succ_lt hu) (wpAny_bind (I.type.here (wpAny_bind (hb.here ?_))))))
  split
  · rename_i q
    exact absurd q (by simp)
  · refine wpAny_bind (wpAny_pure ?_)
    rw [if_neg Bool.false_ne_true]
    refine wpAny_bind (wpAny_mono once (fun r s' got => ?_) fun _ _ z => z)
    obtain ⟨c, rfl, hq⟩ := got
    exact wpAny_pure hq
end
end NeOwn
/-- an operator's rule told of trees -/
def RK (K : PySem.W.Frag) (E : XK) (k : KB) : R2 := fun v u H Q => ∃ Z x y S R RE, Ok K Z S H ∧ Rep K Z S H v x ∧ Rep K Z S H u y ∧ k x y S R RE ∧ PO K Z S H R Q ∧ XOk K Z S H RE E
theorem cv_RK {K : PySem.W.Frag} {E : XK} {k : KB} : Conv K E k (RK K E k) := fun Z x y S _ _ _ R RE _ ok rx ry kk po xo => ⟨Z, x, y, S, R, RE, ok, rx, ry, kk, po, xo⟩
/-- what the class at C says of == and != -/
structure EqO (K : PySem.W.Frag) (C f : Addr) : Prop where
  eq : PySem.W.findIn K (.ref C) "__eq__" = some (some (.ref f))
  fn : PySem.W.isFn K (.ref f) = true
  ne : PySem.W.findIn K (.ref C) "__ne__" = some (some (.builtin "object.__ne__"))
  mro : PySem.W.mroIn K C (.type "object") = some true
def kEqOwn (C : Addr) (sp : SpT) (ng : Bool) : KB := fun x y S R RE => (∃ gs, insOf x S = some (C, gs)) ∧ (∃ gs, insOf y S = some (C, gs)) ∧ sp [x, y] S (fun z S' => ∃ c, z = .bl c ∧ R (.bl (ng ^^ c)) S') RE
section
variable {X : Cx} {E : XK} {C f : Addr} {fd : FuncData} {k : Nat} {ps : List Str} {sp : SpT}
theorem op_eqOwnT (O : EqO X.K C f) (F : FnT X.prog X.w X.K X.mg X.base k f fd ps sp) (gds : X.A.guards = some []) (hr : Room k X.A) (hb : Binds X.K fd ps []) (hx : Passes (L2N.CX X.prog X.w) X E) : OpR X (compareOp .Eq) (RK X.K E (kEqOwn C sp false)) := by
  intro pins s sl H v u w z Q inv rv ru want
  obtain ⟨Z, x, y, S, R, RE, ok, rx, ry, ⟨⟨gs, hi⟩, ⟨gs2, hi2⟩, kk⟩, po, xo⟩ := want
  obtain ⟨a, dx, fs, rfl, hH, _⟩ := ins_rep ok rx hi
  obtain ⟨b, dy, fs2, rfl, hH2, _⟩ := ins_rep ok ry hi2
  obtain rfl : w = Value.ref a := rv
  obtain rfl : z = Value.ref b := ru
  obtain ⟨mA, OA, _⟩ := ins_get inv.hok hH
  obtain ⟨od, J, _⟩ := OA.look
  obtain ⟨mB, OB, _⟩ := ins_get inv.hok hH2
  obtain ⟨od2, J2, _⟩ := OB.look
  obtain ⟨m, fr⟩ := inv.fr
  have up : UpF X.K sp [.ref a, .ref b] H (fun v H' => ∃ c, v = .bl c ∧ Q (.bl c) H') E := ⟨Z, [x, y], S, _, RE, .cons rx (.cons ry .nil), ok, kk, fun t S' v H' kt le ok' rep => by
    obtain ⟨c, rfl, kt⟩ := kt
    rw [Bool.false_xor] at kt
    cases rep
    exact ⟨c, rfl, po _ _ _ _ kt le ok' (.bl c)⟩, xo⟩
  have vv : Vals [V.ref a, V.ref b] [Value.ref a, Value.ref b] := .cons rfl (.cons rfl .nil)
  have hl : ([Value.ref a, Value.ref b] ++ []).length = ps.length := vv.length.symm.trans (F.fn.len _ _ _ _ up)
  show wpAny (model X.prog X.w) X.A (richCompare .Eq (.ref a) (.ref b)) (EP X pins sl Q) X.xe s
  refine PySem.W.cmp_K (op := .Eq) (tb := .ref C) (by have := hr.un; omega) fr inv.ok.mod.kin J J2.type (by simp [PySem.W.notFirst]) O.eq O.fn ?_
  refine thn (goT F gds hr hx inv (hb s [.ref a, .ref b] inv.kIn hl) vv up) fun r s' got => ?_
  obtain ⟨v, H', I2, r2, c, rfl, q⟩ := got
  cases r2
  exact ⟨.bl c, H', I2, rfl, q⟩
theorem op_neOwnT (O : EqO X.K C f) (F : FnT X.prog X.w X.K X.mg X.base k f fd ps sp) (gds : X.A.guards = some []) (hr : Room (k + 1) X.A) (hb : Binds X.K fd ps []) (hx : Passes (L2N.CX X.prog X.w) X E) : OpR X (compareOp .NotEq) (RK X.K E (kEqOwn C sp true)) := by
  intro pins s sl H v u w z Q inv rv ru want
  obtain ⟨Z, x, y, S, R, RE, ok, rx, ry, ⟨⟨gs, hi⟩, ⟨gs2, hi2⟩, kk⟩, po, xo⟩ := want
  obtain ⟨a, dx, fs, rfl, hH, _⟩ := ins_rep ok rx hi
  obtain ⟨b, dy, fs2, rfl, hH2, _⟩ := ins_rep ok ry hi2
  obtain rfl : w = Value.ref a := rv
  obtain rfl : z = Value.ref b := ru
  obtain ⟨mA, OA, _⟩ := ins_get inv.hok hH
  obtain ⟨od, J, _⟩ := OA.look
  obtain ⟨mB, OB, _⟩ := ins_get inv.hok hH2
  obtain ⟨od2, J2, _⟩ := OB.look
  have up : UpF X.K sp [.ref a, .ref b] H (fun v H' => ∃ c, v = .bl c ∧ Q (.bl (!c)) H') E := ⟨Z, [x, y], S, _, RE, .cons rx (.cons ry .nil), ok, kk, fun t S' v H' kt le ok' rep => by
    obtain ⟨c, rfl, kt⟩ := kt
    rw [Bool.true_xor] at kt
    cases rep
    exact ⟨c, rfl, po _ _ _ _ kt le ok' (.bl _)⟩, xo⟩
  have vv : Vals [V.ref a, V.ref b] [Value.ref a, Value.ref b] := .cons rfl (.cons rfl .nil)
  have hl : ([Value.ref a, Value.ref b] ++ []).length = ps.length := vv.length.symm.trans (F.fn.len _ _ _ _ up)
  show wpAny (model X.prog X.w) X.A (richCompare .NotEq (.ref a) (.ref b)) (EP X pins sl Q) X.xe s
  refine NeOwn.ne_K (by have := hr.un; omega) inv.kIn J J2.type O.ne O.mro O.eq O.fn ?_
  refine wpAny_call (codeAny_mono (F.fn.go X.A.in1 X.stack s H ⟨[.ref a, .ref b], []⟩ ([Value.ref a, Value.ref b] ++ []) [V.ref a, V.ref b] _ E (by first | exact gds | simpa [Around.in1] using gds) hr.in1 inv.env0.in1 (hb s [.ref a, .ref b] inv.kIn hl) (by rw [List.append_nil]; exact vv) up) fun r s' got => ?_)
  cases r with
  | error er => exact hx pins sl H s er s' inv got
  | ok fl =>
    cases fl with
    | ret t =>
      obtain ⟨v, H', I3, rz, c, rfl, q⟩ := inv.after got
      cases rz
      exact ⟨c, rfl, .bl (!c), H', I3, rfl, q⟩
    | next => exact got.elim
    | brk => exact got.elim
    | cont => exact got.elim
end
section
variable {X : Cx} {E : XK} {C : Addr} {x : Str} {p pos : Pos}
/-- a class that is made without an __init__ -/
structure MkP (K : PySem.W.Frag) (D : Addr) : Prop where
  mks : PySem.W.makesIn K D = true
  kp : PySem.W.keepIn K (.ref D) = true
  hi : PySem.W.findIn K (.ref D) "__init__" = some (some (.builtin "object.__init__"))
  mr : PySem.W.mroIn K D (.type "object") = some true
def rMakeP (C : Addr) : TR := fun _ S R _ => R (.ins C []) S
set_option maxHeartbeats 1000000 in
theorem et_makeP (M : MkP X.K C)
    (hg : Gl X x) (hm : X.mg x = some (.ref C)) (hdb : (x == ("__debug__" : Str)) = false := by decide) : ET X E (.Call (.Name x p) [] [] pos) (rMakeP C) := by
  obtain ⟨hmk, kp, hi, hmr⟩ := M
  refine ⟨⟨fun pins s sl H Q I h => ?_⟩⟩
  obtain ⟨Z, σ, S, R, RE, fr, ok, w, po, xo⟩ := h.ex
  refine wpAny_Call_Name_kw (ld_glob I hg hm ?_ hdb)
  refine PySem.W.callWith_K0 I.kIn kp (wpAny_call ?_)
  have nx : H (s.heap.objs.size + 1) = none := I.hok.fresh (Nat.le_succ _)
  have nd : H s.heap.objs.size = none := I.hok.fresh (Nat.le_refl _)
  have I2 := Inv.made (C := C) I
  have nx1 : upd H s.heap.objs.size (.own (s.heap.objs.size + 1)) (s.heap.objs.size + 1) = none := by rw [upd_ne (Nat.succ_ne_self _)]; exact nx
  have ok1 : Ok X.K Z S (upd H s.heap.objs.size (.own (s.heap.objs.size + 1))) := ok.new nd
  have at_ : upd (upd H s.heap.objs.size (.own (s.heap.objs.size + 1))) (s.heap.objs.size + 1) (.ins C s.heap.objs.size []) (s.heap.objs.size + 1) = some (.ins C s.heap.objs.size []) := upd_same
  obtain ⟨mA, O, _⟩ := ins_get I2.hok at_
  obtain ⟨od, J, _⟩ := O.look
  refine make_map0 I.kIn hmk hi (fun self => PySem.W.Looks.of_pure (PySem.W.oi_bind self)) ?_
  have isO : PySem.W.Looks (model X.prog X.w) _ (isInstance (.ref (s.heap.objs.size + 1)) (.type "object")) true := J.type.andThen (PySem.W.looks_mroIn I2.kIn hmr)
  refine codeAny_call_builtin PySem.W.oi_plain PySem.W.entry_oi (@PySem.W.check_slot (model X.prog X.w) _ _ _ "object.__init__" "object" "__init__" (.ref (s.heap.objs.size + 1)) [] [] _ PySem.W.oi_kind PySem.W.oi_split isO (PySem.W.oi_args (.ref (s.heap.objs.size + 1))) ?_)
  rw [PySem.W.oi_run]
  have le2 : Le S H S (upd (upd H s.heap.objs.size (.own (s.heap.objs.size + 1))) (s.heap.objs.size + 1) (.ins C s.heap.objs.size [])) := (le_new nd).trans (le_new nx1)
  have rp : Rep X.K Z S (upd (upd H s.heap.objs.size (.own (s.heap.objs.size + 1))) (s.heap.objs.size + 1) (.ins C s.heap.objs.size [])) (.ref (s.heap.objs.size + 1)) (.ins C []) := .ins upd_same ⟨ok1.free nx1, ok1.nz nx1⟩ .nil
  have qq := po _ S _ _ w le2 (ok1.new nx1) rp
  exact wpAny_pure ⟨rfl, V.ref (s.heap.objs.size + 1), _, I2, rfl, qq⟩
end
section
variable {K : PySem.W.Frag} {x qual : Str} {st : Stmt} {f : Addr} {fd : FuncData} {ps : List Str} {dvs : List V}
/-- a def with defaults, every parameter written -/
theorem FunP.b (F : FunD K x qual (defArgs st) (defBody st) (defScope st) dvs [] f fd) (hd : dvs ≠ [])
    (h : ∀ (T : Addr) (kV doc pm : Value) (an : Option Addr) (cdv ct : Value) (us its : List Value), us.length = ps.length → its.length = dvs.length →
      ∃ k, bindArgs (PySem.W.fnOf x qual (defArgs st) (defBody st) (defScope st) (.ref T) kV doc pm an cdv ct) ⟨us, []⟩ = seqItems? (.ref T) >>= k ∧ k (some its.toArray) = pure (ps.zip us)) : Binds K fd ps [] := by
  obtain ⟨ds, r, b⟩ := F.binds1 (ps := ps) ps.length dvs.length hd (by omega) fun T kV doc pm an cdv ct us its l1 l2 => by
    obtain ⟨k, e1, e2⟩ := h T kV doc pm an cdv ct us its l1 l2
    exact ⟨k, e1, by rw [e2, ← l2, List.drop_length, List.append_nil]⟩
  rw [List.drop_length] at r
  cases r
  exact b
end

/-! a in (b, c), by the class's own __eq__ -/
namespace InOwn
open PySem PySem.Calls PyProof.Rows
section
variable {prog : Program} {w : World} {A : Around} {E : Value → Shared → Prop} {s : Shared} {l x : Addr} {items : Array Value}
theorem body {Q : Fin → Shared → Prop} (hl : IsTup s.heap l items) (I : List Value → Shared → Prop)
    (turn : ∀ y rest s, I (y :: rest) s → wpAny (model prog w) A (eqBool y (.ref x)) (fun r s' => if r = true then Q (.done (.ret (.bool true))) s' else I rest s') E s)
    (fin : ∀ s, I [] s → Q (.done (.ret (.bool false))) s) (h : I items.toList s) : wpAny (model prog w) A (Builtin.«tuple.__contains__» ⟨[.ref l, .ref x], []⟩) Q E s := by
  show wpAny _ _ (Builtin.Tuple.tupleItemsOf (.ref l) >>= _) _ _ s
  refine wpAny_bind (tupleItemsOf_ hl ?_)
  refine wpAny_bind (forIn_array_ _ (fun rest b s' => b.1 = none ∧ I rest s') _ ?_ ?_ items _ ⟨rfl, h⟩)
  · rintro y rest b s' ⟨hb, hI⟩
    refine wpAny_bind (wpAny_mono (turn y rest s' hI) (fun r s2 got => ?_) fun _ _ z => z)
    cases r with
    | true => exact wpAny_bind (wpAny_pure (wpAny_pure (wpAny_pure (by simpa using got))))
    | false => exact wpAny_pure ⟨rfl, by simpa using got⟩
  · rintro ⟨b1, b2⟩ s' ⟨hb, hI⟩
    simp only at hb
    subst hb
    exact wpAny_pure (fin s' hI)
theorem has {Q : Bool → Shared → Prop} (hl : IsTup s.heap l items) (I : List Value → Shared → Prop)
    (turn : ∀ y rest s, I (y :: rest) s → wpAny (model prog w) A.in1 (eqBool y (.ref x)) (fun r s' => if r = true then Q true s' else I rest s') E s)
    (fin : ∀ s, I [] s → Q false s) (h : I items.toList s) : wpAny (model prog w) A (contains (.ref l) (.ref x)) Q E s := by
  unfold contains
  refine wpAny_holding ?_
  refine wpAny_bind (wpAny_specialOf hl.typeIs slot_tuple_contains.lookup ?_)
  rw [if_neg (by decide)]
  exact wpAny_bind (wpAny_callSpecialUnlessNone?_slot (name := Str.ofString "__contains__") hl.typeIs slot_tuple_contains
    (wpAny_call_entry slot_tuple_contains hl.typeIs entry_tuple_contains (body hl I (fun y rest s' z => wpAny_mono (turn y rest s' z) (fun r s2 q => by
      cases r with
      | true => exact ⟨_, rfl, wpAny_truthy_bool (by simpa using q)⟩
      | false => simpa using q) fun _ _ z => z) (fun s' z => ⟨_, rfl, wpAny_truthy_bool (fin s' z)⟩) h) (args_tuple_contains _ _)))
end
end InOwn
/-! x in o by the class's own __contains__ -/
structure InO (K : PySem.W.Frag) (C f : Addr) : Prop where
  at_ : PySem.W.findIn K (.ref C) "__contains__" = some (some (.ref f))
  fn : PySem.W.isFn K (.ref f) = true
def kInOwn (C : Addr) (sp : SpT) (ng : Bool) : KB := fun x y S R RE => (∃ gs, insOf y S = some (C, gs)) ∧ sp [y, x] S (fun z S' => ∃ c, z = .bl c ∧ R (.bl (ng ^^ c)) S') RE
section
variable {X : Cx} {E : XK} {C f : Addr} {fd : FuncData} {k : Nat} {ps : List Str} {sp : SpT}
theorem op_inOwnT (O : InO X.K C f) (F : FnT X.prog X.w X.K X.mg X.base k f fd ps sp) (gds : X.A.guards = some []) (hr : Room k X.A) (hb : Binds X.K fd ps []) (hx : Passes (L2N.CX X.prog X.w) X E) : OpR X (compareOp .In) (RK X.K E (kInOwn C sp false)) := by
  intro pins s sl H v u w z Q inv rv ru want
  obtain ⟨Z, x, y, S, R, RE, ok, rx, ry, ⟨⟨gs, hi⟩, kk⟩, po, xo⟩ := want
  obtain ⟨b, dy, fs2, rfl, hH2, _⟩ := ins_rep ok ry hi
  obtain rfl : z = Value.ref b := ru
  obtain ⟨mB, OB, _⟩ := ins_get inv.hok hH2
  obtain ⟨od2, J2, _⟩ := OB.look
  obtain ⟨m, fr⟩ := inv.fr
  have up : UpF X.K sp [.ref b, v] H (fun v H' => ∃ c, v = .bl c ∧ Q (.bl c) H') E := ⟨Z, [y, x], S, _, RE, .cons ry (.cons rx .nil), ok, kk, fun t S' v H' kt le ok' rep => by
    obtain ⟨c, rfl, kt⟩ := kt
    rw [Bool.false_xor] at kt
    cases rep
    exact ⟨c, rfl, po _ _ _ _ kt le ok' (.bl c)⟩, xo⟩
  have vv : Vals [V.ref b, v] [Value.ref b, w] := .cons rfl (.cons rv .nil)
  have hl : ([Value.ref b, w] ++ []).length = ps.length := vv.length.symm.trans (F.fn.len _ _ _ _ up)
  refine PySem.W.in_K fr inv.ok.mod.kin J2 O.at_ O.fn (thn (goT F gds hr hx inv (hb s [.ref b, w] inv.kIn hl) vv up) fun r s' got => ?_)
  obtain ⟨v, H', I2, r2, c, rfl, q⟩ := got
  cases r2
  exact wpAny_truthy_bool ⟨.bl c, H', I2, rfl, q⟩
theorem op_ninOwnT (O : InO X.K C f) (F : FnT X.prog X.w X.K X.mg X.base k f fd ps sp) (gds : X.A.guards = some []) (hr : Room k X.A) (hb : Binds X.K fd ps []) (hx : Passes (L2N.CX X.prog X.w) X E) : OpR X (compareOp .NotIn) (RK X.K E (kInOwn C sp true)) := by
  intro pins s sl H v u w z Q inv rv ru want
  obtain ⟨Z, x, y, S, R, RE, ok, rx, ry, ⟨⟨gs, hi⟩, kk⟩, po, xo⟩ := want
  obtain ⟨b, dy, fs2, rfl, hH2, _⟩ := ins_rep ok ry hi
  obtain rfl : z = Value.ref b := ru
  obtain ⟨mB, OB, _⟩ := ins_get inv.hok hH2
  obtain ⟨od2, J2, _⟩ := OB.look
  obtain ⟨m, fr⟩ := inv.fr
  have up : UpF X.K sp [.ref b, v] H (fun v H' => ∃ c, v = .bl c ∧ Q (.bl (!c)) H') E := ⟨Z, [y, x], S, _, RE, .cons ry (.cons rx .nil), ok, kk, fun t S' v H' kt le ok' rep => by
    obtain ⟨c, rfl, kt⟩ := kt
    rw [Bool.true_xor] at kt
    cases rep
    exact ⟨c, rfl, po _ _ _ _ kt le ok' (.bl _)⟩, xo⟩
  have vv : Vals [V.ref b, v] [Value.ref b, w] := .cons rfl (.cons rv .nil)
  have hl : ([Value.ref b, w] ++ []).length = ps.length := vv.length.symm.trans (F.fn.len _ _ _ _ up)
  refine PySem.W.notIn_K fr inv.ok.mod.kin J2 O.at_ O.fn (thn (goT F gds hr hx inv (hb s [.ref b, w] inv.kIn hl) vv up) fun r s' got => ?_)
  obtain ⟨v, H', I2, r2, c, rfl, q⟩ := got
  cases r2
  exact wpAny_truthy_bool ⟨.bl (!c), H', I2, rfl, q⟩
end
/-! x in (a, b, ..) by the elements' own __eq__; one thing is itself, whatever __eq__ says -/
def inOwnL (C : Addr) (sp : SpT) (x : T) (R : Bool → Store → Prop) (RE : XT) : List T → Store → Prop
  | [], S => R false S
  | y :: ys, S => R true S ∧ (∃ gs, insOf y S = some (C, gs)) ∧ sp [y, x] S (fun z S' => ∃ c, z = .bl c ∧ if c = true then R true S' else inOwnL C sp x R RE ys S') RE
def kInTup (C : Addr) (sp : SpT) : KB := fun x y S R RE => ∃ l, y = .tup l ∧ (∃ gs, x = .ins C gs) ∧ inOwnL C sp x (fun b S' => R (.bl b) S') RE l S
section
variable {X : Cx} {E : XK} {C f : Addr} {fd : FuncData} {k : Nat} {ps : List Str} {sp : SpT}
theorem op_inTupT (O : EqO X.K C f) (F : FnT X.prog X.w X.K X.mg X.base k f fd ps sp) (gds : X.A.guards = some []) (hr : Room (k + 1) X.A) (hb : Binds X.K fd ps []) (hx : Passes (L2N.CX X.prog X.w) X E) : OpR X (compareOp .In) (RK X.K E (kInTup C sp)) := by
  intro pins s sl H v u w z Q inv rv ru want
  obtain ⟨Z, x, y, S, R, RE, ok, rx, ry, ⟨l, rfl, ⟨gx, rfl⟩, kk⟩, po, xo⟩ := want
  obtain ⟨xa, dx, fs, rfl, hH, _⟩ := ins_rep ok rx (rfl : insOf (.ins C gx) S = some (C, gx))
  obtain rfl : w = Value.ref xa := rv
  cases ry with
  | @tup p vs ts h1 r1 =>
    obtain rfl : z = Value.ref p := ru
    obtain ⟨its, rv1, pl, _⟩ := inv.tuple h1.sq
    refine wpAny_bind (InOwn.has (items := its.toArray) pl (fun rest s' => ∃ H' S' vs' ts', Inv X pins sl H' s' ∧ Ok X.K Z S' H' ∧ Le S H S' H' ∧ Vals vs' rest ∧ Reps X.K Z S' H' vs' ts' ∧ Rep X.K Z S' H' (.ref xa) (.ins C gx) ∧ inOwnL C sp (.ins C gx) (fun b S' => R (.bl b) S') RE ts' S')
      ?_ ?_ ⟨H, S, vs, l, inv, ok, .refl, by simpa using rv1, r1, rx, kk⟩)
    · rintro yv rest s' ⟨H', S', vs', ts', inv', ok', le', rv', rs', rx', kk'⟩
      cases rv' with
      | @cons v1 u1 vs1 us1 e1 e2 =>
        cases rs' with
        | @cons _ y1 _ ts1 ry1 rs1 =>
          obtain ⟨kT, ⟨gs1, hi1⟩, kS⟩ := kk'
          obtain ⟨b, dy, fy, rfl, hb1, _⟩ := ins_rep ok' ry1 hi1
          obtain rfl : yv = Value.ref b := e1
          obtain ⟨a2, dx2, fx2, ea, hHx, _⟩ := ins_rep ok' rx' (rfl : insOf (.ins C gx) S' = some (C, gx))
          cases ea
          have fin : ∀ H2 S2 s2, Inv X pins sl H2 s2 → Ok X.K Z S2 H2 → Le S H S2 H2 → R (.bl true) S2 → EP X pins sl Q (.bool true) s2 := fun H2 S2 s2 I2 o2 l2 k2 => ⟨.bl true, H2, I2, rfl, po _ _ _ _ k2 l2 o2 (.bl true)⟩
          by_cases same : b = xa
          · subst same
            have e : ((Value.ref b) == (Value.ref b)) = true := by simp
            unfold eqBool
            refine wpAny_holding ?_
            rw [if_pos e]
            refine wpAny_bind (wpAny_rule ?_)
            refine wpAny_pure ?_
            rw [if_pos rfl]
            exact wpAny_pure (fin H' S' _ inv' ok' le' kT)
          · obtain ⟨mA, OA, _⟩ := ins_get inv'.hok hb1
            obtain ⟨od, J, _⟩ := OA.look
            obtain ⟨mB, OB, _⟩ := ins_get inv'.hok hHx
            obtain ⟨od2, J2, _⟩ := OB.look
            obtain ⟨m, fr⟩ := inv'.fr
            have up : UpF X.K sp [.ref b, .ref xa] H' (fun v H2 => ∃ c, v = .bl c ∧ ∃ S2, Le S' H' S2 H2 ∧ Ok X.K Z S2 H2 ∧ if c = true then R (.bl true) S2 else inOwnL C sp (.ins C gx) (fun b S' => R (.bl b) S') RE ts1 S2) E := ⟨Z, [y1, .ins C gx], S', _, RE, .cons ry1 (.cons rx' .nil), ok', kS, fun t S2 v H2 kt le2 ok2 rep => by
              obtain ⟨c, rfl, kt⟩ := kt
              cases rep
              exact ⟨c, rfl, S2, le2, ok2, kt⟩, xo.le le'⟩
            have vv : Vals [V.ref b, V.ref xa] [Value.ref b, Value.ref xa] := .cons rfl (.cons rfl .nil)
            have hl : ([Value.ref b, Value.ref xa] ++ []).length = ps.length := vv.length.symm.trans (F.fn.len _ _ _ _ up)
            refine GQ.eqBool_refG same ?_
            refine PySem.W.cmp_K (op := .Eq) (tb := .ref C) (by have := hr.in1.un; omega) fr inv'.ok.mod.kin J J2.type (by simp [PySem.W.notFirst]) O.eq O.fn ?_
            refine wpAny_call (codeAny_mono (F.fn.go X.A.in1 X.stack s' H' ⟨[.ref b, .ref xa], []⟩ ([Value.ref b, Value.ref xa] ++ []) [V.ref b, V.ref xa] _ E (by first | exact gds | simpa [Around.in1] using gds) hr.in1 inv'.env0.in1 (hb s' [.ref b, .ref xa] inv'.kIn hl) (by rw [List.append_nil]; exact vv) up) fun r s2 got => ?_)
            cases r with
            | error er => exact hx pins sl H' s' er s2 inv' got
            | ok fl =>
              cases fl with
              | ret t =>
                obtain ⟨v, H2, I3, rz, c, rfl, S2, l2, o2, q⟩ := inv'.after got
                cases rz
                refine ⟨c, rfl, ?_⟩
                cases c with
                | true => exact wpAny_pure (fin H2 S2 _ I3 o2 (le'.trans l2) q)
                | false => exact ⟨H2, S2, vs1, ts1, I3, o2, le'.trans l2, e2, rs1.le l2, rx'.le l2, q⟩
              | next => exact got.elim
              | brk => exact got.elim
              | cont => exact got.elim
    · rintro s' ⟨H', S', vs', ts', inv', ok', le', rv', rs', rx', kk'⟩
      cases rv'
      cases rs'
      exact wpAny_pure ⟨.bl false, H', inv', rfl, po _ _ _ _ kk' le' ok' (.bl false)⟩
end

section
variable {X : Cx} {E : XK} {a b c : Expr} {pos : Pos} {t : TRA}
/-! a, b, c = .. -/
def sPar3 (i j l : Nat) (t : TRA) : TRS := fun D σ S => t σ S (fun ts S1 => ∃ x y z, ts = [x, y, z] ∧ D.nx (((σ.set i (some x)).set j (some y)).set l (some z)) S1) D.ex
theorem ss_par3 {i j l : Nat} {x y z : Str} {px py pz pt : Pos} {kt k2 pt2} (hc : X.calm = true) (hN : X.N.Nodup) (hi : X.N[i]? = some x) (hj : X.N[j]? = some y) (hl : X.N[l]? = some z) (hij : i ≠ j) (hil : i ≠ l) (hjl : j ≠ l)
    (hx : X.env.scope.names.lookup x = some .local) (hy : X.env.scope.names.lookup y = some .local) (hz : X.env.scope.names.lookup z = some .local) (ha : AT X E [a, b, c] t)
    (hw : swappedStores [.Tuple [.Name x px, .Name y py, .Name z pz] kt pt] (.Tuple [a, b, c] k2 pt2) X.env = pure (some [x, y, z]))
    (hs : swapsWithSole [.Tuple [.Name x px, .Name y py, .Name z pz] kt pt] (.Tuple [a, b, c] k2 pt2) pos.line X.env = pure false := by rfl) :
    SS X E (.Assign [.Tuple [.Name x px, .Name y py, .Name z pz] kt pt] (.Tuple [a, b, c] k2 pt2) pos) (sPar3 i j l t) :=
  ⟨ps_weak (ps_par3 hc hN hi hj hl hij hil hjl hx hy hz ha.pa hw hs) fun D sl H ⟨⟨Z, σ, S, DT, fr, ok, w, eo, xo⟩⟩ =>
    ⟨_, σ, S, _, DT.ex, fr, ok, w, fun xs S1 vs H1 k le ok1 rep => by
      obtain ⟨x, y, z, rfl, k⟩ := k
      cases rep with
      | cons r1 rr =>
        cases rr with
        | cons r2 rr =>
          cases rr with
          | cons r3 rr =>
            cases rr
            exact ⟨_, _, _, rfl, eo.nx _ S1 _ H1 k le ok1 ((((fr.le le).set i r1).set j r2).set l r3)⟩, xo⟩⟩
end

/-! ### f-strings of texts and ints -/
def kFmt : T → Store → (T → Store → Prop) → Prop := fun x S R => match x with
  | .str y => y.length ≤ sizeLine ∧ R (.str y) S
  | .int i => i.natAbs.log2 < 1920 ∧ R (.str (toString i)) S
  | _ => False
def rFmt (ra : TR) : TR := fun σ S R RE => ra σ S (fun x S1 => kFmt x S1 R) RE
section
variable {X : Cx} {E : XK} {e v1 v2 : Expr} {rest : List Expr} {pos : Pos} {ra : TR}
theorem et_fmt (ha : ET X E e ra) : ET X E (.FormattedValue e (-1) none pos) (rFmt ra) :=
  ⟨pe_weak (pe_fmt ha.pe) fun sl H Q ⟨⟨Z, σ, S, R, RE, fr, ok, w, po, xo⟩⟩ => ⟨Z, σ, S, _, RE, fr, ok, w, fun x S1 v H1 k le ok1 rep => by
    replace k : kFmt x S1 R := k
    unfold kFmt at k
    split at k
    · cases rep
      exact .inl ⟨_, rfl, k.1, po _ _ _ _ k.2 le ok1 (.str _)⟩
    · cases rep
      exact .inr ⟨_, rfl, k.1, po _ _ _ _ k.2 le ok1 (.str _)⟩
    · exact k.elim, xo⟩⟩
inductive EJ (X : Cx) (E : XK) : List Expr → List TR → Prop where
  | nil : EJ X E [] []
  | cons {e : Expr} {t : TR} {es : List Expr} {ts : List TR} (h : ET X E e t) (r : EJ X E es ts) : EJ X E (e :: es) (t :: ts)
def rJs : List TR → Str → TR
  | [], acc => fun _ S R _ => R (.str acc) S
  | r :: rs, acc => fun σ S R RE => r σ S (fun x S1 => ∃ y : Str, x = .str y ∧ (acc ++ y).length ≤ sizeLine ∧ rJs rs (acc ++ y) σ S1 R RE) RE
theorem EJ.pj {es : List Expr} {ts : List TR} (h : EJ X E es ts) : PJ X es (ts.map fun r => UpE X.K E r) := by
  induction h with
  | nil => exact .nil
  | cons h _ ih => exact .cons h.pe ih
theorem js_up {K : PySem.W.Frag} : ∀ {ts : List TR} {acc : Str} {Z : Addr → Prop} {σ : Fm} {S : Store} {R : T → Store → Prop} {RE : XT} {sl : L2.St} {H : Hp} {Q : VK}, FrR K Z S H sl σ → Ok K Z S H → rJs ts acc σ S R RE → PO K Z S H R Q → XOk K Z S H RE E →
    tJs (ts.map fun r => UpE K E r) acc sl H (fun out H1 => Q (.str out) H1)
  | [], acc, Z, σ, S, R, RE, sl, H, Q, fr, ok, w, po, xo => po _ _ _ _ w .refl ok (.str _)
  | r :: rs, acc, Z, σ, S, R, RE, sl, H, Q, fr, ok, w, po, xo => ⟨Z, σ, S, _, RE, fr, ok, w, fun x S1 v H1 k le ok1 rep => by
    obtain ⟨y, rfl, hy, k⟩ := k
    cases rep
    exact ⟨y, rfl, hy, js_up (fr.le le) ok1 k (po.le le) (xo.le le)⟩, xo⟩
theorem et_joined {ts : List TR} (h : EJ X E (v1 :: v2 :: rest) ts) : ET X E (.JoinedStr (v1 :: v2 :: rest) pos) (rJs ts Str.empty) :=
  ⟨pe_weak (pe_joined h.pj) fun sl H Q ⟨⟨Z, σ, S, R, RE, fr, ok, w, po, xo⟩⟩ => js_up fr ok w po xo⟩
theorem et_joined1 (ha : ET X E e ra) : ET X E (.JoinedStr [e] pos) ra := ⟨pe_joined1 ha.pe⟩
end
/-! ### str(x), repr(x) of an instance whose class has the def -/
structure OwnDef (K : PySem.W.Frag) (C : Addr) (m : Str) (f : Addr) : Prop where
  at_ : PySem.W.findIn K (.ref C) m = some (some (.ref f))
  fn : PySem.W.isFn K (.ref f) = true
structure StrD (X : Cx) (m : Str) (D : Addr → SpT → Prop) : Prop where
  at_ : ∀ C sp, D C sp → ∃ k f fd ps, OwnDef X.K C m f ∧ FnT X.prog X.w X.K X.mg X.base k f fd ps sp ∧ Room (k + 2) X.A ∧ Binds X.K fd ps []
theorem StrD.one {X : Cx} {m : Str} {C f : Addr} {k : Nat} {fd : FuncData} {ps : List Str} {sp : SpT} (o : OwnDef X.K C m f) (F : FnT X.prog X.w X.K X.mg X.base k f fd ps sp) (hr : Room (k + 2) X.A) (hb : Binds X.K fd ps []) : StrD X m (one C sp) := ⟨fun C' sp' ⟨e1, e2⟩ => by
  subst e1 e2
  exact ⟨k, f, fd, ps, o, F, hr, hb⟩⟩
theorem StrD.or {X : Cx} {m : Str} {D1 D2 : Addr → SpT → Prop} (h1 : StrD X m D1) (h2 : StrD X m D2) : StrD X m (fun C sp => D1 C sp ∨ D2 C sp) := ⟨fun C sp d => d.elim (h1.at_ C sp) (h2.at_ C sp)⟩
def RStrD (K : PySem.W.Frag) (D : Addr → SpT → Prop) : List V → Hp → VK → Prop := fun vs H Q => ∃ C sp a dx fs, vs = [.ref a] ∧ H a = some (.ins C dx fs) ∧ D C sp ∧ UpF K sp [.ref a] H (fun v H' => (∃ y, v = .str y) ∧ Q v H') EF
def kStrOwn (D : Addr → SpT → Prop) : KA := fun xs S R _ => ∃ x C gs sp, xs = [x] ∧ insOf x S = some (C, gs) ∧ D C sp ∧ sp [x] S (fun z S' => (∃ y, z = .str y) ∧ R z S') XF
theorem cv_strOwn {K : PySem.W.Frag} {E : XK} {D : Addr → SpT → Prop} : ConvA K E (kStrOwn D) (RStrD K D) := by
  intro Z xs S vs H R RE Q ok rs ⟨x, C, gs, sp, e, hi, d, k⟩ po xo
  subst e
  cases rs with
  | cons r rr =>
    cases rr
    obtain ⟨a, dx, fs, rfl, hH, _⟩ := ins_rep ok r hi
    refine ⟨C, sp, a, dx, fs, rfl, hH, d, Z, [x], S, _, XF, .cons r .nil, ok, k, fun z S' v H' kz le ok' rep => ?_, .f⟩
    obtain ⟨⟨y, rfl⟩, kz⟩ := kz
    cases rep
    exact ⟨⟨y, rfl⟩, po _ _ _ _ kz le ok' (.str _)⟩
section
variable {X : Cx} {D : Addr → SpT → Prop}
theorem runOwnT {pins : List (Addr × Obj)} {sl : L2.St} {H : Hp} {s : Shared} {A : Around} {Q : VK} {R : Value → Shared → Prop} {x f : Addr} {k : Nat} {fd : FuncData} {ps : List Str} {sp : SpT} (F : FnT X.prog X.w X.K X.mg X.base k f fd ps sp) (hb : Binds X.K fd ps []) (inv : Inv X pins sl H s) (gds : A.guards = some []) (hr : Room k A) (env : Env0 X.prog X.w X.K X.mg X.base A X.stack s H)
    (h : UpF X.K sp [.ref x] H (fun v H' => (∃ y, v = .str y) ∧ Q v H') EF) (fin : ∀ y t s' , EP X pins sl Q (.str y t) s' → R (.str y t) s') {E : Value → Shared → Prop} : wpAny (model X.prog X.w) A (call (.ref f) [.ref x]) R E s := by
  have hl : ([Value.ref x] ++ []).length = ps.length := by
    rw [← F.fn.len _ _ _ _ h]
    rfl
  refine wpAny_call (codeAny_mono (F.fn.go A X.stack s H ⟨[.ref x], []⟩ ([Value.ref x] ++ []) [.ref x] _ _ gds hr env (hb s [.ref x] inv.kIn hl) (.cons rfl .nil) h) fun r s' hq => ?_)
  cases r with
  | error e => exact (passN (X := X.nox) pins sl H s e s' (inv.wish _) hq).elim
  | ok fl =>
    cases fl with
    | ret u =>
      obtain ⟨v, H', I3, rv, ⟨y, ey⟩, q3⟩ := inv.after hq
      subst ey
      obtain ⟨t, rfl⟩ := (show ∃ t, u = Value.str y t from rv)
      exact fin y t s' ⟨.str y, H', I3, ⟨t, rfl⟩, q3⟩
    | next => exact False.elim hq
    | brk => exact False.elim hq
    | cont => exact False.elim hq
theorem strOwnT (S : StrD X "__str__" D) (gds : X.A.guards = some []) : CallR X (.type "str") (RStrD X.K D) := by
  intro pins s sl H xs us Q inv vals want
  obtain ⟨C, sp, x, dx, fs, rfl, hx, d, h⟩ := want
  obtain ⟨k, f, fd, ps, O, F, hr, hb⟩ := S.at_ C sp d
  obtain ⟨u, rfl, ru⟩ := vals1 vals
  obtain rfl : u = Value.ref x := ru
  obtain ⟨mA, OA, _⟩ := ins_get inv.hok hx
  obtain ⟨od, J, _⟩ := OA.look
  exact PySem.W.kso_call hr.in1.in1.units0 inv.kIn J O.at_ O.fn (runOwnT (R := PySem.W.StrBack (EP X pins sl Q)) F hb inv (by first | exact gds | simpa [Around.in1] using gds) hr.in1.in1 inv.env0.in1.in1 h fun y t s' q => q)
theorem reprOwnT (S : StrD X "__repr__" D) (gds : X.A.guards = some []) : CallR X (.builtin "repr") (RStrD X.K D) := by
  intro pins s sl H xs us Q inv vals want
  obtain ⟨C, sp, x, dx, fs, rfl, hx, d, h⟩ := want
  obtain ⟨k, f, fd, ps, O, F, hr, hb⟩ := S.at_ C sp d
  obtain ⟨u, rfl, ru⟩ := vals1 vals
  obtain rfl : u = Value.ref x := ru
  obtain ⟨mA, OA, _⟩ := ins_get inv.hok hx
  obtain ⟨od, J, _⟩ := OA.look
  obtain ⟨m, fr⟩ := inv.fr
  have hr1 : Room (k + 1) X.A := hr.mono (by omega)
  exact PySem.W.repr_K hr1.in1.units0 fr inv.ok.mod.kin J O.at_ O.fn (runOwnT (R := PySem.W.StrBack (EP X pins sl Q)) F hb inv (by first | exact gds | simpa [Around.in1] using gds) hr1.in1 inv.env0.in1 h fun y t s' q => q)
end
/-! ### [..].index(x), flat things -/
def idxT (y : T) : List T → Option Nat
  | [] => none
  | z :: l => if eqT z y = true then some 0 else (idxT y l).map (· + 1)
theorem idx_rep {K : PySem.W.Frag} {Z : Addr → Prop} {S : Store} {H : Hp} {v : V} {y : T} (ry : Rep K Z S H v y) (fy : flatT y = true) : ∀ {vs : List V} {l : List T} {j : Nat}, Reps K Z S H vs l → l.all flatT = true → idxT y l = some j →
    vs.all flatV = true ∧ ∃ z, vs[j]? = some z ∧ eqV z v = true ∧ ∀ (m : Nat) (z' : V), m < j → vs[m]? = some z' → eqV z' v = false
  | _, _, j, .nil, _, e => by cases e
  | _, _, j, .cons (v := u) (t := z) (vs := vs) (ts := l) r rr, f, e => by
    rw [List.all_cons, Bool.and_eq_true] at f
    have q := eq_rep r ry f.1 fy
    have fl : ∀ {vs : List V} {l : List T}, Reps K Z S H vs l → l.all flatT = true → vs.all flatV = true := fun {vs l} => by
      intro r
      induction l generalizing vs with
      | nil => cases r; intro _; rfl
      | cons a l ih =>
        cases r with
        | cons r1 r2 =>
          intro h
          rw [List.all_cons, Bool.and_eq_true] at h
          rw [List.all_cons, flat_rep r1 h.1, ih r2 h.2]; rfl
    refine ⟨by rw [List.all_cons, flat_rep r f.1, fl rr f.2]; rfl, ?_⟩
    unfold idxT at e
    by_cases c : eqT z y = true
    · rw [if_pos c] at e
      cases e
      exact ⟨u, rfl, by rw [q]; exact c, fun m z' h => absurd h (Nat.not_lt_zero m)⟩
    · rw [if_neg c] at e
      obtain ⟨i, ei, rfl⟩ := Option.map_eq_some_iff.mp e
      obtain ⟨_, w, hw, ew, no⟩ := idx_rep ry fy rr f.2 ei
      refine ⟨w, hw, ew, fun m z' hm hz => ?_⟩
      cases m with
      | zero =>
        cases hz
        rw [q]
        exact Bool.eq_false_iff.mpr c
      | succ m => exact no m z' (by omega) hz
def rLidx (ra : TR) (t : TRA) : TR := fun σ S R RE => ra σ S (fun x S1 => ∃ l, x = .lst l ∧ t σ S1 (fun xs S2 => ∃ y j, xs = [y] ∧ flatT y = true ∧ l.all flatT = true ∧ idxT y l = some j ∧ R (.int (j : Nat)) S2) RE) RE
section
variable {X : Cx} {E : XK}
theorem et_lidx {apos cpos : Pos} {o e : Expr} {es : List Expr} {ra : TR} {t : TRA} (ho : ET X E o ra) (ha : AT X E (e :: es) t)
    (hbase : attributeBase o "index" X.env (eval o X.env) = eval o X.env := by rfl)
    (hfew : ((backTo cpos (starEach (e :: es) X.env)).all (fun x => !x.1) && (backToKw cpos (keywordEach [] X.env)).all (fun x => x.1.isSome)
      && decide ((e :: es).length + ([] : List Keyword).length + (if ([] : List Keyword).isEmpty then 0 else 1) < 30)) = true := by rfl)
    (hline : (apos.endLine == cpos.line) = true := by rfl) (hs : starEach (e :: es) X.env = (false, eval e X.env) :: starEach es X.env := by rfl) (hplain : (backTo cpos (starEach es X.env)).any (·.1) = false := by rfl) :
    ET X E (.Call (.Attribute o "index" apos) (e :: es) [] cpos) (rLidx ra t) :=
  ⟨pe_weak (pe_bm PySem.F.plainAttrs_list PySem.F.slot_list_index PySem.F.type_list_index mt_index ho.pe ha.pa hbase hfew hline hs hplain) fun sl H Q ⟨⟨Z, σ, S, R, RE, fr, ok, w, po, xo⟩⟩ => by
    refine ⟨Z, σ, S, _, RE, fr, ok, w, fun x S1 v H1 k1 le1 ok1 rep => ?_, xo⟩
    obtain ⟨l, rfl, k1⟩ := k1
    cases rep with
    | lst h1 r1 =>
      refine ⟨.inl ⟨rfl, _, h1.sq⟩, Z, σ, S1, _, RE, fr.le le1, ok1, k1, fun xs S2 ws H2 k2 le2 ok2 rs => ?_, xo.le le1⟩
      obtain ⟨y, j, rfl, fy, fl, ij, k2⟩ := k2
      cases rs with
      | @cons vy _ _ _ ry rr =>
        cases rr
        obtain ⟨fv, z, hz, ez, no⟩ := idx_rep ry fy (r1.le le2) fl ij
        exact ⟨_, _, vy, j, z, rfl, rfl, (h1.le le2).sq, flat_rep ry fy, fv, hz, ez, no, (po.le le1).le le2 _ _ _ _ k2 .refl ok2 (.int _)⟩⟩
end
/-! a + b, a new list that is to change -/
def kAddC : KB := fun x y S R _ => match x, y with
  | .lst a, .lst b => a.length + b.length ≤ sizeLine ∧ ∀ p, S p = none → R (.cell p) (S.put p (.lst (a ++ b)))
  | _, _ => False
theorem cv_addC {X : Cx} {E : XK} : Conv X.K E kAddC rCat := by
  intro Z x y S v u H R RE Q ok rx ry kk po xo
  unfold kAddC at kk
  split at kk
  · cases rx with
    | lst h1 r1 =>
      cases ry with
      | lst h2 r2 =>
        refine ⟨_, _, _, _, rfl, rfl, h1.1, h2.1, by rw [r1.length, r2.length]; exact kk.1, fun p hp => ?_⟩
        have l3 : ∀ (o : HO) (c : Cell), Le S H (S.put p c) (upd H p o) := fun o c => le_newc hp
        exact po _ _ _ _ (kk.2 p (ok.free hp)) (l3 _ _) (ok.put (l3 _ _) (ok.nz hp) ⟨_, upd_same, (r1.append r2).le (l3 _ _)⟩) (.cell p)
  · exact kk.elim

/-! ### texts: methods, int(text) -/
def rStr0 (g : Str → T) (ra : TR) : TR := fun σ S R RE => ra σ S (fun x S1 => ∃ a, x = .str a ∧ R (g a) S1) RE
def rPart (ra rb : TR) : TR := fun σ S R RE => ra σ S (fun x S1 => ∃ a, x = .str a ∧ rb σ S1 (fun y S2 => ∃ b, y = .str b ∧ (b.length == 0) = false ∧ a.length ≤ sizeLine ∧ R (.tup [.str (Txt.partition a b).1, .str (Txt.partition a b).2.1, .str (Txt.partition a b).2.2]) S2) RE) RE
def rSplit (ra rb : TR) : TR := fun σ S R RE => ra σ S (fun x S1 => ∃ a, x = .str a ∧ rb σ S1 (fun y S2 => ∃ b, y = .str b ∧ (b.length == 0) = false ∧ a.length + 2 ≤ sizeLine ∧ R (.lst ((Txt.split a b).map .str)) S2) RE) RE
def kIntS : KA := fun xs S R _ => ∃ a n, xs = [.str a] ∧ PySem.intText? a = some n ∧ a.length ≤ 640 ∧ R (.int n) S
theorem reps_str {K : PySem.W.Frag} {Z : Addr → Prop} {S : Store} {H : Hp} : ∀ ys : List Str, Reps K Z S H (ys.map V.str) (ys.map T.str)
  | [] => .nil
  | y :: ys => .cons (.str y) (reps_str ys)
section
variable {X : Cx} {E : XK} {o e : Expr} {apos pos : Pos} {ra rb : TR}
theorem et_str0 {id : String} {name : Str} {g : Str → V} {g' : Str → T} (slot : Slot "str" name id) (ty : typeOf (.builtin id) = pure (.type "method_descriptor")) (rule : MtR X id (fun x xs H Q => ∃ a, x = .str a ∧ xs = [] ∧ True ∧ Q (g a) H))
    (hg : ∀ {Z S H} a, Rep X.K Z S H (g a) (g' a)) (ho : ET X E o ra)
    (hbase : attributeBase o name X.env (eval o X.env) = eval o X.env := by rfl) (hline : (apos.endLine == pos.line) = true := by rfl) : ET X E (.Call (.Attribute o name apos) [] [] pos) (rStr0 g' ra) :=
  ⟨pe_weak (pe_m0 slot ty rule ho.pe hbase hline) fun sl H Q ⟨⟨Z, σ, S, R, RE, fr, ok, w, po, xo⟩⟩ => by
    refine ⟨Z, σ, S, _, RE, fr, ok, w, fun x S1 v H1 k le ok1 rep => ?_, xo⟩
    obtain ⟨a, rfl, k⟩ := k
    cases rep
    exact ⟨⟨_, rfl⟩, _, rfl, rfl, trivial, po _ _ _ _ k le ok1 (hg _)⟩⟩
theorem et_isascii (ho : ET X E o ra) (hbase : attributeBase o "isascii" X.env (eval o X.env) = eval o X.env := by rfl) (hline : (apos.endLine == pos.line) = true := by rfl) :
    ET X E (.Call (.Attribute o "isascii" apos) [] [] pos) (rStr0 (fun a => .bl (Txt.isascii a)) ra) := et_str0 (g := fun a => .bl (Txt.isascii a)) PySem.F.slot_str_isascii PySem.F.type_str_isascii mt_isascii (fun _ => .bl _) ho hbase hline
theorem et_isdigit (ho : ET X E o ra) (hbase : attributeBase o "isdigit" X.env (eval o X.env) = eval o X.env := by rfl) (hline : (apos.endLine == pos.line) = true := by rfl) :
    ET X E (.Call (.Attribute o "isdigit" apos) [] [] pos) (rStr0 (fun a => .bl (Txt.isdigit a)) ra) := et_str0 (g := fun a => .bl (Txt.isdigit a)) PySem.F.slot_str_isdigit PySem.F.type_str_isdigit mt_isdigit (fun _ => .bl _) ho hbase hline
theorem et_partition (ho : ET X E o ra) (he : ET X E e rb) (hs : starEach [e] X.env = [(false, eval e X.env)] := by rfl) (hbase : attributeBase o "partition" X.env (eval o X.env) = eval o X.env := by rfl) (hline : (apos.endLine == pos.line) = true := by rfl) :
    ET X E (.Call (.Attribute o "partition" apos) [e] [] pos) (rPart ra rb) :=
  ⟨pe_weak (pe_partition ho.pe he.pe hs hbase hline) fun sl H Q ⟨⟨Z, σ, S, R, RE, fr, ok, w, po, xo⟩⟩ => by
    refine ⟨Z, σ, S, _, RE, fr, ok, w, fun x S1 v H1 k le ok1 rep => ?_, xo⟩
    obtain ⟨a, rfl, k⟩ := k
    cases rep
    refine ⟨⟨_, rfl⟩, Z, σ, S1, _, RE, fr.le le, ok1, k, fun y S2 u H2 k2 le2 ok2 rep2 => ?_, xo.le le⟩
    obtain ⟨b, rfl, hb, hz, k2⟩ := k2
    cases rep2
    refine ⟨_, _, rfl, rfl, hb, hz, fun p hp => ?_⟩
    exact (po.le le).le le2 _ _ _ _ k2 (le_new hp) (ok2.new hp) (.tupN ok2 hp (.cons (.str _) (.cons (.str _) (.cons (.str _) .nil))))⟩
theorem et_split (ho : ET X E o ra) (he : ET X E e rb) (hs : starEach [e] X.env = [(false, eval e X.env)] := by rfl) (hbase : attributeBase o "split" X.env (eval o X.env) = eval o X.env := by rfl) (hline : (apos.endLine == pos.line) = true := by rfl) :
    ET X E (.Call (.Attribute o "split" apos) [e] [] pos) (rSplit ra rb) :=
  ⟨pe_weak (pe_split ho.pe he.pe hs hbase hline) fun sl H Q ⟨⟨Z, σ, S, R, RE, fr, ok, w, po, xo⟩⟩ => by
    refine ⟨Z, σ, S, _, RE, fr, ok, w, fun x S1 v H1 k le ok1 rep => ?_, xo⟩
    obtain ⟨a, rfl, k⟩ := k
    cases rep
    refine ⟨⟨_, rfl⟩, Z, σ, S1, _, RE, fr.le le, ok1, k, fun y S2 u H2 k2 le2 ok2 rep2 => ?_, xo.le le⟩
    obtain ⟨b, rfl, hb, hz, k2⟩ := k2
    cases rep2
    refine ⟨_, _, rfl, rfl, hb, hz, fun p hp => ?_⟩
    exact (po.le le).le le2 _ _ _ _ k2 (le_new hp) (ok2.new hp) (.lstN ok2 hp (reps_str _))⟩
theorem cv_intS : ConvA X.K E kIntS (fun xs H Q => ∃ a n, xs = [.str a] ∧ PySem.intText? a = some n ∧ a.length ≤ 640 ∧ Q (.int n) H) := by
  intro Z xs S vs H R RE Q ok rs ⟨a, n, e, hn, hl, k⟩ po xo
  subst e
  cases rs with
  | cons r rr =>
    cases rr; cases r
    exact ⟨_, _, rfl, hn, hl, po _ _ _ _ k .refl ok (.int _)⟩
end
/-! ### x, *xs = a list -/
namespace StarU
open PySem PySem.Spec PySem.Calls PyProof.Rows PySem.W
theorem starRaw {prog : Program} {w : World} {A : Around} {E : Value → Shared → Prop} {s : Shared} {l : Addr} {items : Array Value} {Q : List Value → Shared → Prop} (hl : s.heap.IsList l items) (hh : A.handled = none) (hn : 1 ≤ items.size) (hz : items.size ≤ 16384)
    (h : ∀ (h' : Heap) (tk : Nat), (∀ b o, b ≠ s.heap.objs.size → s.heap.get? b = some o → h'.get? b = some o) → Q (items.toList.take 1 ++ [.ref h'.objs.size] ++ []) { s with toks := tk, heap := h'.push { cls := .type "list", data := .seq (items.toList.drop 1).toArray } }) :
    wpAny (model prog w) A (unpackItems (.ref l) 2 (some 1)) Q E s := by
  have hlt : l ≠ s.heap.objs.size := by obtain ⟨o, ho, _⟩ := hl; exact Nat.ne_of_lt (Heap.lt_size ho)
  have hll : l < s.heap.objs.size := by obtain ⟨o, ho, _⟩ := hl; exact Heap.lt_size ho
  unfold unpackItems
  refine wpAny_bind ?_
  unfold notIterableAtAll
  refine wpAny_bind (wpAny_specialOf hl.typeIs slot_list_iter.lookup ?_)
  refine wpAny_pure ?_
  simp only [Bool.false_eq_true, if_false]
  refine wpAny_bind (wpAny_holding (wpAny_pyIter_list hl ?_))
  refine wpAny_bind (wpAny_holding (kun_draw hlt 1 0 _ _ ⟨_, Heap.get?_push_size _ rfl, rfl, rfl⟩ (hl.push _) (by omega) fun h₁ hit₁ hs₁ => ?_))
  have hl₁ : h₁.IsList l items := (hl.push _).extBut hs₁.extBut hlt
  rw [Nat.zero_add] at hit₁
  have hit₁' := hit₁
  obtain ⟨oi, hoi, _⟩ := hit₁'
  have hl₁' := hl₁
  obtain ⟨ol, hol, _⟩ := hl₁'
  rw [List.drop_zero]
  have hfl : (items.toList.take 1).length = 1 := by rw [List.length_take, Array.length_toList]; omega
  rw [if_neg (show ¬ ((items.toList.take 1).length < 1) by rw [hfl]; omega)]
  refine wpAny_bind (wpAny_holding (kun_collect (s := { s with heap := h₁ }) (T := "list_iterator") (.inr (.inr (.inl rfl))) (Walks.list (A := A.in1) hh s.heap.objs.size l hlt items) (fun j u st => st.1.typeIs) (k := 1) (by omega) ⟨hit₁, hl₁⟩ (Heap.lt_size hoi) (Heap.lt_size hol) (fun h₂ tk hk => ?_) (by rw [sizeLine_eq]; omega)))
  show wpAny _ _ (if (items.toList.drop 1).length < 2 - 1 - 1 then _ else _) _ _ _
  rw [if_neg (by omega)]
  show wpAny _ _ (newList ((items.toList.drop 1).take ((items.toList.drop 1).length - 0)) >>= fun d => pure (items.toList.take 1 ++ [d] ++ (items.toList.drop 1).drop ((items.toList.drop 1).length - 0))) _ _ _
  rw [Nat.sub_zero, List.take_length, List.drop_length]
  have he : ∀ b o, b ≠ s.heap.objs.size → s.heap.get? b = some o → h₂.get? b = some o := fun b o hb e => hk b o hb (hs₁.extBut b o hb (Heap.get?_push_of_some _ e))
  refine wpAny_bind (wpAny_newList (wpAny_pure (h h₂ tk he)) (by rw [List.length_drop, Array.length_toList, sizeLine_eq]; omega))
end StarU
def gStarV (K : PySem.W.Frag) (t : TGs) : TG := fun v σ H Q => ∃ a x xs, v = .ref a ∧ SqL K H a (x :: xs) ∧ xs.length < 16384 ∧ ∀ D, H D = none → t [x, .ref D] σ (upd H D (.lst xs)) Q
section
variable {X : Cx} {E : XK} {pos p1 p2 p3 : Pos} {x y : Str}
theorem pg_star {k : Nat} {t : TGs} (hc : X.calm = true) (h : PGs X [.Name x p1, .Name y p3] t) : PG X (.Tuple [.Name x p1, .Starred (.Name y p3) p2] k pos) (gStarV X.K t) := by
  refine ⟨fun pins s σ H v u Q I r hw => ?_⟩
  obtain ⟨a, x0, xs, e1, hq, hl, hw⟩ := hw
  subst e1
  cases r
  obtain ⟨its, rv, pl, hz⟩ := I.list hq
  have hl' : s.heap.IsList a its.toArray := by
    obtain ⟨o, m, e, c, d, q⟩ := pl
    exact ⟨o, e, c, m, q⟩
  rw [PyProof.Rows.assign_Tuple]
  refine wpAny_bind (wpAny_standAt ?_)
  unfold unpack
  cases rv with
  | @cons _ u0 _ us r0 rr =>
  have hn : (u0 :: us).toArray.size = us.length + 1 := by simp
  have hlen : us.length = xs.length := rr.length.symm
  refine wpAny_bind (wpAny_holding (StarU.starRaw hl' (I.ok.hd hc) (by omega) (by omega) fun h' tk hx => ?_))
  have I1 : Inv X pins σ H { s with heap := h', toks := tk } := I.kept (t' := tk) fun b o e => hx b o (Nat.ne_of_lt (Heap.lt_size e)) e
  have hp : H h'.objs.size = none := I1.hok.fresh (Nat.le_refl _)
  have e1 : ((u0 :: us).toArray.toList.drop 1).toArray = us.toArray := by simp
  have e2 : (u0 :: us).toArray.toList.take 1 ++ [Value.ref h'.objs.size] ++ [] = [u0, .ref h'.objs.size] := by simp
  rw [e1, e2]
  have I2 : Inv X pins σ (upd H h'.objs.size (.lst xs)) { s with toks := tk, heap := h'.push { cls := .type "list", data := .seq us.toArray } } :=
    I1.laid (t' := tk) (fun b u e => Heap.get?_push_of_some _ e) (Nat.le_refl _) ⟨by rw [sizeLine_eq]; omega, us, 0, rr, Heap.get?_push_size _ rfl⟩
  exact h.run pins _ σ _ [x0, .ref h'.objs.size] _ Q I2 (.cons r0 (.cons rfl .nil)) (hw _ hp)
def gStarT (gs : TRGs) : TRG := fun t σ S R RE => ∃ a l, t = .lst (a :: l) ∧ l.length < 16384 ∧ gs [a, .lst l] σ S R RE
theorem gt_star {k : Nat} {gs : TRGs} (hc : X.calm = true) (h : GTs X E [.Name x p1, .Name y p3] gs) : GT X E (.Tuple [.Name x p1, .Starred (.Name y p3) p2] k pos) (gStarT gs) :=
  ⟨pg_weak (pg_star hc h.pg) fun v sl H Q ⟨⟨Z, σ, S, t, R, RE, fr, ok, rep, ⟨a, l, e, hl, w⟩, po, xo⟩⟩ => by
    subst e
    cases rep with
    | lst h1 r1 =>
      cases r1 with
      | @cons v0 _ vs _ ra rl =>
        refine ⟨_, _, _, rfl, h1.sq, by rw [rl.length]; exact hl, fun D hD => ?_⟩
        have le := le_new (S := S) (o := .lst vs) hD
        exact ⟨Z, σ, S, [a, .lst l], R, RE, fr.le le, ok.new hD, .cons (ra.le le) (.cons (.lstN ok hD rl) .nil), w, fun σ' S' sl' H' k l2 => po σ' S' sl' H' k (le.trans l2), xo.le le⟩⟩
end
/-! ### a op b op c; the truth of a list -/
section
variable {X : Cx} {E : XK} {a b c : Expr} {pos : Pos} {ra rb rc : TR}
def rChain (k1 k2 : KB) (ra rb rc : TR) : TR := fun σ S R RE => ra σ S (fun x S1 => rb σ S1 (fun y S2 => k1 x y S2 (fun z S3 => ∃ d, z = .bl d ∧ (if d = true then rc σ S3 (fun w S4 => k2 y w S4 R RE) RE else R (.bl false) S3)) RE) RE) RE
theorem chain_up {K : PySem.W.Frag} {r1 r2 : R2} {k1 k2 : KB} (cv1 : Conv K E k1 r1) (cv2 : Conv K E k2 r2) {sl : L2.St} {H : Hp} {Q : VK} (h : UpE K E (rChain k1 k2 ra rb rc) sl H Q) : tChain r1 r2 (UpE K E ra) (UpE K E rb) (UpE K E rc) sl H Q := by
  obtain ⟨Z, σ, S, R, RE, fr, ok, w, po, xo⟩ := h.ex
  refine ⟨Z, σ, S, _, RE, fr, ok, w, fun x S1 v H1 k l1 ok1 rx => ?_, xo⟩
  refine ⟨Z, σ, S1, _, RE, fr.le l1, ok1, k, fun y S2 u H2 k l2 ok2 ry => ?_, xo.le l1⟩
  refine cv1 Z x y S2 v u H2 _ RE _ ok2 (rx.le l2) ry k (fun z S3 zv H3 k3 l3 ok3 rz => ?_) ((xo.le l1).le l2)
  obtain ⟨d, rfl, k3⟩ := k3
  cases rz
  refine ⟨d, rfl, ?_⟩
  cases d with
  | false =>
    rw [if_neg Bool.false_ne_true] at k3 ⊢
    exact ((po.le l1).le l2).le l3 _ _ _ _ k3 .refl ok3 (.bl false)
  | true =>
    rw [if_pos rfl] at k3 ⊢
    exact ⟨Z, σ, S3, _, RE, ((fr.le l1).le l2).le l3, ok3, k3, fun w' S4 wv H4 k4 l4 ok4 rw' => cv2 Z y w' S4 u wv H4 R RE Q ok4 ((ry.le l3).le l4) rw' k4 ((((po.le l1).le l2).le l3).le l4) ((((xo.le l1).le l2).le l3).le l4), ((xo.le l1).le l2).le l3⟩
theorem et_chain {op op' : CmpOp} {r1 r2 : R2} {k1 k2 : KB} (ho : OpR X (compareOp op) r1) (cv1 : Conv X.K E k1 r1) (ho' : OpR X (compareOp op') r2) (cv2 : Conv X.K E k2 r2) (ha : ET X E a ra) (hb : ET X E b rb) (hc : ET X E c rc)
    (hm : lastMarks [op, op'] [b, c] = false := by with_unfolding_all rfl) : ET X E (.Compare a [op, op'] [b, c] pos) (rChain k1 k2 ra rb rc) :=
  ⟨pe_weak (pe_chain ho ho' ha.pe hb.pe hc.pe hm) fun sl H Q h => chain_up cv1 cv2 h⟩
theorem tt_chain {op op' : CmpOp} {r1 r2 : R2} {k1 k2 : KB} (ho : OpR X (compareOp op) r1) (cv1 : Conv X.K E k1 r1) (ho' : OpR X (compareOp op') r2) (cv2 : Conv X.K E k2 r2) (ha : ET X E a ra) (hb : ET X E b rb) (hc : ET X E c rc)
    (hm : lastMarks [op, op'] [b, c] = false := by with_unfolding_all rfl) : TT' X E (.Compare a [op, op'] [b, c] pos) (rTest (rChain k1 k2 ra rb rc)) :=
  ⟨⟨fun pins s sl H Q I h => (pt_chain ho ho' ha.pe hb.pe hc.pe hm).run pins s sl H Q I (chain_up cv1 cv2 h.test)⟩⟩
def truT : T → Option Bool
  | .bl b => some b
  | .lst l => some (!l.isEmpty)
  | .tup l => some (!l.isEmpty)
  | .non => some false
  | _ => none
def rTru (ra : TR) : TRB := fun σ S R RE => ra σ S (fun x S1 => ∃ d, truT x = some d ∧ R d S1) RE
theorem reps_emp {K : PySem.W.Frag} {Z : Addr → Prop} {S : Store} {H : Hp} {vs : List V} {l : List T} (h : Reps K Z S H vs l) : (!l.isEmpty) = !vs.isEmpty := by cases h <;> rfl
theorem tt_tru (ha : ET X E a ra) (he : ∀ whole, isTrue a X.env whole = (do let v ← whole; standAt a.pos; holding [v] (truthy v)) := by intro _; rfl) : TT' X E a (rTru ra) :=
  ⟨⟨fun pins s sl H Q I h => (pt_truth ha.pe he).run pins s sl H Q I (by
    obtain ⟨Z, σ, S, R, RE, fr, ok, w, po, xo⟩ := h.ex
    refine ⟨_, σ, S, _, RE, fr, ok, w, fun x S1 v H1 kk le ok1 rep => ?_, xo⟩
    obtain ⟨d, e, r⟩ := kk
    have q := po d S1 H1 r le ok1
    unfold truT at e
    split at e
    · cases e; cases rep; exact ⟨_, rfl, q⟩
    · cases e
      cases rep with
      | lst h1 r1 => exact ⟨_, .inl ⟨_, h1.sq, reps_emp r1⟩, q⟩
    · cases e
      cases rep with
      | tup h1 r1 => exact ⟨_, .inr (.inl ⟨_, h1.sq, reps_emp r1⟩), q⟩
    · cases e; cases rep; exact ⟨_, rfl, q⟩
    · cases e)⟩⟩
end

/-! a != b, any type on the right that is no subclass of the left's -/
namespace NeOwn
open PySem PySem.Calls PyProof.Rows
section
variable {prog : Program} {w : World} {A : Around} {E : Value → Shared → Prop} {s : Shared} {K : PySem.W.Frag} {x C f : Addr} {ox : Obj} {od : Option Obj} {b tb : Value}
theorem ne_KD {Q : Value → Shared → Prop} (hu : A.units + 1 < cLine) (inK : K.In s.heap) (I : PySem.W.InstAt s.heap x ox C od) (hb : PySem.W.Looks (model prog w) s.heap (typeOf b) tb) (hn : PySem.W.notFirst K C tb = true)
    (hs : PySem.W.findIn K (.ref C) "__ne__" = some (some (.builtin "object.__ne__"))) (hm : PySem.W.mroIn K C (.type "object") = some true) (he : PySem.W.findIn K (.ref C) "__eq__" = some (some (.ref f))) (hf : PySem.W.isFn K (.ref f) = true)
    (hc : wpAny (model prog w) A.in1 (call (.ref f) [.ref x, b]) (Neg Q) E s) : wpAny (model prog w) A (richCompare .NotEq (.ref x) b) Q E s := by
  have once : wpAny (model prog w) A (tryCompare (.ref x) "__ne__" b) (fun r s' => ∃ c, r = some (.bool c) ∧ Q (.bool c) s') E s := by
    simp only [tryCompare]
    refine wpAny_bind (slot inK I hs (wpAny_call (codeAny_call_builtin PySem.F.cmp_object.ne.plain PySem.F.cmpEntry_ne (PySem.W.check_slot PySem.F.cmpKind_ne PySem.F.cmpSplit_ne (I.type.andThen (PySem.W.looks_mroIn inK hm)) (PySem.F.cmpArgs_ne _ _)
      (body (A := A.in1) inK I hu he hf (wpAny_mono hc (fun r s' got => ?_) fun _ _ z => z))))))
    obtain ⟨c, rfl, hq⟩ := got
    exact ⟨c, rfl, wpAny_pure ⟨!c, rfl, hq⟩⟩
  unfold richCompare
  simp only [oneThing_ref]
  refine wpAny_holding (wpAny_bind (wpAny_cRoomFor (Nat.lt_of_succ_lt hu) (wpAny_bind (I.type.here (wpAny_bind (hb.here ?_))))))
  split
  · rename_i q
    have e : PySem.W.subIn K tb (.ref C) = some false := by
      rcases Bool.or_eq_true_iff.mp hn with e | e
      · rw [beq_iff_eq.mp e] at q; simp at q
      · exact beq_iff_eq.mp e
    refine wpAny_bind ((PySem.W.looks_subIn inK e).here ?_)
    simp only [Bool.false_eq_true, if_false]
    refine wpAny_bind (wpAny_mono once (fun r s' got => ?_) fun _ _ z => z)
    obtain ⟨c, rfl, hq⟩ := got
    exact wpAny_pure hq
  · refine wpAny_bind (wpAny_pure ?_)
    rw [if_neg Bool.false_ne_true]
    refine wpAny_bind (wpAny_mono once (fun r s' got => ?_) fun _ _ z => z)
    obtain ⟨c, rfl, hq⟩ := got
    exact wpAny_pure hq
end
end NeOwn
/-! ### a == b where both sides' classes are of one family, each with an own __eq__ -/
def nfAll (K : PySem.W.Frag) (l : List Addr) : Bool := l.all fun a => l.all fun b => PySem.W.notFirst K a (.ref b)
theorem nfAll.at_ {K : PySem.W.Frag} {l : List Addr} (h : nfAll K l = true) {a b : Addr} (ha : a ∈ l) (hb : b ∈ l) : PySem.W.notFirst K a (.ref b) = true :=
  List.all_eq_true.mp (List.all_eq_true.mp h a ha) b hb
structure EqD (X : Cx) (D : Addr → SpT → Prop) : Prop where
  at_ : ∀ C sp, D C sp → ∃ k f fd ps, EqO X.K C f ∧ FnT X.prog X.w X.K X.mg X.base k f fd ps sp ∧ Room (k + 1) X.A ∧ Binds X.K fd ps []
theorem EqD.one {X : Cx} {C f : Addr} {k : Nat} {fd : FuncData} {ps : List Str} {sp : SpT} (o : EqO X.K C f) (F : FnT X.prog X.w X.K X.mg X.base k f fd ps sp) (hr : Room (k + 1) X.A) (hb : Binds X.K fd ps []) : EqD X (one C sp) := ⟨fun C' sp' ⟨e1, e2⟩ => by
  subst e1 e2
  exact ⟨k, f, fd, ps, o, F, hr, hb⟩⟩
theorem EqD.or {X : Cx} {D1 D2 : Addr → SpT → Prop} (h1 : EqD X D1) (h2 : EqD X D2) : EqD X (fun C sp => D1 C sp ∨ D2 C sp) := ⟨fun C sp d => d.elim (h1.at_ C sp) (h2.at_ C sp)⟩
def kEqOwnD (K : PySem.W.Frag) (D : Addr → SpT → Prop) (l : List Addr) : KB := fun x y S R RE => ∃ C gs sp C' gs', insOf x S = some (C, gs) ∧ insOf y S = some (C', gs') ∧ D C sp ∧ C ∈ l ∧ C' ∈ l ∧ sp [x, y] S (fun z S' => ∃ c, z = .bl c ∧ R (.bl c) S') RE
section
variable {X : Cx} {E : XK} {D : Addr → SpT → Prop} {l : List Addr}
theorem op_eqOwnD (O : EqD X D) (nf : nfAll X.K l = true) (gds : X.A.guards = some []) (hx : Passes (L2N.CX X.prog X.w) X E) : OpR X (compareOp .Eq) (RK X.K E (kEqOwnD X.K D l)) := by
  intro pins s sl H v u w z Q inv rv ru want
  obtain ⟨Z, x, y, S, R, RE, ok, rx, ry, ⟨C, gs, sp, C', gs2, hi, hi2, hd, hc, hc2, kk⟩, po, xo⟩ := want
  obtain ⟨k, f, fd, ps, o, F, hr, hb⟩ := O.at_ C sp hd
  obtain ⟨a, dx, fs, rfl, hH, _⟩ := ins_rep ok rx hi
  obtain ⟨b, dy, fs2, rfl, hH2, _⟩ := ins_rep ok ry hi2
  obtain rfl : w = Value.ref a := rv
  obtain rfl : z = Value.ref b := ru
  obtain ⟨mA, OA, _⟩ := ins_get inv.hok hH
  obtain ⟨od, J, _⟩ := OA.look
  obtain ⟨mB, OB, _⟩ := ins_get inv.hok hH2
  obtain ⟨od2, J2, _⟩ := OB.look
  obtain ⟨m, fr⟩ := inv.fr
  have up : UpF X.K sp [.ref a, .ref b] H (fun v H' => ∃ c, v = .bl c ∧ Q (.bl c) H') E := ⟨Z, [x, y], S, _, RE, .cons rx (.cons ry .nil), ok, kk, fun t S' v H' kt le ok' rep => by
    obtain ⟨c, rfl, kt⟩ := kt
    cases rep
    exact ⟨c, rfl, po _ _ _ _ kt le ok' (.bl c)⟩, xo⟩
  have vv : Vals [V.ref a, V.ref b] [Value.ref a, Value.ref b] := .cons rfl (.cons rfl .nil)
  have hl : ([Value.ref a, Value.ref b] ++ []).length = ps.length := vv.length.symm.trans (F.fn.len _ _ _ _ up)
  show wpAny (model X.prog X.w) X.A (richCompare .Eq (.ref a) (.ref b)) (EP X pins sl Q) X.xe s
  refine PySem.W.cmp_K (op := .Eq) (tb := .ref C') (by have := hr.un; omega) fr inv.ok.mod.kin J J2.type (nfAll.at_ nf hc hc2) o.eq o.fn ?_
  refine thn (goT F gds (hr.mono (by omega)) hx inv (hb s [.ref a, .ref b] inv.kIn hl) vv up) fun r s' got => ?_
  obtain ⟨v, H', I2, r2, c, rfl, q⟩ := got
  cases r2
  exact ⟨.bl c, H', I2, rfl, q⟩
def kNeOwnD (K : PySem.W.Frag) (D : Addr → SpT → Prop) (l : List Addr) : KB := fun x y S R RE => ∃ C gs sp C' gs', insOf x S = some (C, gs) ∧ insOf y S = some (C', gs') ∧ D C sp ∧ C ∈ l ∧ C' ∈ l ∧ sp [x, y] S (fun z S' => ∃ c, z = .bl c ∧ R (.bl (!c)) S') RE
theorem op_neOwnD (O : EqD X D) (nf : nfAll X.K l = true) (gds : X.A.guards = some []) (hx : Passes (L2N.CX X.prog X.w) X E) : OpR X (compareOp .NotEq) (RK X.K E (kNeOwnD X.K D l)) := by
  intro pins s sl H v u w z Q inv rv ru want
  obtain ⟨Z, x, y, S, R, RE, ok, rx, ry, ⟨C, gs, sp, C', gs2, hi, hi2, hd, hc, hc2, kk⟩, po, xo⟩ := want
  obtain ⟨k, f, fd, ps, o, F, hr, hb⟩ := O.at_ C sp hd
  obtain ⟨a, dx, fs, rfl, hH, _⟩ := ins_rep ok rx hi
  obtain ⟨b, dy, fs2, rfl, hH2, _⟩ := ins_rep ok ry hi2
  obtain rfl : w = Value.ref a := rv
  obtain rfl : z = Value.ref b := ru
  obtain ⟨mA, OA, _⟩ := ins_get inv.hok hH
  obtain ⟨od, J, _⟩ := OA.look
  obtain ⟨mB, OB, _⟩ := ins_get inv.hok hH2
  obtain ⟨od2, J2, _⟩ := OB.look
  have up : UpF X.K sp [.ref a, .ref b] H (fun v H' => ∃ c, v = .bl c ∧ Q (.bl (!c)) H') E := ⟨Z, [x, y], S, _, RE, .cons rx (.cons ry .nil), ok, kk, fun t S' v H' kt le ok' rep => by
    obtain ⟨c, rfl, kt⟩ := kt
    cases rep
    exact ⟨c, rfl, po _ _ _ _ kt le ok' (.bl _)⟩, xo⟩
  have vv : Vals [V.ref a, V.ref b] [Value.ref a, Value.ref b] := .cons rfl (.cons rfl .nil)
  have hl : ([Value.ref a, Value.ref b] ++ []).length = ps.length := vv.length.symm.trans (F.fn.len _ _ _ _ up)
  show wpAny (model X.prog X.w) X.A (richCompare .NotEq (.ref a) (.ref b)) (EP X pins sl Q) X.xe s
  refine NeOwn.ne_KD (by have := hr.un; omega) inv.kIn J J2.type (nfAll.at_ nf hc hc2) o.ne o.mro o.eq o.fn ?_
  refine wpAny_call (codeAny_mono (F.fn.go X.A.in1 X.stack s H ⟨[.ref a, .ref b], []⟩ ([Value.ref a, Value.ref b] ++ []) [V.ref a, V.ref b] _ E (by first | exact gds | simpa [Around.in1] using gds) hr.in1 inv.env0.in1 (hb s [.ref a, .ref b] inv.kIn hl) (by rw [List.append_nil]; exact vv) up) fun r s' got => ?_)
  cases r with
  | error er => exact hx pins sl H s er s' inv got
  | ok fl =>
    cases fl with
    | ret t =>
      obtain ⟨v, H', I3, rz, c, rfl, q⟩ := inv.after got
      cases rz
      exact ⟨c, rfl, .bl (!c), H', I3, rfl, q⟩
    | next => exact got.elim
    | brk => exact got.elim
    | cont => exact got.elim
end

/-! for i, x in enumerate(tuple) -/
namespace EnT
open PySem
theorem meets_newT (l : Addr) (items : Array Value) (n : Nat) (dct : Option Addr) (sl : Array (Option Value)) :
    Meets (Builtin.«enumerate.__new__» ⟨[.type "enumerate", .ref l], []⟩) (fun _ R s => s.heap.get? l = some { cls := .type "tuple", dict := dct, data := .seq items n, slots := sl } ∧
      R (.ok (.ret (.ref (s.heap.push { cls := .type "tuple_iterator", data := .fields #[.ref l, .int 0 0] }).objs.size)))
        { s with heap := (s.heap.push { cls := .type "tuple_iterator", data := .fields #[.ref l, .int 0 0] }).push { cls := .type "enumerate", data := .fields #[.none, .bool false, .ref s.heap.objs.size, rawInt 0, .none, .none] } }) :=
  .of_wp fun prog w A R s h => by
    obtain ⟨hp, g, d, tk, os⟩ := s; obtain ⟨hl, h⟩ := h
    have hsub := sub_enumerate
    have hL : Heap.IsTuple (Shared.heap ⟨hp, g, d, tk, os⟩) l items := ⟨_, hl, rfl, n, rfl⟩
    wp_walk using PySem.AutoSeq1.wpAny_loadPart' hl
    refine wpAny_stack_any fun st => wpAny_pure ?_
    split
    · rename_i c _ _ _ _ _
      cases (c == Value.type "enumerate")
      · wp_walk using PySem.AutoSeq1.wpAny_loadPart' hl, wpAny_pyIter_tuple hL
        exact ⟨_, rfl, h⟩
      · wp_walk using PySem.AutoSeq1.wpAny_loadPart' hl, wpAny_pyIter_tuple hL
        exact ⟨_, rfl, h⟩
    · wp_walk using PySem.AutoSeq1.wpAny_loadPart' hl, wpAny_pyIter_tuple hL
      exact ⟨_, rfl, h⟩
section
variable {prog : Program} {w : World} {A : Around} {E : Value → Shared → Prop} {s : Shared}
theorem call_enum {l : Addr} {items : Array Value} {Q : Value → Shared → Prop} (hL : s.heap.IsTuple l items)
    (h : ∀ h', IsEnum h' (s.heap.objs.size + 1) s.heap.objs.size 0 .none → h'.IsTupleIter s.heap.objs.size l 0 → h'.objs.size = s.heap.objs.size + 2 →
      (∀ b o, s.heap.get? b = some o → h'.get? b = some o) → Q (.ref (s.heap.objs.size + 1)) { s with heap := h' }) :
    wpAny (model prog w) A (call (.type "enumerate") [.ref l]) Q E s := by
  obtain ⟨⟨c, dct, dt, sl⟩, hl, hc, n, hd⟩ := hL
  replace hc : c = .type "tuple" := hc
  replace hd : dt = .seq items n := hd
  subst hc hd
  refine callType_new F.called_enumerate (by decide) (F.typeCall_enumerate_1 _) (F.newCall_enumerate_1 _) (fun obj => F.args_object_init_2 obj _) F.entry_enumerate_new
    (meets_newT l items n dct sl) ⟨hl, ?_⟩
  have hz : (s.heap.push { cls := .type "tuple_iterator", data := .fields #[.ref l, .int 0 0] }).objs.size = s.heap.objs.size + 1 := Heap.size_push ..
  show _ ∧ _
  rw [hz]
  have he : IsEnum ((s.heap.push { cls := .type "tuple_iterator", data := .fields #[.ref l, .int 0 0] }).push
      { cls := .type "enumerate", data := .fields #[.none, .bool false, .ref s.heap.objs.size, rawInt 0, .none, .none] }) (s.heap.objs.size + 1) s.heap.objs.size 0 .none := by
    have := Heap.get?_push_size (s.heap.push { cls := .type "tuple_iterator", data := .fields #[.ref l, .int 0 0] })
      (o := { cls := .type "enumerate", data := .fields #[.none, .bool false, .ref s.heap.objs.size, rawInt 0, .none, .none] }) rfl
    rw [hz] at this; exact this
  refine ⟨⟨_, he, rfl⟩, h _ he ⟨_, Heap.get?_push_of_some _ (Heap.get?_push_size _ rfl), rfl, rfl⟩ (by rw [Heap.size_push, hz]) fun b o x => Heap.get?_push_of_some _ (Heap.get?_push_of_some _ x)⟩
theorem pyNext_end {e it t : Addr} {n : Nat} {i : Int} {items : Array Value} {old : Value} {Q : Option Value → Shared → Prop} (hh : A.in1.handled = none) (he : IsEnum s.heap e it i old) (hit : s.heap.IsTupleIter it t n) (ht : s.heap.IsTuple t items) (hx : items[n]? = none)
    (hQ : ∀ h', Heap.ExtBut it s.heap h' → Q none { s with heap := h' }) : wpAny (model prog w) A (pyNext (.ref e)) Q E s := by
  have hT : s.TypeIs (.ref e) "enumerate" := ⟨_, he, rfl⟩
  unfold pyNext
  refine wpAny_bind (wpAny_attempt (wpAny_callSpecial?_slot (name := Str.ofString "__next__") hT F.slot_enumerate_next
    (wpAny_call_entry F.slot_enumerate_next hT F.entry_enumerate_next ?_ (F.args_enumerate_next_1 _))))
  show wpAny _ _ (field (.ref e) 2 >>= _) _ _ _
  refine wpAny_bind (wpAny_field he rfl (x := .ref it) rfl ?_)
  refine wpAny_bind (wpAny_nextOf_tuple_end hh hit ht hx fun h' x he' hx' => ?_)
  obtain ⟨o, ho, hc⟩ := hx'
  refine wpAny_bind (wpAny_isInstance (T := "StopIteration") (b := true) ⟨o, ho, hc⟩ isSubtype_stop ?_)
  exact wpAny_pure (hQ _ he')
end
end EnT
/-- the tuple at a, each item in a new pair -/
def IteT (K : PySem.W.Frag) (a : Addr) : It :=
  ⟨fun i H => ∃ (xs : List V) (x : V), SqT K H a xs ∧ xs[i]? = some x, fun i H v H' => ∃ T x, v = .ref T ∧ H T = none ∧ H' = upd H T (.tup [.int (i : Nat), x]) ∧ ∀ xs, SqT K H a xs → xs[i]? = some x, fun i H => ∃ xs : List V, SqT K H a xs ∧ xs.length ≤ i⟩
theorem turn_enumT {P : Program} {w : World} {K : PySem.W.Frag} {elts : List Expr} {kk : Nat} {tpos : Pos} (a e it : Addr) :
    Turn P w K (.Tuple elts kk tpos) (IteT K a) [e, it] e (fun i h => (∃ old, IsEnum h e it ((i : Nat) : Int) old) ∧ h.IsTupleIter it a i ∧ e ≠ it ∧ e ≠ a ∧ a ≠ it) where
  mem := by simp
  obj := fun i h st b hb => by
    obtain ⟨⟨old, he⟩, ⟨o, ho, hc, hd⟩, _⟩ := st
    have e' : b = e ∨ b = it := by simpa using hb
    rcases e' with z | z
    · rw [z]; exact ⟨_, he, fun v q => nomatch q⟩
    · rw [z]; exact ⟨o, ho, fun v q => by rw [hd] at q; cases q⟩
  keep := fun i h h' st k => let ⟨⟨old, he⟩, hi, hne⟩ := st; ⟨⟨old, k e (by simp) _ he⟩, hi.at fun o q => k it (by simp) o q, hne⟩
  item := by
    intro X hP hw hK hc i pins s σ H E I hf st hg
    subst hP hw hK
    obtain ⟨⟨old, he⟩, hit, hne, hea, hai⟩ := st
    obtain ⟨xs, x, hq, hx⟩ := hg
    obtain ⟨its, rv, p, hz⟩ := I.tuple hq
    obtain ⟨u, hu, ru⟩ := rv.get hx
    have hel : e < s.heap.objs.size := Heap.lt_size he
    have hil : it < s.heap.objs.size := by obtain ⟨_, q, _⟩ := hit; exact Heap.lt_size q
    have hdd : X.A.in1.handled = none := I.ok.hd hc
    have pt : s.heap.IsTuple a its.toArray := p
    refine wpAny_pyNext_enum_itemD (Draws.tuple hdd it a hai its.toArray) he ⟨hit, pt⟩ (by have := (List.getElem?_eq_some_iff.mp hu).1; simpa using this) hne (by simp [hne, hea]) fun y h' tk py ho hst hT hsz hk => ?_
    have ey : y = u := by
      have : its.toArray[i]? = some y := py
      rw [show its.toArray[i]? = its[i]? by simp, hu] at this
      exact (Option.some.inj this).symm
    subst ey
    refine ⟨_, rfl, wpAny_letOwnedTupleGo_enum (s := { s with heap := h', toks := tk + 1 }) ho fun h'' he' sb => ?_⟩
    have hT2 : h''.get? s.heap.objs.size = some { cls := .type "tuple", data := .seq #[.int i tk, y] } := (sb.2 _ (Nat.ne_of_gt hel)).trans hT
    have new : ObjOk X.prog X.w (upd H s.heap.objs.size (.tup [.int (i : Nat), x])) h'' s.heap.objs.size (.tup [.int (i : Nat), x]) :=
      ⟨by show 2 ≤ sizeLine; decide, [.int i tk, y], .cons ⟨_, rfl⟩ (.cons ru .nil), ⟨_, hT2, rfl, _, rfl⟩⟩
    have I1 : Inv X pins σ (upd H s.heap.objs.size (.tup [.int (i : Nat), x])) { s with heap := h'', toks := tk + 1 } :=
      I.turnedNew (ch := [e, it]) (fun b ob hb q => (sb.2 b (fun z => hb (by simp [z]))).trans (hk b ob (fun z => hb (by simp [z])) (fun z => hb (by simp [z])) q)) hf (Nat.le_refl _) new
    refine ⟨.ref s.heap.objs.size, _, I1, rfl, ⟨_, x, rfl, I.hok.fresh (Nat.le_refl _), rfl, fun ys hy => by rw [I.tuple_inj hy hq]; exact hx⟩, ⟨⟨y, ?_⟩, hst.1.at fun o q => (sb.2 it (Ne.symm hne)).trans q, hne, hea, hai⟩, fun b hb => ?_⟩
    · have e1 : ((i + 1 : Nat) : Int) = (i : Int) + 1 := by omega
      rw [e1]; exact he'
    · have hb' : b < s.heap.objs.size := by
        have e' : b = e ∨ b = it := by simpa using hb
        rcases e' with z | z
        · rw [z]; exact hel
        · rw [z]; exact hil
      rw [upd_ne (Nat.ne_of_lt hb')]
      exact (hf b hb).1
  done := by
    intro X hP hw hK hc i pins s σ H E I hf st hg
    subst hP hw hK
    obtain ⟨⟨old, he⟩, hit, hne, hea, hai⟩ := st
    obtain ⟨xs, hq, hx⟩ := hg
    obtain ⟨its, rv, p, hz⟩ := I.tuple hq
    obtain ⟨f0, f1, f2, f3, f4, f5⟩ := hf it (by simp)
    have hl := rv.length
    have hdd : X.A.in1.handled = none := I.ok.hd hc
    have pt : s.heap.IsTuple a its.toArray := p
    exact EnT.pyNext_end hdd he hit pt (by simp; omega) fun h' eb => ⟨rfl, I.turned (t' := s.toks) (fun b o hb q => eb b o hb q) f0 f1 f3 f4 f5⟩
  self := fun A i s Q E st h => let ⟨⟨_, he⟩, _⟩ := st; wpAny_pyIter_enum he h
def iEnumV (K : PySem.W.Frag) (ta : TA) : TI := fun σ H R => ta σ H fun vs H1 => ∃ a xs, vs = [.ref a] ∧ SqT K H1 a xs ∧ R (IteT K a) H1
theorem pi_enumT {X : Cx} {e : Expr} {ta : TA} {p pos tpos : Pos} {elts : List Expr} {kk : Nat} (hg : Gl X "enumerate") (hm : X.mg "enumerate" = none) (ha : PA X [e] ta) (hs : starEach [e] X.env = [(false, eval e X.env)] := by rfl) :
    PI X (.Tuple elts kk tpos) (.Call (.Name "enumerate" p) [e] [] pos) (iEnumV X.K ta) := by
  refine ⟨fun pins s σ H R I h => ?_⟩
  refine Call_ (ld_blt I hg hm boot_enumerate (PyProof.Rows.callWith_type1 (thn (ha.run pos pins s σ H _ I h) fun us s1 ⟨vs, H1, I1, r1, q1⟩ => ?_) hs rfl))
  obtain ⟨a, xs, ex, hq, q⟩ := q1
  subst ex
  cases r1 with
  | cons r rr =>
    cases rr
    cases r
    obtain ⟨its, rv, p', hz⟩ := I1.tuple hq
    have pt : s1.heap.IsTuple a its.toArray := p'
    have la : a < s1.heap.objs.size := by obtain ⟨o, ho, _⟩ := pt; exact Heap.lt_size ho
    refine EnT.call_enum pt fun h' he hit hsz hk => wpAny_pyIter_enum he ?_
    have I2 : Inv X pins σ H1 { s1 with heap := h' } := I1.kept (t' := s1.toks) hk
    refine ⟨s1.heap.objs.size + 1, [s1.heap.objs.size + 1, s1.heap.objs.size], _, _, H1, rfl, I2, turn_enumT a (s1.heap.objs.size + 1) s1.heap.objs.size, ⟨⟨.none, he⟩, hit, Nat.succ_ne_self _, Ne.symm (Nat.ne_of_lt (Nat.lt_succ_of_lt la)), Nat.ne_of_lt la⟩, fun b hb => ?_, q⟩
    have e' : b = s1.heap.objs.size + 1 ∨ b = s1.heap.objs.size := by simpa using hb
    have hle : s1.heap.objs.size ≤ b := by
      rcases e' with z | z
      · rw [z]; exact Nat.le_add_right _ _
      · rw [z]; exact Nat.le_refl _
    exact I1.fpOk hle (I1.hok.fresh hle)
def enumT (ts : List T) : List T := ts.zipIdx.map fun p => T.tup [.int (p.2 : Nat), p.1]
theorem enumT_at {ts : List T} {i : Nat} {t : T} (h : (enumT ts)[i]? = some t) : ∃ x, ts[i]? = some x ∧ t = .tup [.int (i : Nat), x] := by
  unfold enumT at h
  rw [List.getElem?_map, List.getElem?_zipIdx] at h
  cases e : ts[i]? with
  | none => rw [e] at h; simp at h
  | some x =>
    rw [e] at h
    simp at h
    exact ⟨x, rfl, h.symm⟩
theorem enumT_length {ts : List T} : (enumT ts).length = ts.length := by simp [enumT]
theorem src_enum {K : PySem.W.Frag} {Z : Addr → Prop} {S : Store} {H : Hp} {p : Addr} {vs : List V} {ts : List T} (h : TupAt K Z S H p vs) (r : Reps K Z S H vs ts) : SrcOk K Z S H (IteT K p) (enumT ts) := fun Z' S1 H1 hz le ok => by
  replace h := h.hide hz
  replace r := r.hide hz
  refine ⟨fun i t hi => ?_, fun i hi => ⟨vs, (h.le le).sq, by rw [r.length, ← enumT_length]; exact hi⟩⟩
  obtain ⟨x, hx, rfl⟩ := enumT_at hi
  obtain ⟨v, hv, rep⟩ := r.get hx
  refine ⟨⟨vs, v, (h.le le).sq, hv⟩, fun u H' ⟨T, y, e1, hn, e2, k⟩ => ?_⟩
  subst e1 e2
  have := k vs (h.le le).sq
  rw [hv] at this
  cases this
  exact ⟨le_new hn, ok.new hn, .tupN ok hn (.cons (.int _) (.cons (rep.le le) .nil))⟩
def iEnumT (t : TRA) : TRI := fun σ S R RE => t σ S (fun xs S1 => ∃ ts, xs = [.tup ts] ∧ R (enumT ts) S1) RE
theorem it_enum {X : Cx} {E : XK} {e : Expr} {t : TRA} {p pos tpos : Pos} {elts : List Expr} {kk : Nat} (hg : Gl X "enumerate") (hm : X.mg "enumerate" = none) (ha : AT X E [e] t) (hs : starEach [e] X.env = [(false, eval e X.env)] := by rfl) :
    IT X E (.Tuple elts kk tpos) (.Call (.Name "enumerate" p) [e] [] pos) (iEnumT t) :=
  ⟨pi_weak (pi_enumT hg hm ha.pa hs) fun sl H Q ⟨⟨Z, σ, S, R, RE, fr, ok, w, po, xo⟩⟩ => ⟨_, σ, S, _, RE, fr, ok, w, fun xs S1 vs H1 k le ok1 rep => by
    obtain ⟨ts, rfl, k⟩ := k
    cases rep with
    | cons r rr =>
      cases rr
      cases r with
      | tup h r => exact ⟨_, _, rfl, h.sq, po _ S1 _ H1 k le ok1 (src_enum h r)⟩, xo⟩⟩

/-! a == b, a != b where the left side's type is built in and declines, and the right side's class has an own __eq__ -/
namespace Refl
open PySem PySem.Calls PyProof.Rows PySem.SeqAt
theorem int_eq_int (b : Int) (u : Tok) (l C dx : Addr) : Meets (Builtin.«int.__eq__» ⟨[.int b u, .ref l], []⟩) (fun _ R s => s.heap.get? l = some (PySem.W.instObj C dx) ∧ R (.ok (.ret .notImplemented)) s) :=
  .of_wp fun prog w A R s h => by obtain ⟨hp, g, d, tk, os⟩ := s; obtain ⟨hl, h⟩ := h; unfold PySem.W.instObj at hl; wp_walk using PySem.AutoSeq1.wpAny_loadPart' hl, wpAny_load hl; exact ⟨_, rfl, h⟩
theorem int_ne_int (b : Int) (u : Tok) (l C dx : Addr) : Meets (Builtin.«int.__ne__» ⟨[.int b u, .ref l], []⟩) (fun _ R s => s.heap.get? l = some (PySem.W.instObj C dx) ∧ R (.ok (.ret .notImplemented)) s) :=
  .of_wp fun prog w A R s h => by obtain ⟨hp, g, d, tk, os⟩ := s; obtain ⟨hl, h⟩ := h; unfold PySem.W.instObj at hl; wp_walk using PySem.AutoSeq1.wpAny_loadPart' hl, wpAny_load hl; exact ⟨_, rfl, h⟩
theorem int_eq_bool (b : Bool) (l C dx : Addr) : Meets (Builtin.«int.__eq__» ⟨[.bool b, .ref l], []⟩) (fun _ R s => s.heap.get? l = some (PySem.W.instObj C dx) ∧ R (.ok (.ret .notImplemented)) s) :=
  .of_wp fun prog w A R s h => by obtain ⟨hp, g, d, tk, os⟩ := s; obtain ⟨hl, h⟩ := h; unfold PySem.W.instObj at hl; wp_walk using PySem.AutoSeq1.wpAny_loadPart' hl, wpAny_load hl; exact ⟨_, rfl, h⟩
theorem int_ne_bool (b : Bool) (l C dx : Addr) : Meets (Builtin.«int.__ne__» ⟨[.bool b, .ref l], []⟩) (fun _ R s => s.heap.get? l = some (PySem.W.instObj C dx) ∧ R (.ok (.ret .notImplemented)) s) :=
  .of_wp fun prog w A R s h => by obtain ⟨hp, g, d, tk, os⟩ := s; obtain ⟨hl, h⟩ := h; unfold PySem.W.instObj at hl; wp_walk using PySem.AutoSeq1.wpAny_loadPart' hl, wpAny_load hl; exact ⟨_, rfl, h⟩
theorem str_eq (b : Str) (u : Tok) (l C dx : Addr) : Meets (Builtin.«str.__eq__» ⟨[.str b u, .ref l], []⟩) (fun _ R s => s.heap.get? l = some (PySem.W.instObj C dx) ∧ R (.ok (.ret .notImplemented)) s) :=
  .of_wp fun prog w A R s h => by obtain ⟨hp, g, d, tk, os⟩ := s; obtain ⟨hl, h⟩ := h; unfold PySem.W.instObj at hl; wp_walk using PySem.AutoSeq1.wpAny_loadPart' hl, wpAny_load hl; exact ⟨_, rfl, h⟩
theorem str_ne (b : Str) (u : Tok) (l C dx : Addr) : Meets (Builtin.«str.__ne__» ⟨[.str b u, .ref l], []⟩) (fun _ R s => s.heap.get? l = some (PySem.W.instObj C dx) ∧ R (.ok (.ret .notImplemented)) s) :=
  .of_wp fun prog w A R s h => by obtain ⟨hp, g, d, tk, os⟩ := s; obtain ⟨hl, h⟩ := h; unfold PySem.W.instObj at hl; wp_walk using PySem.AutoSeq1.wpAny_loadPart' hl, wpAny_load hl; exact ⟨_, rfl, h⟩
section
variable {prog : Program} {w : World} {A : Around} {E : Value → Shared → Prop} {s : Shared} {l x : Addr}
theorem lst_eq {Q : Fin → Shared → Prop} (h : PySem.W.Looks (model prog w) s.heap (isInstance (.ref x) (.type "list")) false) (q : Q (.done (.ret .notImplemented)) s) : wpAny (model prog w) A (Builtin.«list.__eq__» ⟨[.ref l, .ref x], []⟩) Q E s := by
  show wpAny _ _ (isInstance (.ref x) (.type "list") >>= _) _ _ s
  refine wpAny_bind (h.here ?_)
  rw [if_pos (show (!false) = true from rfl)]
  exact wpAny_bind (wpAny_pure (wpAny_pure q))
theorem lst_ne {Q : Fin → Shared → Prop} (h : PySem.W.Looks (model prog w) s.heap (isInstance (.ref x) (.type "list")) false) (q : Q (.done (.ret .notImplemented)) s) : wpAny (model prog w) A (Builtin.«list.__ne__» ⟨[.ref l, .ref x], []⟩) Q E s := by
  show wpAny _ _ (isInstance (.ref x) (.type "list") >>= _) _ _ s
  refine wpAny_bind (h.here ?_)
  rw [if_pos (show (!false) = true from rfl)]
  exact wpAny_bind (wpAny_pure (wpAny_pure q))
theorem tup_eq {Q : Fin → Shared → Prop} (h : PySem.W.Looks (model prog w) s.heap (isInstance (.ref x) (.type "tuple")) false) (q : Q (.done (.ret .notImplemented)) s) : wpAny (model prog w) A (Builtin.«tuple.__eq__» ⟨[.ref l, .ref x], []⟩) Q E s := by
  show wpAny _ _ (isInstance (.ref x) (.type "tuple") >>= _) _ _ s
  refine wpAny_bind (h.here ?_)
  rw [if_pos (show (!false) = true from rfl)]
  exact wpAny_bind (wpAny_pure (wpAny_pure q))
theorem tup_ne {Q : Fin → Shared → Prop} (h : PySem.W.Looks (model prog w) s.heap (isInstance (.ref x) (.type "tuple")) false) (q : Q (.done (.ret .notImplemented)) s) : wpAny (model prog w) A (Builtin.«tuple.__ne__» ⟨[.ref l, .ref x], []⟩) Q E s := by
  show wpAny _ _ (isInstance (.ref x) (.type "tuple") >>= _) _ _ s
  refine wpAny_bind (h.here ?_)
  rw [if_pos (show (!false) = true from rfl)]
  exact wpAny_bind (wpAny_pure (wpAny_pure q))
theorem dct_eq {Q : Fin → Shared → Prop} (h : PySem.W.Looks (model prog w) s.heap (isInstance (.ref x) (.type "dict")) false) (q : Q (.done (.ret .notImplemented)) s) : wpAny (model prog w) A (Builtin.«dict.__eq__» ⟨[.ref l, .ref x], []⟩) Q E s := by
  show wpAny _ _ (isInstance (.ref x) (.type "dict") >>= _) _ _ s
  refine wpAny_bind (h.here ?_)
  rw [if_pos (show (!false) = true from rfl)]
  exact wpAny_bind (wpAny_rule (wpAny_bind (wpAny_pure (wpAny_pure q))))
theorem dct_ne {Q : Fin → Shared → Prop} (h : PySem.W.Looks (model prog w) s.heap (isInstance (.ref x) (.type "dict")) false) (q : Q (.done (.ret .notImplemented)) s) : wpAny (model prog w) A (Builtin.«dict.__ne__» ⟨[.ref l, .ref x], []⟩) Q E s := by
  show wpAny _ _ (isInstance (.ref x) (.type "dict") >>= _) _ _ s
  refine wpAny_bind (h.here ?_)
  rw [if_pos (show (!false) = true from rfl)]
  exact wpAny_bind (wpAny_rule (wpAny_bind (wpAny_pure (wpAny_pure q))))
end

section
variable {prog : Program} {w : World} {A : Around} {E : Value → Shared → Prop} {s : Shared} {K : PySem.W.Frag} {x C f dx : Addr} {ox : Obj} {od : Option Obj} {v : Value} {T : String}
theorem eq_refl {Q : Value → Shared → Prop} (hu : A.units < cLine) (inK : K.In s.heap) (hT : s.TypeIs v T) (I : PySem.W.InstAt s.heap x ox C od) (hn : PySem.W.subIn K (.ref C) (.type T) = some false)
    (dec : ∀ (Q : Option Value → Shared → Prop), Q none s → wpAny (model prog w) A (tryCompare v (cmpInfo .Eq).2.1 (.ref x)) Q E s) (he : PySem.W.findIn K (.ref C) "__eq__" = some (some (.ref f))) (hf : PySem.W.isFn K (.ref f) = true)
    (h : wpAny (model prog w) A (call (.ref f) [.ref x, v]) (PySem.W.CmpBack Q) E s) : wpAny (model prog w) A (richCompare .Eq v (.ref x)) Q E s := by
  have one : wpAny (model prog w) A (tryCompare (.ref x) (cmpInfo .Eq).2.2 v) (fun r s' => ∃ v, r = some v ∧ Q v s') E s := by
    unfold tryCompare
    refine wpAny_bind (PySem.W.ifBound_K inK I he hf (wpAny_mono h (fun v s' hv => ?_) fun _ _ e => e))
    cases v <;> first | exact hv.elim | exact wpAny_pure ⟨_, rfl, hv⟩
  rcases hi : cmpInfo CmpOp.Eq with ⟨sym, f', r'⟩
  rw [hi] at dec one
  simp only [richCompare, hi, hT.oneThing_none]
  refine wpAny_holding (wpAny_bind (wpAny_cRoomFor hu ?_))
  refine wpAny_bind (wpAny_typeOf hT (wpAny_bind (I.type.here ?_)))
  rw [if_pos (show (Value.type T != Value.ref C) = true from rfl)]
  refine wpAny_bind ((PySem.W.looks_subIn inK hn).here ?_)
  simp only [Bool.false_eq_true, if_false, Bool.not_false, if_true]
  refine wpAny_bind (m := tryCompare v _ (.ref x)) (dec _ ?_)
  refine wpAny_bind (m := tryCompare (.ref x) _ v) (wpAny_mono one (fun r s' got => ?_) fun _ _ z => z)
  obtain ⟨u, rfl, hq⟩ := got
  exact wpAny_pure hq
theorem ne_refl {Q : Value → Shared → Prop} (hu : A.units + 1 < cLine) (inK : K.In s.heap) (hT : s.TypeIs v T) (I : PySem.W.InstAt s.heap x ox C od) (hn : PySem.W.subIn K (.ref C) (.type T) = some false)
    (dec : ∀ (Q : Option Value → Shared → Prop), Q none s → wpAny (model prog w) A (tryCompare v (cmpInfo .NotEq).2.1 (.ref x)) Q E s) (hs : PySem.W.findIn K (.ref C) "__ne__" = some (some (.builtin "object.__ne__"))) (hm : PySem.W.mroIn K C (.type "object") = some true)
    (he : PySem.W.findIn K (.ref C) "__eq__" = some (some (.ref f))) (hf : PySem.W.isFn K (.ref f) = true)
    (hc : wpAny (model prog w) A.in1 (call (.ref f) [.ref x, v]) (NeOwn.Neg Q) E s) : wpAny (model prog w) A (richCompare .NotEq v (.ref x)) Q E s := by
  have one : wpAny (model prog w) A (tryCompare (.ref x) (cmpInfo .NotEq).2.2 v) (fun r s' => ∃ c, r = some (.bool c) ∧ Q (.bool c) s') E s := by
    unfold tryCompare
    refine wpAny_bind (NeOwn.slot inK I hs (wpAny_call (codeAny_call_builtin PySem.F.cmp_object.ne.plain PySem.F.cmpEntry_ne (PySem.W.check_slot PySem.F.cmpKind_ne PySem.F.cmpSplit_ne (I.type.andThen (PySem.W.looks_mroIn inK hm)) (PySem.F.cmpArgs_ne _ _)
      (NeOwn.body (A := A.in1) inK I hu he hf (wpAny_mono hc (fun r s' got => ?_) fun _ _ z => z))))))
    obtain ⟨c, rfl, hq⟩ := got
    exact ⟨c, rfl, wpAny_pure ⟨!c, rfl, hq⟩⟩
  rcases hi : cmpInfo CmpOp.NotEq with ⟨sym, f', r'⟩
  rw [hi] at dec one
  simp only [richCompare, hi, hT.oneThing_none]
  refine wpAny_holding (wpAny_bind (wpAny_cRoomFor (Nat.lt_of_succ_lt hu) ?_))
  refine wpAny_bind (wpAny_typeOf hT (wpAny_bind (I.type.here ?_)))
  rw [if_pos (show (Value.type T != Value.ref C) = true from rfl)]
  refine wpAny_bind ((PySem.W.looks_subIn inK hn).here ?_)
  simp only [Bool.false_eq_true, if_false, Bool.not_false, if_true]
  refine wpAny_bind (m := tryCompare v _ (.ref x)) (dec _ ?_)
  refine wpAny_bind (m := tryCompare (.ref x) _ v) (wpAny_mono one (fun r s' got => ?_) fun _ _ z => z)
  obtain ⟨u, rfl, hq⟩ := got
  exact wpAny_pure hq
end
/-! who declines -/
section
variable {prog : Program} {w : World} {A : Around} {E : Value → Shared → Prop} {s : Shared} {x C dx l : Addr} {Q : Option Value → Shared → Prop}
theorem d_none_eq (q : Q none s) : wpAny (model prog w) A (tryCompare .none (cmpInfo .Eq).2.1 (.ref x)) Q E s := wpAny_tryCompare_declines rfl F.slot_NoneType_eq (call_gives F.slot_NoneType_eq rfl F.entry_NoneType_eq (F.args_NoneType_eq_2 _ _) (NoneType___eq___none_ref_0 x) ⟨rfl, q⟩)
theorem d_none_ne (q : Q none s) : wpAny (model prog w) A (tryCompare .none (cmpInfo .NotEq).2.1 (.ref x)) Q E s := wpAny_tryCompare_declines rfl F.slot_NoneType_ne (call_gives F.slot_NoneType_ne rfl F.entry_NoneType_ne (F.args_NoneType_ne_2 _ _) (NoneType___ne___none_ref_0 x) ⟨rfl, q⟩)
theorem d_bool_eq {b : Bool} (hl : s.heap.get? x = some (PySem.W.instObj C dx)) (q : Q none s) : wpAny (model prog w) A (tryCompare (.bool b) (cmpInfo .Eq).2.1 (.ref x)) Q E s := wpAny_tryCompare_declines rfl F.slot_bool_eq (call_meets F.slot_bool_eq rfl F.entry_int_eq (F.args_int_eq_2 _ _) (int_eq_bool b x C dx) ⟨hl, rfl, q⟩)
theorem d_bool_ne {b : Bool} (hl : s.heap.get? x = some (PySem.W.instObj C dx)) (q : Q none s) : wpAny (model prog w) A (tryCompare (.bool b) (cmpInfo .NotEq).2.1 (.ref x)) Q E s := wpAny_tryCompare_declines rfl F.slot_bool_ne (call_meets F.slot_bool_ne rfl F.entry_int_ne (F.args_int_ne_2 _ _) (int_ne_bool b x C dx) ⟨hl, rfl, q⟩)
theorem d_int_eq {b : Int} {t : Tok} (hl : s.heap.get? x = some (PySem.W.instObj C dx)) (q : Q none s) : wpAny (model prog w) A (tryCompare (.int b t) (cmpInfo .Eq).2.1 (.ref x)) Q E s := wpAny_tryCompare_declines (typeIs_int s b t) F.slot_int_eq (call_meets F.slot_int_eq (typeIs_int s b t) F.entry_int_eq (F.args_int_eq_2 _ _) (int_eq_int b t x C dx) ⟨hl, rfl, q⟩)
theorem d_int_ne {b : Int} {t : Tok} (hl : s.heap.get? x = some (PySem.W.instObj C dx)) (q : Q none s) : wpAny (model prog w) A (tryCompare (.int b t) (cmpInfo .NotEq).2.1 (.ref x)) Q E s := wpAny_tryCompare_declines (typeIs_int s b t) F.slot_int_ne (call_meets F.slot_int_ne (typeIs_int s b t) F.entry_int_ne (F.args_int_ne_2 _ _) (int_ne_int b t x C dx) ⟨hl, rfl, q⟩)
theorem d_str_eq {b : Str} {t : Tok} (hl : s.heap.get? x = some (PySem.W.instObj C dx)) (q : Q none s) : wpAny (model prog w) A (tryCompare (.str b t) (cmpInfo .Eq).2.1 (.ref x)) Q E s := wpAny_tryCompare_declines (typeIs_str s b t) F.slot_str_eq (call_meets F.slot_str_eq (typeIs_str s b t) F.entry_str_eq (F.args_str_eq_2 _ _) (str_eq b t x C dx) ⟨hl, rfl, q⟩)
theorem d_str_ne {b : Str} {t : Tok} (hl : s.heap.get? x = some (PySem.W.instObj C dx)) (q : Q none s) : wpAny (model prog w) A (tryCompare (.str b t) (cmpInfo .NotEq).2.1 (.ref x)) Q E s := wpAny_tryCompare_declines (typeIs_str s b t) F.slot_str_ne (call_meets F.slot_str_ne (typeIs_str s b t) F.entry_str_ne (F.args_str_ne_2 _ _) (str_ne b t x C dx) ⟨hl, rfl, q⟩)
theorem d_lst_eq (hT : s.TypeIs (.ref l) "list") (h : PySem.W.Looks (model prog w) s.heap (isInstance (.ref x) (.type "list")) false) (q : Q none s) : wpAny (model prog w) A (tryCompare (.ref l) (cmpInfo .Eq).2.1 (.ref x)) Q E s := wpAny_tryCompare_declines hT F.slot_list_eq (wpAny_call_entry F.slot_list_eq hT F.entry_list_eq (lst_eq h ⟨_, rfl, rfl, q⟩) (F.args_list_eq_2 _ _))
theorem d_lst_ne (hT : s.TypeIs (.ref l) "list") (h : PySem.W.Looks (model prog w) s.heap (isInstance (.ref x) (.type "list")) false) (q : Q none s) : wpAny (model prog w) A (tryCompare (.ref l) (cmpInfo .NotEq).2.1 (.ref x)) Q E s := wpAny_tryCompare_declines hT F.slot_list_ne (wpAny_call_entry F.slot_list_ne hT F.entry_list_ne (lst_ne h ⟨_, rfl, rfl, q⟩) (F.args_list_ne_2 _ _))
theorem d_tup_eq (hT : s.TypeIs (.ref l) "tuple") (h : PySem.W.Looks (model prog w) s.heap (isInstance (.ref x) (.type "tuple")) false) (q : Q none s) : wpAny (model prog w) A (tryCompare (.ref l) (cmpInfo .Eq).2.1 (.ref x)) Q E s := wpAny_tryCompare_declines hT F.slot_tuple_eq (wpAny_call_entry F.slot_tuple_eq hT F.entry_tuple_eq (tup_eq h ⟨_, rfl, rfl, q⟩) (F.args_tuple_eq_2 _ _))
theorem d_tup_ne (hT : s.TypeIs (.ref l) "tuple") (h : PySem.W.Looks (model prog w) s.heap (isInstance (.ref x) (.type "tuple")) false) (q : Q none s) : wpAny (model prog w) A (tryCompare (.ref l) (cmpInfo .NotEq).2.1 (.ref x)) Q E s := wpAny_tryCompare_declines hT F.slot_tuple_ne (wpAny_call_entry F.slot_tuple_ne hT F.entry_tuple_ne (tup_ne h ⟨_, rfl, rfl, q⟩) (F.args_tuple_ne_2 _ _))
theorem d_dct_eq (hT : s.TypeIs (.ref l) "dict") (h : PySem.W.Looks (model prog w) s.heap (isInstance (.ref x) (.type "dict")) false) (q : Q none s) : wpAny (model prog w) A (tryCompare (.ref l) (cmpInfo .Eq).2.1 (.ref x)) Q E s := wpAny_tryCompare_declines hT F.slot_dict_eq (wpAny_call_entry F.slot_dict_eq hT F.entry_dict_eq (dct_eq h ⟨_, rfl, rfl, q⟩) (F.args_dict_eq_2 _ _))
theorem d_dct_ne (hT : s.TypeIs (.ref l) "dict") (h : PySem.W.Looks (model prog w) s.heap (isInstance (.ref x) (.type "dict")) false) (q : Q none s) : wpAny (model prog w) A (tryCompare (.ref l) (cmpInfo .NotEq).2.1 (.ref x)) Q E s := wpAny_tryCompare_declines hT F.slot_dict_ne (wpAny_call_entry F.slot_dict_ne hT F.entry_dict_ne (dct_ne h ⟨_, rfl, rfl, q⟩) (F.args_dict_ne_2 _ _))
end
end Refl

/-! ### a == b, a != b where one of the two is of a family of classes with own __eq__, the other of the family or of a built-in type -/
def tysR : List String := ["NoneType", "bool", "int", "str", "list", "tuple", "dict"]
def nfF (K : PySem.W.Frag) (l : List Addr) : Bool := (l.all fun a => l.all fun b => PySem.W.notFirst K a (.ref b)) && l.all fun a => tysR.all fun T => PySem.W.notFirst K a (.type T) && (PySem.W.subIn K (.ref a) (.type T) == some false) && (PySem.W.mroIn K a (.type T) == some false)
def InFam (l : List Addr) (tb : Value) : Prop := (∃ C, tb = .ref C ∧ C ∈ l) ∨ ∃ T, tb = .type T ∧ T ∈ tysR
theorem nfF.first {K : PySem.W.Frag} {l : List Addr} {a : Addr} {tb : Value} (h : nfF K l = true) (ha : a ∈ l) (hb : InFam l tb) : PySem.W.notFirst K a tb = true := by
  obtain ⟨h1, h2⟩ := Bool.and_eq_true_iff.mp h
  rcases hb with ⟨b, rfl, hb⟩ | ⟨T, rfl, hT⟩
  · exact List.all_eq_true.mp (List.all_eq_true.mp h1 a ha) b hb
  · exact (Bool.and_eq_true_iff.mp (Bool.and_eq_true_iff.mp (List.all_eq_true.mp (List.all_eq_true.mp h2 a ha) T hT)).1).1
theorem nfF.ty {K : PySem.W.Frag} {l : List Addr} {a : Addr} {T : String} (h : nfF K l = true) (ha : a ∈ l) (hT : T ∈ tysR) : PySem.W.subIn K (.ref a) (.type T) = some false ∧ PySem.W.mroIn K a (.type T) = some false := by
  obtain ⟨h1, h2⟩ := Bool.and_eq_true_iff.mp h
  have q := Bool.and_eq_true_iff.mp (List.all_eq_true.mp (List.all_eq_true.mp h2 a ha) T hT)
  exact ⟨beq_iff_eq.mp (Bool.and_eq_true_iff.mp q.1).2, beq_iff_eq.mp q.2⟩
def kEqFam (K : PySem.W.Frag) (D : Addr → SpT → Prop) (l : List Addr) (ng : Bool) : KB := fun x y S R RE =>
  (∃ C gs sp tb, insOf x S = some (C, gs) ∧ D C sp ∧ C ∈ l ∧ TyT K S y tb ∧ InFam l tb ∧ sp [x, y] S (fun z S' => ∃ c, z = .bl c ∧ R (.bl (ng ^^ c)) S') RE) ∨
  (∃ C gs sp T, insOf y S = some (C, gs) ∧ D C sp ∧ C ∈ l ∧ TyT K S x (.type T) ∧ T ∈ tysR ∧ sp [y, x] S (fun z S' => ∃ c, z = .bl c ∧ R (.bl (ng ^^ c)) S') RE)
section
variable {X : Cx} {E : XK} {D : Addr → SpT → Prop} {l : List Addr}
theorem decl_of {pins : List (Addr × Obj)} {sl : L2.St} {H : Hp} {s : Shared} {Z : Addr → Prop} {S : Store} {v : V} {w : Value} {x : T} {a C : Addr} {TT : String} (inv : Inv X pins sl H s) (ok : Ok X.K Z S H) (rx : Rep X.K Z S H v x) (rv : RelV v w) (ht : TyT X.K S x (.type TT))
    {dx : Addr} (hl : s.heap.get? a = some (PySem.W.instObj C dx)) (isO : ∀ T ∈ tysR, PySem.W.Looks (model X.prog X.w) s.heap (isInstance (.ref a) (.type T)) false) :
    s.TypeIs w TT ∧ (∀ {A : Around} {E : Value → Shared → Prop} (Q : Option Value → Shared → Prop), Q none s → wpAny (model X.prog X.w) A (tryCompare w (cmpInfo .Eq).2.1 (.ref a)) Q E s) ∧
      (∀ {A : Around} {E : Value → Shared → Prop} (Q : Option Value → Shared → Prop), Q none s → wpAny (model X.prog X.w) A (tryCompare w (cmpInfo .NotEq).2.1 (.ref a)) Q E s) := by
  have hlst : ∀ {p : Addr} {vs : List V}, SqL X.K H p vs → w = .ref p → TT = "list" → s.TypeIs w TT ∧ (∀ {A : Around} {E : Value → Shared → Prop} (Q : Option Value → Shared → Prop), Q none s → wpAny (model X.prog X.w) A (tryCompare w (cmpInfo .Eq).2.1 (.ref a)) Q E s) ∧
      (∀ {A : Around} {E : Value → Shared → Prop} (Q : Option Value → Shared → Prop), Q none s → wpAny (model X.prog X.w) A (tryCompare w (cmpInfo .NotEq).2.1 (.ref a)) Q E s) := by
    intro p vs h e1 e2
    subst e1 e2
    obtain ⟨its, _, pl, _⟩ := inv.list h
    have q := isO "list" (by decide)
    exact ⟨pl.isList.typeIs, fun Q h => Refl.d_lst_eq pl.isList.typeIs q h, fun Q h => Refl.d_lst_ne pl.isList.typeIs q h⟩
  cases ht with
  | non =>
    cases rx
    obtain rfl : w = Value.none := rv
    exact ⟨rfl, fun Q h => Refl.d_none_eq h, fun Q h => Refl.d_none_ne h⟩
  | bl b =>
    cases rx
    obtain rfl : w = Value.bool b := rv
    exact ⟨rfl, fun Q h => Refl.d_bool_eq hl h, fun Q h => Refl.d_bool_ne hl h⟩
  | int i =>
    cases rx
    obtain ⟨t, rfl⟩ : ∃ t, w = Value.int i t := rv
    exact ⟨typeIs_int s i t, fun Q h => Refl.d_int_eq hl h, fun Q h => Refl.d_int_ne hl h⟩
  | str z =>
    cases rx
    obtain ⟨t, rfl⟩ : ∃ t, w = Value.str z t := rv
    exact ⟨typeIs_str s z t, fun Q h => Refl.d_str_eq hl h, fun Q h => Refl.d_str_ne hl h⟩
  | lst ts =>
    cases rx with | lst h r => exact hlst h.sq rv rfl
  | scr ts =>
    cases rx with | scr h r => exact hlst h.sq rv rfl
  | tup ts =>
    cases rx with
    | @tup p vs ts h r =>
      obtain rfl : w = Value.ref p := rv
      obtain ⟨its, _, pl, _⟩ := inv.tuple h.sq
      have q := isO "tuple" (by decide)
      exact ⟨pl.typeIs, fun Q h => Refl.d_tup_eq pl.typeIs q h, fun Q h => Refl.d_tup_ne pl.typeIs q h⟩
  | dct =>
    cases rx with
    | @dct p h n =>
      obtain rfl : w = Value.ref p := rv
      obtain ⟨_, _, vs, _, o, es, ep, ho, hx, _⟩ := (show ObjOk X.prog X.w H s.heap p (.dK []) from inv.hok p _ h)
      have hT : s.TypeIs (.ref p) "dict" := ⟨o, ho, hx.1⟩
      have q := isO "dict" (by decide)
      exact ⟨hT, fun Q h => Refl.d_dct_eq hT q h, fun Q h => Refl.d_dct_ne hT q h⟩
  | @cell p ts h =>
    cases rx
    have c := ok.cl p
    rw [h] at c
    obtain ⟨vs, hv, _⟩ := c
    exact hlst (.inl (.inl hv)) rv rfl

theorem op_eqFam (O : EqD X D) (nf : nfF X.K l = true) (gds : X.A.guards = some []) (hx : Passes (L2N.CX X.prog X.w) X E) : OpR X (compareOp .Eq) (RK X.K E (kEqFam X.K D l false)) := by
  intro pins s sl H v u w z Q inv rv ru want
  obtain ⟨Z, x, y, S, R, RE, ok, rx, ry, kk, po, xo⟩ := want
  rcases kk with ⟨C, gs, sp, tb, hi, hd, hc, ht, hf, kk⟩ | ⟨C, gs, sp, TT, hi, hd, hc, ht, hT, kk⟩
  · obtain ⟨k, f, fd, ps, o, F, hr, hb⟩ := O.at_ C sp hd
    obtain ⟨a, dx, fs, rfl, hH, _⟩ := ins_rep ok rx hi
    obtain rfl : w = Value.ref a := rv
    obtain ⟨mA, OA, _⟩ := ins_get inv.hok hH
    obtain ⟨od, J, _⟩ := OA.look
    obtain ⟨KP, kx, kp, _⟩ := kit_ofY inv ru (ty_rep ok ry ht)
    obtain ⟨m, fr⟩ := inv.fr
    have up : UpF X.K sp [.ref a, u] H (fun v H' => ∃ c, v = .bl c ∧ Q (.bl c) H') E := ⟨Z, [x, y], S, _, RE, .cons rx (.cons ry .nil), ok, kk, fun t S' v H' kt le ok' rep => by
      obtain ⟨c, rfl, kt⟩ := kt
      rw [Bool.false_xor] at kt
      cases rep
      exact ⟨c, rfl, po _ _ _ _ kt le ok' (.bl c)⟩, xo⟩
    have vv : Vals [V.ref a, u] [Value.ref a, z] := .cons rfl (.cons ru .nil)
    have hl : ([Value.ref a, z] ++ []).length = ps.length := vv.length.symm.trans (F.fn.len _ _ _ _ up)
    show wpAny (model X.prog X.w) X.A (richCompare .Eq (.ref a) z) (EP X pins sl Q) X.xe s
    refine PySem.W.cmp_K (op := .Eq) (tb := tb) (by have := hr.un; omega) fr inv.ok.mod.kin J (kx.ty _ _ inv.kIn kp) (nfF.first nf hc hf) o.eq o.fn ?_
    refine thn (goT F gds (hr.mono (by omega)) hx inv (hb s [.ref a, z] inv.kIn hl) vv up) fun r s' got => ?_
    obtain ⟨v, H', I2, r2, c, rfl, q⟩ := got
    cases r2
    exact ⟨.bl c, H', I2, rfl, q⟩
  · obtain ⟨k, f, fd, ps, o, F, hr, hb⟩ := O.at_ C sp hd
    obtain ⟨a, dx, fs, rfl, hH, _⟩ := ins_rep ok ry hi
    obtain rfl : z = Value.ref a := ru
    obtain ⟨mA, OA, _⟩ := ins_get inv.hok hH
    obtain ⟨od, J, _⟩ := OA.look
    obtain ⟨_, _, _, hgx, _⟩ := (show ObjOk X.prog X.w H s.heap a (.ins C dx fs) from inv.hok a _ hH)
    obtain ⟨hT1, dec, _⟩ := decl_of inv ok rx rv ht hgx (fun T m => J.type.andThen (PySem.W.looks_mroIn inv.kIn (nfF.ty nf hc m).2))
    have up : UpF X.K sp [.ref a, v] H (fun v H' => ∃ c, v = .bl c ∧ Q (.bl c) H') E := ⟨Z, [y, x], S, _, RE, .cons ry (.cons rx .nil), ok, kk, fun t S' v H' kt le ok' rep => by
      obtain ⟨c, rfl, kt⟩ := kt
      rw [Bool.false_xor] at kt
      cases rep
      exact ⟨c, rfl, po _ _ _ _ kt le ok' (.bl c)⟩, xo⟩
    have vv : Vals [V.ref a, v] [Value.ref a, w] := .cons rfl (.cons rv .nil)
    have hl : ([Value.ref a, w] ++ []).length = ps.length := vv.length.symm.trans (F.fn.len _ _ _ _ up)
    show wpAny (model X.prog X.w) X.A (richCompare .Eq w (.ref a)) (EP X pins sl Q) X.xe s
    refine Refl.eq_refl (by have := hr.un; omega) inv.kIn hT1 J (nfF.ty nf hc hT).1 (fun Q h => dec Q h) o.eq o.fn ?_
    refine thn (goT F gds (hr.mono (by omega)) hx inv (hb s [.ref a, w] inv.kIn hl) vv up) fun r s' got => ?_
    obtain ⟨v, H', I2, r2, c, rfl, q⟩ := got
    cases r2
    exact ⟨.bl c, H', I2, rfl, q⟩
theorem op_neFam (O : EqD X D) (nf : nfF X.K l = true) (gds : X.A.guards = some []) (hx : Passes (L2N.CX X.prog X.w) X E) : OpR X (compareOp .NotEq) (RK X.K E (kEqFam X.K D l true)) := by
  intro pins s sl H v u w z Q inv rv ru want
  obtain ⟨Z, x, y, S, R, RE, ok, rx, ry, kk, po, xo⟩ := want
  rcases kk with ⟨C, gs, sp, tb, hi, hd, hc, ht, hf, kk⟩ | ⟨C, gs, sp, TT, hi, hd, hc, ht, hT, kk⟩
  · obtain ⟨k, f, fd, ps, o, F, hr, hb⟩ := O.at_ C sp hd
    obtain ⟨a, dx, fs, rfl, hH, _⟩ := ins_rep ok rx hi
    obtain rfl : w = Value.ref a := rv
    obtain ⟨mA, OA, _⟩ := ins_get inv.hok hH
    obtain ⟨od, J, _⟩ := OA.look
    obtain ⟨KP, kx, kp, _⟩ := kit_ofY inv ru (ty_rep ok ry ht)
    have up : UpF X.K sp [.ref a, u] H (fun v H' => ∃ c, v = .bl c ∧ Q (.bl (!c)) H') E := ⟨Z, [x, y], S, _, RE, .cons rx (.cons ry .nil), ok, kk, fun t S' v H' kt le ok' rep => by
      obtain ⟨c, rfl, kt⟩ := kt
      rw [Bool.true_xor] at kt
      cases rep
      exact ⟨c, rfl, po _ _ _ _ kt le ok' (.bl _)⟩, xo⟩
    have vv : Vals [V.ref a, u] [Value.ref a, z] := .cons rfl (.cons ru .nil)
    have hl : ([Value.ref a, z] ++ []).length = ps.length := vv.length.symm.trans (F.fn.len _ _ _ _ up)
    show wpAny (model X.prog X.w) X.A (richCompare .NotEq (.ref a) z) (EP X pins sl Q) X.xe s
    refine NeOwn.ne_KD (by have := hr.un; omega) inv.kIn J (kx.ty _ _ inv.kIn kp) (nfF.first nf hc hf) o.ne o.mro o.eq o.fn ?_
    refine wpAny_call (codeAny_mono (F.fn.go X.A.in1 X.stack s H ⟨[.ref a, z], []⟩ ([Value.ref a, z] ++ []) [V.ref a, u] _ E (by first | exact gds | simpa [Around.in1] using gds) hr.in1 inv.env0.in1 (hb s [.ref a, z] inv.kIn hl) (by rw [List.append_nil]; exact vv) up) fun r s' got => ?_)
    cases r with
    | error er => exact hx pins sl H s er s' inv got
    | ok fl =>
      cases fl with
      | ret t =>
        obtain ⟨v, H', I3, rz, c, rfl, q⟩ := inv.after got
        cases rz
        exact ⟨c, rfl, .bl (!c), H', I3, rfl, q⟩
      | next => exact got.elim
      | brk => exact got.elim
      | cont => exact got.elim
  · obtain ⟨k, f, fd, ps, o, F, hr, hb⟩ := O.at_ C sp hd
    obtain ⟨a, dx, fs, rfl, hH, _⟩ := ins_rep ok ry hi
    obtain rfl : z = Value.ref a := ru
    obtain ⟨mA, OA, _⟩ := ins_get inv.hok hH
    obtain ⟨od, J, _⟩ := OA.look
    obtain ⟨_, _, _, hgx, _⟩ := (show ObjOk X.prog X.w H s.heap a (.ins C dx fs) from inv.hok a _ hH)
    obtain ⟨hT1, _, dec⟩ := decl_of inv ok rx rv ht hgx (fun T m => J.type.andThen (PySem.W.looks_mroIn inv.kIn (nfF.ty nf hc m).2))
    have up : UpF X.K sp [.ref a, v] H (fun v H' => ∃ c, v = .bl c ∧ Q (.bl (!c)) H') E := ⟨Z, [y, x], S, _, RE, .cons ry (.cons rx .nil), ok, kk, fun t S' v H' kt le ok' rep => by
      obtain ⟨c, rfl, kt⟩ := kt
      rw [Bool.true_xor] at kt
      cases rep
      exact ⟨c, rfl, po _ _ _ _ kt le ok' (.bl _)⟩, xo⟩
    have vv : Vals [V.ref a, v] [Value.ref a, w] := .cons rfl (.cons rv .nil)
    have hl : ([Value.ref a, w] ++ []).length = ps.length := vv.length.symm.trans (F.fn.len _ _ _ _ up)
    show wpAny (model X.prog X.w) X.A (richCompare .NotEq w (.ref a)) (EP X pins sl Q) X.xe s
    refine Refl.ne_refl (by have := hr.un; omega) inv.kIn hT1 J (nfF.ty nf hc hT).1 (fun Q h => dec Q h) o.ne o.mro o.eq o.fn ?_
    refine wpAny_call (codeAny_mono (F.fn.go X.A.in1 X.stack s H ⟨[.ref a, w], []⟩ ([Value.ref a, w] ++ []) [V.ref a, v] _ E (by first | exact gds | simpa [Around.in1] using gds) hr.in1 inv.env0.in1 (hb s [.ref a, w] inv.kIn hl) (by rw [List.append_nil]; exact vv) up) fun r s' got => ?_)
    cases r with
    | error er => exact hx pins sl H s er s' inv got
    | ok fl =>
      cases fl with
      | ret t =>
        obtain ⟨v, H', I3, rz, c, rfl, q⟩ := inv.after got
        cases rz
        exact ⟨c, rfl, .bl (!c), H', I3, rfl, q⟩
      | next => exact got.elim
      | brk => exact got.elim
      | cont => exact got.elim
theorem op_eqFamK (K : PySem.W.Frag) (hK : X.K = K) (O : EqD X D) (nf : nfF K l = true) (gds : X.A.guards = some []) (hx : Passes (L2N.CX X.prog X.w) X E) : OpR X (compareOp .Eq) (RK X.K E (kEqFam K D l false)) := by
  subst hK
  exact op_eqFam O nf gds hx
theorem op_neFamK (K : PySem.W.Frag) (hK : X.K = K) (O : EqD X D) (nf : nfF K l = true) (gds : X.A.guards = some []) (hx : Passes (L2N.CX X.prog X.w) X E) : OpR X (compareOp .NotEq) (RK X.K E (kEqFam K D l true)) := by
  subst hK
  exact op_neFam O nf gds hx
/-! ### an empty dict -/
def rDct : TR := fun _ S R _ => R .dct S
theorem et_dct {pos : Pos} : ET X E (.Dict [] [] pos) rDct := ⟨pe_weak pe_dnewK fun sl H Q h => by
  obtain ⟨Z, σ, S, R, RE, fr, ok, w, po, xo⟩ := h.ex
  exact fun p hp => po _ S _ _ w (le_new hp) (ok.new hp) (.dct upd_same ⟨ok.free hp, ok.nz hp⟩)⟩
end
/-! ### defs with self and *args -/
section
variable {P : Program} {w : World} {K : PySem.W.Frag} {mg : Str → Option Value} {base : Heap} {k : Nat} {f : Addr} {fd : FuncData} {sp : SpT}
theorem okTS2 {x qual sv pv : Str} {st : Stmt} {N : List Str} {r : TRS} (F : Fun K x qual st f fd) (S : FnScope N [sv, pv] (defScope st))
    (hb : ∀ (u : Value) (us : List Value), bindArgs fd ⟨u :: us, []⟩ = (newTuple us >>= fun t => pure [(sv, u), (pv, t)]))
    (bs : ∀ (cdv : Value) (A : Around) (out : List Env) (s : Shared) (H : Hp) (E : XK), A.guards = some [] → Room k (A.deeper (envOfC qual (defScope st) s.heap.objs.size f cdv)) → BS (cxT P w K mg base N qual (defScope st) f cdv A out s H E) E (defBody st) r)
    (hsp : ∀ ts S R RE, sp ts S R RE → ∃ t0 ts', ts = t0 :: ts' ∧ ts'.length ≤ sizeLine ∧ r { nx := fun _ S' => R .non S', rt := R, ex := RE } (startT N [t0, .tup ts']) S) : FnS P w K mg base (k + 1) f sp := by
  obtain ⟨_, _, _, _, _, _, cdv, _, _, e, lk, code⟩ := F.ex
  subst e
  refine ⟨fun A out s H us vs Q E gds hr e0 rv up => ?_⟩
  obtain ⟨Z, ts, S0, R, RE, rs, ok, h, po, xo⟩ := up.ex
  obtain ⟨t0, ts', rfl, hl, h⟩ := hsp ts S0 R RE h
  cases rs with
  | @cons v0 _ vs' _ r0 rs =>
  cases rv with
  | @cons _ u0 _ us' q0 rv =>
  have lv : vs'.length ≤ sizeLine := by rw [rs.length]; exact hl
  have lu : us'.length ≤ sizeLine := by rw [← rv.length]; exact lv
  have hn : H s.heap.objs.size = Option.none := e0.hok.fresh (Nat.le_refl _)
  refine StX.run_bnd lk code S hr e0 (G := fun xs H2 => ∃ p, H p = Option.none ∧ xs = [v0, V.ref p] ∧ H2 = upd H p (.tup vs')) (fun A' Ex Q' g => ?_) fun s2 H2 xs ⟨p, hp, ex, eH⟩ hr' => ?_
  · rw [hb u0 us']
    refine wpAny_bind (wpAny_newTuple (wpAny_pure ?_) lu)
    have made : ObjOk P w (upd H s.heap.objs.size (.tup vs')) (s.heap.push ({ cls := .type "tuple", data := .seq us'.toArray } : Obj)) s.heap.objs.size (.tup vs') := ⟨lv, us', rv, ⟨_, Heap.get?_push_size _ rfl, rfl, _, rfl⟩⟩
    have un := StX.un_laid (fs := frs out) (s := s) (o := ({ cls := .type "tuple", data := .seq us'.toArray } : Obj)) (u := .tup vs') hn
    exact g _ _ [v0, V.ref s.heap.objs.size] [u0, Value.ref s.heap.objs.size] (StX.env0_laid e0 made) un rfl (fun e s' => cxUpN out s H _ _ E e s' un (fun b o q => Heap.get?_push_of_some _ q) rfl) (.cons q0 (.cons rfl .nil)) rfl ⟨_, hn, rfl, rfl⟩
  · subst ex eH
    refine ⟨_, (bs cdv A out s2 _ E gds hr').ps, Z, startT N [t0, .tup ts'], S0, _, FrR.start (.cons (r0.le (le_new hp)) (.cons (.tupN ok hp rs) .nil)), ok.new hp, h, ⟨fun σ' S' sl' H' r' le' ok' _ => po _ S' _ H' r' ((le_new hp).trans le') ok' .non, po.le (le_new hp), fun _ _ _ _ z => z.elim, fun _ _ _ _ z => z.elim⟩, xo.le (le_new hp)⟩
end
section
variable {X : Cx} {E : XK} {k : Nat} {f C : Addr} {sp : SpT} {x : Str} {p pos : Pos} {e : Expr} {es : List Expr} {t : TRA}
theorem make_tS {pins : List (Addr × Obj)} {sl : L2.St} {H : Hp} {s : Shared} {Q : VK} {us : List Value} {vs : List V} {xs : List T} {Z : Addr → Prop} {S : Store} {R : T → Store → Prop} {RE : XT}
    (M : Mk X.K C f) (F : FnS X.prog X.w X.K X.mg X.base k f sp) (gds : X.A.guards = some []) (hr : Room (k + 1) X.A) (hx : Passes (L2N.CX X.prog X.w) X E) (inv : Inv X pins sl H s)
    (rv : Vals vs us) (ok : Ok X.K Z S H) (rp : Reps X.K Z S H vs xs)
    (want : ∀ u, S u = none → sp (.cell u :: xs) (S.put u (.ins C [])) (fun z S2 => z = .non ∧ ∃ gs, S2 u = some (.ins C gs) ∧ R (.ins C gs) (S2.drop u)) RE) (po : PO X.K Z S H R Q) (xo : XOk X.K Z S H RE E) :
    wpAny (model X.prog X.w) X.A (call (.ref C) us) (EP X pins sl Q) X.xe s := by
  have nx : H (s.heap.objs.size + 1) = none := inv.hok.fresh (Nat.le_succ _)
  have nd : H s.heap.objs.size = none := inv.hok.fresh (Nat.le_refl _)
  have ne : s.heap.objs.size + 1 ≠ s.heap.objs.size := Nat.succ_ne_self _
  have I2 := Inv.made (C := C) inv
  have ok1 : Ok X.K Z S (upd H s.heap.objs.size (.own (s.heap.objs.size + 1))) := ok.new nd
  have nx1 : upd H s.heap.objs.size (.own (s.heap.objs.size + 1)) (s.heap.objs.size + 1) = none := by rw [upd_ne ne]; exact nx
  have l2 : Le S (upd H s.heap.objs.size (.own (s.heap.objs.size + 1))) (S.put (s.heap.objs.size + 1) (.ins C [])) (upd (upd H s.heap.objs.size (.own (s.heap.objs.size + 1))) (s.heap.objs.size + 1) (.ins C s.heap.objs.size [])) := le_newc nx1
  have ok2 : Ok X.K Z (S.put (s.heap.objs.size + 1) (.ins C [])) (upd (upd H s.heap.objs.size (.own (s.heap.objs.size + 1))) (s.heap.objs.size + 1) (.ins C s.heap.objs.size [])) := ok1.put l2 (ok1.nz nx1) ⟨_, [], upd_same, .nil⟩
  have le : Le S H (S.put (s.heap.objs.size + 1) (.ins C [])) (upd (upd H s.heap.objs.size (.own (s.heap.objs.size + 1))) (s.heap.objs.size + 1) (.ins C s.heap.objs.size [])) := (le_new nd).trans l2
  have up : UpF X.K sp (.ref (s.heap.objs.size + 1) :: vs) (upd (upd H s.heap.objs.size (.own (s.heap.objs.size + 1))) (s.heap.objs.size + 1) (.ins C s.heap.objs.size [])) (fun v H2 => v = .non ∧ Q (.ref (s.heap.objs.size + 1)) H2) E := by
    refine ⟨Z, _, _, _, RE, cell_reps (rp.le le), ok2, want _ (ok.free nx), fun z S3 v H3 w l3 ok3 rep => ?_, xo.le le⟩
    obtain ⟨rfl, gs, hs, w⟩ := w
    cases rep
    exact ⟨rfl, po _ _ _ _ w ((le.trans l3).trans le_drop) ok3.drop (.frzI ok3 hs)⟩
  refine wpAny_call (make_map (f := f) inv.kIn M.makes M.init (beq_iff_eq.mp M.fn) (codeAny_mono (F.go _ X.stack _ _ (Value.ref (s.heap.objs.size + 1) :: us) _ _ E (by first | exact gds | simpa [Around.under] using gds) (hr.make C us []) (I2.env0.make C us []) (show Vals (V.ref (s.heap.objs.size + 1) :: vs) (Value.ref (s.heap.objs.size + 1) :: us) from .cons rfl rv) up) fun q s' hq =>
  match q, hq with
  | .error er, hq => hx pins sl _ _ er s' I2 hq
  | .ok (.ret u), hq => by
      obtain ⟨v, H', I3, rv, rfl, q3⟩ := I2.after hq
      exact ⟨rv, V.ref (s.heap.objs.size + 1), H', I3, rfl, q3⟩
  | .ok .next, hq => hq.elim
  | .ok .brk, hq => hq.elim
  | .ok .cont, hq => hq.elim))
theorem et_makeS (M : Mk X.K C f) (F : FnS X.prog X.w X.K X.mg X.base k f sp) (gds : X.A.guards = some []) (hr : Room (k + 1) X.A) (hg : Gl X x) (hm : X.mg x = some (.ref C)) (hx : Passes (L2N.CX X.prog X.w) X E)
    (ha : AT X E (e :: es) t) (hdb : (x == ("__debug__" : Str)) = false := by decide) (he : starEach (e :: es) X.env = (false, eval e X.env) :: starEach es X.env := by rfl) (hpl : (backTo pos (starEach es X.env)).any (·.1) = false := by rfl) :
    ET X E (.Call (.Name x p) (e :: es) [] pos) (rMake C sp [] t) := by
  refine ⟨⟨fun pins s sl H Q I h => ?_⟩⟩
  obtain ⟨Z, σ, S, R, RE, fr, ok, w, po, xo⟩ := h.ex
  refine wpAny_Call_Name_kw (ld_glob I hg hm ?_ hdb)
  refine PySem.W.callWith_K (h₀ := X.base) I.ok.mod.kin M.kp (thn (ha.pa.run pos pins s sl H (fun vs H1 => ∃ xs S1, (∀ u, S1 u = none → sp (.cell u :: (xs ++ [])) (S1.put u (.ins C [])) (fun z S2 => z = .non ∧ ∃ gs, S2 u = some (.ins C gs) ∧ R (.ins C gs) (S2.drop u)) RE) ∧ Le S H S1 H1 ∧ Ok X.K Z S1 H1 ∧ Reps X.K Z S1 H1 vs xs) I
    ⟨Z, σ, S, _, RE, fr, ok, w, fun xs S1 vs H1 k1 l1 o1 r1 => ⟨xs, S1, k1, l1, o1, r1⟩, xo⟩) fun us s1 hu => ?_) he hpl
  obtain ⟨vs, H1, I1, rv, xs, S1, k1, l1, o1, r1⟩ := hu
  refine ⟨I1.kIn, ?_⟩
  simp only [List.append_nil] at k1
  exact make_tS M F gds hr hx I1 rv o1 r1 k1 (po.le l1) (xo.le l1)
theorem et_makeS0 (M : Mk X.K C f) (F : FnS X.prog X.w X.K X.mg X.base k f sp) (gds : X.A.guards = some []) (hr : Room (k + 1) X.A) (hg : Gl X x) (hm : X.mg x = some (.ref C)) (hx : Passes (L2N.CX X.prog X.w) X E)
    (hdb : (x == ("__debug__" : Str)) = false := by decide) : ET X E (.Call (.Name x p) [] [] pos) (rMake C sp [] aNil) := by
  refine ⟨⟨fun pins s sl H Q I h => ?_⟩⟩
  obtain ⟨Z, σ, S, R, RE, fr, ok, w, po, xo⟩ := h.ex
  refine wpAny_Call_Name_kw (ld_glob I hg hm ?_ hdb)
  refine PySem.W.callWith_K0 I.kIn M.kp ?_
  exact make_tS (us := []) (vs := []) (xs := []) M F gds hr hx I .nil ok .nil (fun u hu => by have := w u hu; simpa using this) po xo
end
/-! ### int(bool), int(int) -/
def kInt1 : KA := fun xs S R _ => match xs with
  | [.int i] => R (.int i) S
  | [.bl b] => R (.int (if b then 1 else 0)) S
  | _ => False
theorem cv_int1 {K : PySem.W.Frag} {E : XK} : ConvA K E kInt1 (fun xs H Q => (∃ i, xs = [.int i] ∧ Q (.int i) H) ∨ ∃ k, xs = [.bl k] ∧ Q (.int (if k then 1 else 0)) H) := by
  intro Z xs S vs H R RE Q ok rs kk po xo
  unfold kInt1 at kk
  split at kk
  · cases rs with
    | cons r rr =>
      cases rr
      cases r
      exact .inl ⟨_, rfl, po _ _ _ _ kk .refl ok (.int _)⟩
  · cases rs with
    | cons r rr =>
      cases rr
      cases r
      exact .inr ⟨_, rfl, po _ _ _ _ kk .refl ok (.int _)⟩
  · exact kk.elim

/-! ### C(*xs) -/
theorem seq_rep {K : PySem.W.Frag} {Z : Addr → Prop} {S : Store} {H : Hp} {v : V} {t : T} {ts : List T} (r : Rep K Z S H v t) (h : seqOf t = some ts) : ∃ a vs, v = .ref a ∧ (SqT K H a vs ∨ SqL K H a vs) ∧ Reps K Z S H vs ts := by
  cases r <;> try (cases h; done)
  · cases h
    rename_i p vs h r
    exact ⟨p, vs, rfl, .inl h.sq, r⟩
  · cases h
    rename_i p vs h r
    exact ⟨p, vs, rfl, .inr h.sq, r⟩
  · cases h
    rename_i p vs h r
    exact ⟨p, vs, rfl, .inr h.sq, r⟩
section
variable {X : Cx} {E : XK} {k : Nat} {f C : Addr} {sp : SpT} {x : Str} {p p2 pos : Pos} {e a b : Expr} {ra rb : TR}
def rMakeStar (C : Addr) (sp : SpT) (ra : TR) : TR := fun σ S R RE => ra σ S (fun y S1 => ∃ ts, seqOf y = some ts ∧ ∀ u, S1 u = none → sp (.cell u :: ts) (S1.put u (.ins C [])) (fun z S2 => z = .non ∧ ∃ gs, S2 u = some (.ins C gs) ∧ R (.ins C gs) (S2.drop u)) RE) RE
theorem et_makeStar (M : Mk X.K C f) (F : FnS X.prog X.w X.K X.mg X.base k f sp) (gds : X.A.guards = some []) (hr : Room (k + 1) X.A) (hg : Gl X x) (hm : X.mg x = some (.ref C)) (hx : Passes (L2N.CX X.prog X.w) X E)
    (ha : ET X E e ra) (hdb : (x == ("__debug__" : Str)) = false := by decide) (hst : starEach [.Starred e p2] X.env = [(true, eval e X.env)] := by rfl) :
    ET X E (.Call (.Name x p) [.Starred e p2] [] pos) (rMakeStar C sp ra) := by
  refine ⟨⟨fun pins s sl H Q I h => ?_⟩⟩
  obtain ⟨Z, σ, S, R, RE, fr, ok, w, po, xo⟩ := h.ex
  refine wpAny_Call_Name_kw (ld_glob I hg hm ?_ hdb)
  refine PySem.W.callWith_S (h₀ := X.base) I.ok.mod.kin M.kp (thn (ha.pe.run pins s sl H (fun v H1 => ∃ y S1, (∃ ts, seqOf y = some ts ∧ ∀ u, S1 u = none → sp (.cell u :: ts) (S1.put u (.ins C [])) (fun z S2 => z = .non ∧ ∃ gs, S2 u = some (.ins C gs) ∧ R (.ins C gs) (S2.drop u)) RE) ∧ Le S H S1 H1 ∧ Ok X.K Z S1 H1 ∧ Rep X.K Z S1 H1 v y) I
    ⟨Z, σ, S, _, RE, fr, ok, w, fun y S1 v H1 k1 l1 o1 r1 => ⟨y, S1, k1, l1, o1, r1⟩, xo⟩) fun v s1 hu => ?_) hst
  obtain ⟨v1, H1, I1, ry, y, S1, ⟨ts, hs, k1⟩, l1, o1, r1⟩ := hu
  obtain ⟨q, vs, rfl, hxs, rs⟩ := seq_rep r1 hs
  obtain rfl : v = Value.ref q := ry
  exact StX.star_any I1 hxs fun us s2 I2 rv => ⟨I2.kIn, make_tS M F gds hr hx I2 rv o1 rs k1 (po.le l1) (xo.le l1)⟩
/-! ### t + u, empty ones too -/
def kAddT : KB := fun x y S R _ => ∃ a b, x = .tup a ∧ y = .tup b ∧ a.length + b.length ≤ sizeLine ∧ R (.tup (a ++ b)) S
theorem cv_addT : Conv X.K E kAddT (rCatA X.K) := by
  intro Z x y S v u H R RE Q ok rx ry ⟨a, b, e1, e2, hl, kk⟩ po xo
  subst e1 e2
  cases rx with
  | tup h1 r1 =>
    cases ry with
    | tup h2 r2 =>
      refine ⟨_, _, _, _, rfl, rfl, h1.sq, h2.sq, by rw [r1.length, r2.length]; exact hl, fun e => ?_, fun n e => ?_, fun n1 n2 p hp => ?_⟩
      · subst e; cases r1
        exact po _ _ _ _ kk .refl ok (.tup h2 r2)
      · subst e; cases r2
        rw [List.append_nil] at kk
        exact po _ _ _ _ kk .refl ok (.tup h1 r1)
      · exact po _ _ _ _ kk (le_new hp) (ok.new hp) (.tupN ok hp (r1.append r2))
/-! ### data in a list of data -/
def kInD (ng : Bool) : KB := fun x y S R _ => ∃ d ds, x.dat = some d ∧ y.dat = some (.list ds) ∧ SeqAt.shaped d = true ∧ SeqAt.shaped (.list ds) = true ∧ R (.bl (ng ^^ ds.any fun z => PyData.eqv z d)) S
theorem cv_inD : Conv X.K E (kInD false) (rInD X.K) := by
  intro Z x y S v u H R RE Q ok rx ry ⟨d, ds, e1, e2, s1, s2, kk⟩ po xo
  rw [Bool.false_xor] at kk
  exact ⟨d, ds, rx.dp e1, ry.dp e2, s1, s2, po _ _ _ _ kk .refl ok (.bl _)⟩
theorem cv_ninD : Conv X.K E (kInD true) (rNotInD X.K) := by
  intro Z x y S v u H R RE Q ok rx ry ⟨d, ds, e1, e2, s1, s2, kk⟩ po xo
  rw [Bool.true_xor] at kk
  exact ⟨d, ds, rx.dp e1, ry.dp e2, s1, s2, po _ _ _ _ kk .refl ok (.bl _)⟩
end
/-! ### x in (a, b, ..), all of a family of classes with own __eq__, whose fields are flat -/
def flatF (gs : List (Str × T)) : Bool := gs.all fun p => flatT p.2
section
variable {K : PySem.W.Frag} {Z : Addr → Prop} {S : Store} {H : Hp}
theorem flat_inj {v : V} {t u : T} (r : Rep K Z S H v t) (q : Rep K Z S H v u) (ft : flatT t = true) (fu : flatT u = true) : t = u := by
  cases r <;> first | (cases ft; done) | (cases q <;> first | rfl | (cases fu; done))
theorem repF_inj : ∀ {gs hs : List (Str × T)} {fs : List (Str × V)}, RepF K Z S H fs gs → RepF K Z S H fs hs → flatF gs = true → flatF hs = true → gs = hs
  | [], _, _, .nil, q, _, _ => by cases q; rfl
  | _ :: _, _, _, .cons h r, q, fg, fh => by
    cases q with
    | cons h2 r2 =>
      obtain ⟨a1, a2⟩ := Bool.and_eq_true_iff.mp (show (flatT _ && flatF _) = true from fg)
      obtain ⟨b1, b2⟩ := Bool.and_eq_true_iff.mp (show (flatT _ && flatF _) = true from fh)
      rw [flat_inj h h2 a1 b1, repF_inj r r2 a2 b2]
end
def inFamL (D : Addr → SpT → Prop) (l : List Addr) (x : T) (R : Bool → Store → Prop) (RE : XT) : List T → Store → Prop
  | [], S => R false S
  | y :: ys, S => ∃ C gs sp, y = .ins C gs ∧ flatF gs = true ∧ (y = x → R true S) ∧ D C sp ∧ C ∈ l ∧ sp [y, x] S (fun z S' => ∃ c, z = .bl c ∧ if c = true then R true S' else inFamL D l x R RE ys S') RE
def kInFam (D : Addr → SpT → Prop) (l : List Addr) : KB := fun x y S R RE => ∃ ls C' gx, y = .tup ls ∧ x = .ins C' gx ∧ flatF gx = true ∧ C' ∈ l ∧ inFamL D l x (fun b S' => R (.bl b) S') RE ls S
section
variable {X : Cx} {E : XK} {D : Addr → SpT → Prop} {l : List Addr}
theorem op_inFam (K : PySem.W.Frag) (hK : X.K = K) (O : EqD X D) (nf : nfF K l = true) (gds : X.A.guards = some []) (hx : Passes (L2N.CX X.prog X.w) X E) : OpR X (compareOp .In) (RK X.K E (kInFam D l)) := by
  subst hK
  intro pins s sl H v u w z Q inv rv ru want
  obtain ⟨Z, x, y, S, R, RE, ok, rx, ry, ⟨ls, C', gx, rfl, rfl, fx, hC', kk⟩, po, xo⟩ := want
  obtain ⟨xa, dx, fs, rfl, hH, _⟩ := ins_rep ok rx (rfl : insOf (.ins C' gx) S = some (C', gx))
  obtain rfl : w = Value.ref xa := rv
  cases ry with
  | @tup p vs ts h1 r1 =>
    obtain rfl : z = Value.ref p := ru
    obtain ⟨its, rv1, pl, _⟩ := inv.tuple h1.sq
    refine wpAny_bind (InOwn.has (items := its.toArray) pl (fun rest s' => ∃ H' S' vs' ts', Inv X pins sl H' s' ∧ Ok X.K Z S' H' ∧ Le S H S' H' ∧ Vals vs' rest ∧ Reps X.K Z S' H' vs' ts' ∧ Rep X.K Z S' H' (.ref xa) (.ins C' gx) ∧ inFamL D l (.ins C' gx) (fun b S' => R (.bl b) S') RE ts' S')
      ?_ ?_ ⟨H, S, vs, ls, inv, ok, .refl, by simpa using rv1, r1, rx, kk⟩)
    · rintro yv rest s' ⟨H', S', vs', ts', inv', ok', le', rv', rs', rx', kk'⟩
      cases rv' with
      | @cons v1 u1 vs1 us1 e1 e2 =>
        cases rs' with
        | @cons _ y1 _ ts1 ry1 rs1 =>
          obtain ⟨C, gs, sp, rfl, fg, kT, hd, hC, kS⟩ := kk'
          obtain ⟨b, dy, fy, rfl, hb1, rf1⟩ := ins_rep ok' ry1 (rfl : insOf (.ins C gs) S' = some (C, gs))
          obtain rfl : yv = Value.ref b := e1
          obtain ⟨a2, dx2, fx2, ea, hHx, rf2⟩ := ins_rep ok' rx' (rfl : insOf (.ins C' gx) S' = some (C', gx))
          cases ea
          obtain ⟨k, f, fd, ps, o, F, hr, hb⟩ := O.at_ C sp hd
          have fin : ∀ H2 S2 s2, Inv X pins sl H2 s2 → Ok X.K Z S2 H2 → Le S H S2 H2 → R (.bl true) S2 → EP X pins sl Q (.bool true) s2 := fun H2 S2 s2 I2 o2 l2 k2 => ⟨.bl true, H2, I2, rfl, po _ _ _ _ k2 l2 o2 (.bl true)⟩
          by_cases same : b = xa
          · subst same
            rw [hb1] at hHx
            cases hHx
            have eg : gs = gx := repF_inj rf1 rf2 fg fx
            have e : ((Value.ref b) == (Value.ref b)) = true := by simp
            unfold eqBool
            refine wpAny_holding ?_
            rw [if_pos e]
            refine wpAny_bind (wpAny_rule ?_)
            refine wpAny_pure ?_
            rw [if_pos rfl]
            exact wpAny_pure (fin H' S' _ inv' ok' le' (kT (by rw [eg])))
          · obtain ⟨mA, OA, _⟩ := ins_get inv'.hok hb1
            obtain ⟨od, J, _⟩ := OA.look
            obtain ⟨mB, OB, _⟩ := ins_get inv'.hok hHx
            obtain ⟨od2, J2, _⟩ := OB.look
            obtain ⟨m, fr⟩ := inv'.fr
            have up : UpF X.K sp [.ref b, .ref xa] H' (fun v H2 => ∃ c, v = .bl c ∧ ∃ S2, Le S' H' S2 H2 ∧ Ok X.K Z S2 H2 ∧ if c = true then R (.bl true) S2 else inFamL D l (.ins C' gx) (fun b S' => R (.bl b) S') RE ts1 S2) E := ⟨Z, [.ins C gs, .ins C' gx], S', _, RE, .cons ry1 (.cons rx' .nil), ok', kS, fun t S2 v H2 kt le2 ok2 rep => by
              obtain ⟨c, rfl, kt⟩ := kt
              cases rep
              exact ⟨c, rfl, S2, le2, ok2, kt⟩, xo.le le'⟩
            have vv : Vals [V.ref b, V.ref xa] [Value.ref b, Value.ref xa] := .cons rfl (.cons rfl .nil)
            have hl : ([Value.ref b, Value.ref xa] ++ []).length = ps.length := vv.length.symm.trans (F.fn.len _ _ _ _ up)
            refine GQ.eqBool_refG same ?_
            refine PySem.W.cmp_K (op := .Eq) (tb := .ref C') (by have := hr.in1.un; omega) fr inv'.ok.mod.kin J J2.type (nfF.first nf hC (.inl ⟨C', rfl, hC'⟩)) o.eq o.fn ?_
            refine wpAny_call (codeAny_mono (F.fn.go X.A.in1 X.stack s' H' ⟨[.ref b, .ref xa], []⟩ ([Value.ref b, Value.ref xa] ++ []) [V.ref b, V.ref xa] _ E (by first | exact gds | simpa [Around.in1] using gds) hr.in1 inv'.env0.in1 (hb s' [.ref b, .ref xa] inv'.kIn hl) (by rw [List.append_nil]; exact vv) up) fun r s2 got => ?_)
            cases r with
            | error er => exact hx pins sl H' s' er s2 inv' got
            | ok fl =>
              cases fl with
              | ret t =>
                obtain ⟨v, H2, I3, rz, c, rfl, S2, l2, o2, q⟩ := inv'.after got
                cases rz
                refine ⟨c, rfl, ?_⟩
                cases c with
                | true => exact wpAny_pure (fin H2 S2 _ I3 o2 (le'.trans l2) q)
                | false => exact ⟨H2, S2, vs1, ts1, I3, o2, le'.trans l2, e2, rs1.le l2, rx'.le l2, q⟩
              | next => exact got.elim
              | brk => exact got.elim
              | cont => exact got.elim
    · rintro s' ⟨H', S', vs', ts', inv', ok', le', rv', rs', rx', kk'⟩
      cases rv'
      cases rs'
      exact wpAny_pure ⟨.bl false, H', inv', rfl, po _ _ _ _ kk' le' ok' (.bl false)⟩
end
/-! ### o[i] by the class's own __getitem__ -/
structure GetO (K : PySem.W.Frag) (C f : Addr) : Prop where
  at_ : PySem.W.findIn K (.ref C) "__getitem__" = some (some (.ref f))
  fn : PySem.W.isFn K (.ref f) = true
  fi : PySem.W.fnIn K f = true
def kIxOwn (C : Addr) (sp : SpT) : KB := fun x y S R RE => (∃ gs, insOf x S = some (C, gs)) ∧ sp [x, y] S R RE
section
variable {X : Cx} {E : XK} {C f : Addr} {fd : FuncData} {k : Nat} {ps : List Str} {sp : SpT} {a b : Expr} {pos : Pos} {ra rb : TR}
theorem pe_ixO {ta tb : TE} (O : GetO X.K C f) (F : FnT X.prog X.w X.K X.mg X.base k f fd ps sp) (gds : X.A.guards = some []) (hr : Room (k + 1) X.A) (hb : Binds X.K fd ps []) (hx : Passes (L2N.CX X.prog X.w) X E) (ha : PE X a ta) (hbb : PE X b tb)
    (hsl : ∀ o i, subscripted b true o i = runValue (.builtin "lifetime.subscript" ⟨[o, i], []⟩) := by intro _ _; rfl) : PE X (.Subscript a b pos) (tOp (RK X.K E (kIxOwn C sp)) ta tb) := by
  refine ⟨fun pins s σ H Q I h => ?_⟩
  refine Subscript_ (L2.binT ha hbb I h fun v u s2 vx vy H2 inv rv ru want => ?_)
  obtain ⟨Z, x, y, S, R, RE, ok, rx, ry, ⟨⟨gs, hi⟩, kk⟩, po, xo⟩ := want
  obtain ⟨q, dx, fs, rfl, hH, _⟩ := ins_rep ok rx hi
  obtain rfl : v = Value.ref q := rv
  obtain ⟨mA, OA, _⟩ := ins_get inv.hok hH
  obtain ⟨od, J, _⟩ := OA.look
  obtain ⟨m, fr⟩ := inv.fr
  have up : UpF X.K sp [.ref q, vy] H2 Q E := ⟨Z, [x, y], S, R, RE, .cons rx (.cons ry .nil), ok, kk, po, xo⟩
  have vv : Vals [V.ref q, vy] [Value.ref q, u] := .cons rfl (.cons ru .nil)
  have hl : ([Value.ref q, u] ++ []).length = ps.length := vv.length.symm.trans (F.fn.len _ _ _ _ up)
  refine PySem.W.sub_K fr inv.ok.mod.kin J O.at_ O.fi O.fn ?_ (hsl _ _)
  refine wpAny_call (codeAny_mono (F.fn.go X.A.in1 X.stack s2 H2 ⟨[.ref q, u], []⟩ ([Value.ref q, u] ++ []) [V.ref q, vy] _ E (by first | exact gds | simpa [Around.in1] using gds) hr.in1 inv.env0.in1 (hb s2 [.ref q, u] inv.kIn hl) (by rw [List.append_nil]; exact vv) up) fun r s' got => ?_)
  cases r with
  | error er => exact hx pins σ H2 s2 er s' inv got
  | ok fl =>
    cases fl with
    | ret t => exact inv.after got
    | next => exact got.elim
    | brk => exact got.elim
    | cont => exact got.elim
theorem et_ixOwn (O : GetO X.K C f) (F : FnT X.prog X.w X.K X.mg X.base k f fd ps sp) (gds : X.A.guards = some []) (hr : Room (k + 1) X.A) (hb : Binds X.K fd ps []) (hx : Passes (L2N.CX X.prog X.w) X E) (ha : ET X E a ra) (hbb : ET X E b rb)
    (hsl : ∀ o i, subscripted b true o i = runValue (.builtin "lifetime.subscript" ⟨[o, i], []⟩) := by intro _ _; rfl) : ET X E (.Subscript a b pos) (rBin (kIxOwn C sp) ra rb) :=
  ⟨pe_weak (pe_ixO O F gds hr hb hx ha.pe hbb.pe hsl) fun sl H Q h => UpE.two h fun Z x y S2 v u H2 R RE ok rx ry kk po xo => ⟨Z, x, y, S2, R, RE, ok, rx, ry, kk, po, xo⟩⟩
end
/-! ### C.f(..), f a static def of the class -/
structure StF (K : PySem.W.Frag) (C f : Addr) (m : Str) : Prop where
  ex : ∃ q rest, PySem.W.findCls K (.ref C) (.type "type") m = some (.get (.builtin "staticmethod.__get__") (.ref q) .none (.ref C)) ∧ PySem.W.recIn K q "staticmethod" = some (.ref f :: rest)
section
variable {X : Cx} {E : XK} {k : Nat} {f C : Addr} {fd : FuncData} {ps : List Str} {sp : SpT} {dts : List T} {x m : Str} {p pos apos : Pos} {e : Expr} {es : List Expr} {t : TRA}
theorem et_stfn {pl : Sem Bool} (r : ClX.CRead X.K C (.type "type")) (hv : StF X.K C f m) (hk : PySem.W.keepIn X.K (.ref f) = true) (F : FnT X.prog X.w X.K X.mg X.base k f fd ps sp) (cd : CallD X.K fd ps dts) (hr : Room k X.A) (gds : X.A.guards = some []) (hx : Passes (L2N.CX X.prog X.w) X E)
    (hg : Gl X x) (hm : X.mg x = some (.ref C)) (ha : AT X E (e :: es) t) (hd : (x == ("__debug__" : Str)) = false := by decide)
    (hst : starEach (e :: es) X.env = (false, eval e X.env) :: starEach es X.env := by rfl) (hpl : (backTo pos (starEach es X.env)).any (·.1) = false := by rfl)
    (ht : eval (.Call (.Attribute (.Name x p) m apos) (e :: es) [] pos) X.env = ((eval (.Name x p) X.env) >>= fun ov => standAt apos.atName >>= fun _ => holding [ov] (getMethod ov m pl) >>= fun g => callWith pos g.1 g.2 (backTo pos (starEach (e :: es) X.env)) (backToKw pos (keywordEach [] X.env))) := by rfl) :
    ET X E (.Call (.Attribute (.Name x p) m apos) (e :: es) [] pos) (rClsFn sp dts t) := by
  refine ⟨⟨fun pins s sl H Q I h => ?_⟩⟩
  obtain ⟨Z, σ, S, R, RE, fr, ok, w, po, xo⟩ := h.ex
  obtain ⟨ds, dvs, hb, hd2, hdt⟩ := cd.ex
  obtain ⟨q, rest, h1, h2⟩ := hv.ex
  refine PySem.W.methodCall_KW (pl := pl) (thn ((pe_glob (pos := p) (v := .ref C) hg hm rfl hd).run pins s sl H (fun v H1 => v = .ref C ∧ H1 = H) I ⟨rfl, rfl⟩) fun u s1 hu => ?_) ht
  obtain ⟨v, H1, I1, rv, rfl, rfl⟩ := hu
  obtain rfl : u = Value.ref C := rv
  refine PySem.W.method_cls I1.kIn r.ga (PySem.W.cls_bind I1.kIn r.rd h1 (wpAny_call (PySem.W.sm_get (s := { s1 with toks := s1.toks + 1 }) I1.kIn h2 (PySem.W.handed_on (handed_of (v := .ref f) rfl) ?_))))
  have I2 := I1.tok (s1.toks + 1)
  refine PySem.W.callWith_K (first := []) (h₀ := X.base) I.ok.mod.kin hk (thn (ha.pa.run pos pins _ sl _ (fun vs H2 => ∃ xs S2, _ ∧ Le S H1 S2 H2 ∧ Ok X.K Z S2 H2 ∧ Reps X.K Z S2 H2 vs xs) I2 ⟨Z, σ, S, _, RE, fr, ok, w, fun xs S2 vs H2 k2 l2 o2 r2 => ⟨xs, S2, k2, l2, o2, r2⟩, xo⟩) fun us s2 hu => ?_) hst hpl
  obtain ⟨vs, H2, I3, rvs, xs, S2, k2, l2, o2, r2⟩ := hu
  refine ⟨I3.kIn, ?_⟩
  have up : UpF X.K sp (vs ++ dvs) H2 Q E := ⟨Z, _, S2, R, RE, r2.append (hdt _ _ _), o2, k2, po.le l2, xo.le l2⟩
  have vv : Vals (vs ++ dvs) (us ++ ds) := rvs.append hd2
  exact goT F gds hr hx I3 (hb s2 us I3.kIn (vv.length.symm.trans (F.fn.len _ _ _ _ up))) vv up
end

/-! t * 1 -/
namespace Mul1
open PySem PySem.Spec PyProof.Rows
set_option maxHeartbeats 4000000 in
theorem tuple_mul1 (l : Addr) (items : Array Value) (n : Nat) (dd : Option Addr) (sl : Array (Option Value)) (u : Tok) :
    Meets (Builtin.«tuple.__mul__» ⟨[.ref l, .int 1 u], []⟩) (fun _ R s => s.heap.get? l = some { cls := .type "tuple", dict := dd, data := .seq items n, slots := sl } ∧ R (.ok (.ret (Value.ref l))) s) :=
  .of_wp fun prog w A R s h => by
    obtain ⟨hp, g, d, tk, os⟩ := s
    obtain ⟨hl, h⟩ := h
    have f1 := AutoSeq1.idx_int
    wp_walk using PySem.AutoSeq1.wpAny_loadPart' hl
    exact ⟨_, rfl, h⟩
def rRep1 (K : PySem.W.Frag) : L2.R2 := fun x y H Q => ∃ l xs, x = .ref l ∧ y = .int 1 ∧ L2.SqT K H l xs ∧ Q (.ref l) H
theorem op_rep1 {X : L2.Cx} : L2.OpR X (binaryOp .Mult) (rRep1 X.K) := by
  intro pins s σ H x y v u Q I rx ry h
  obtain ⟨l, xs, rfl, rfl, hT, q⟩ := h
  cases rx
  obtain ⟨t, rfl⟩ := ry
  obtain ⟨its, r, ⟨⟨cls, dd, data, sl⟩, ho, hc, n, hd⟩, hs⟩ := I.tuple hT
  simp only at hc hd
  subst hc hd
  exact wpAny_binaryOp_repeat_ref (T := "tuple") (U := "int") (by decide) ⟨_, ho, rfl⟩ (fun s' => typeIs_int s' 1 t) L2.noFill_tuple_mul F.fills_int_mul F.slot_int_rmul L2.repeat_tuple F.slot_int_index.lookup
    (call_meets F.slot_int_rmul (typeIs_int s 1 t) F.entry_int_rmul (F.args_int_rmul_2 _ _) (L2.int_rmul_tuple 1 t l its.toArray n dd sl)
      ⟨ho, rfl, ⟨_, ho, rfl⟩, call_meets F.slot_tuple_mul ⟨_, ho, rfl⟩ F.entry_tuple_mul (F.args_tuple_mul_2 _ _) (tuple_mul1 l its.toArray n dd sl t) ⟨ho, .ref l, H, I, rfl, q⟩⟩)
end Mul1
/-! ### len(o) by the class's own __len__ -/
def RLenOwn (K : PySem.W.Frag) (C : Addr) (sp : SpT) : List V → Hp → VK → Prop := fun vs H Q => ∃ a dx fs, vs = [.ref a] ∧ H a = some (.ins C dx fs) ∧ UpF K sp [.ref a] H (fun v H' => ∃ i, v = .int i ∧ 0 ≤ i ∧ i < 2 ^ 63 ∧ Q (.int i) H') EF
def kLenOwn (C : Addr) (sp : SpT) : KA := fun xs S R _ => ∃ x gs, xs = [x] ∧ insOf x S = some (C, gs) ∧ sp [x] S (fun z S' => ∃ i, z = .int i ∧ 0 ≤ i ∧ i < 2 ^ 63 ∧ R z S') XF
theorem cv_lenOwn {K : PySem.W.Frag} {E : XK} {C : Addr} {sp : SpT} : ConvA K E (kLenOwn C sp) (RLenOwn K C sp) := by
  intro Z xs S vs H R RE Q ok rs ⟨x, gs, e, hi, k⟩ po xo
  subst e
  cases rs with
  | cons r rr =>
    cases rr
    obtain ⟨a, dx, fs, rfl, hH, _⟩ := ins_rep ok r hi
    refine ⟨a, dx, fs, rfl, hH, Z, [x], S, _, XF, .cons r .nil, ok, k, fun z S' v H' kz le ok' rep => ?_, .f⟩
    obtain ⟨i, rfl, i0, i1, kz⟩ := kz
    cases rep
    exact ⟨i, rfl, i0, i1, po _ _ _ _ kz le ok' (.int _)⟩
section
variable {X : Cx} {E : XK} {C f : Addr} {fd : FuncData} {k : Nat} {ps : List Str} {sp : SpT}
theorem lenOwnT (O : OwnDef X.K C "__len__" f) (F : FnT X.prog X.w X.K X.mg X.base k f fd ps sp) (gds : X.A.guards = some []) (hr : Room (k + 1) X.A) (hb : Binds X.K fd ps []) : CallR X (.builtin "len") (RLenOwn X.K C sp) := by
  intro pins s sl H xs us Q inv vals want
  obtain ⟨x, dx, fs, rfl, hx, h⟩ := want
  obtain ⟨u, rfl, ru⟩ := vals1 vals
  obtain rfl : u = Value.ref x := ru
  obtain ⟨mA, OA, _⟩ := ins_get inv.hok hx
  obtain ⟨od, J, _⟩ := OA.look
  obtain ⟨m, fr⟩ := inv.fr
  have hl : ([Value.ref x] ++ []).length = ps.length := by
    rw [← F.fn.len _ _ _ _ h]
    rfl
  refine PySem.W.len_K fr inv.ok.mod.kin J O.at_ O.fn ?_
  refine wpAny_call (codeAny_mono (F.fn.go X.A.in1 X.stack s H ⟨[.ref x], []⟩ ([Value.ref x] ++ []) [.ref x] _ _ (by first | exact gds | simpa [Around.in1] using gds) hr.in1 inv.env0.in1 (hb s [.ref x] inv.kIn hl) (.cons rfl .nil) h) fun r s' hq => ?_)
  cases r with
  | error e => exact (passN (X := X.nox) pins sl H s e s' (inv.wish _) hq).elim
  | ok fl =>
    cases fl with
    | ret u =>
      obtain ⟨v, H', I3, rv, ⟨i, ei, i0, i1, q⟩⟩ := inv.after hq
      subst ei
      obtain ⟨t, rfl⟩ := (show ∃ t, u = Value.int i t from rv)
      exact ⟨⟨i0, i1⟩, .int i, H', I3.tok (s'.toks + 1), ⟨_, rfl⟩, q⟩
    | next => exact False.elim hq
    | brk => exact False.elim hq
    | cont => exact False.elim hq
/-! ### sep.join(texts) -/
def rJoin (ra rb : TR) : TR := fun σ S R RE => ra σ S (fun x S1 => ∃ a, x = .str a ∧ rb σ S1 (fun y S2 => ∃ ys : List Str, seqOf y = some (ys.map T.str) ∧ (ys.map (·.length)).sum + ys.length * a.length ≤ 16777216 ∧ R (.str (Txt.join a ys)) S2) RE) RE
theorem strs_of {K : PySem.W.Frag} {Z : Addr → Prop} {S : Store} {H : Hp} : ∀ {ys : List Str} {vs : List V}, Reps K Z S H vs (ys.map T.str) → vs = ys.map V.str
  | [], _, .nil => rfl
  | _ :: _, _, .cons h r => by cases h; rw [strs_of r]; rfl
theorem et_join {o e : Expr} {apos pos : Pos} {ra rb : TR} (ho : ET X E o ra) (he : ET X E e rb) (hs : starEach [e] X.env = [(false, eval e X.env)] := by rfl) (hbase : attributeBase o "join" X.env (eval o X.env) = eval o X.env := by rfl) (hline : (apos.endLine == pos.line) = true := by rfl) :
    ET X E (.Call (.Attribute o "join" apos) [e] [] pos) (rJoin ra rb) :=
  ⟨pe_weak (pe_join ho.pe he.pe hs hbase hline) fun sl H Q ⟨⟨Z, σ, S, R, RE, fr, ok, w, po, xo⟩⟩ => by
    refine ⟨Z, σ, S, _, RE, fr, ok, w, fun x S1 v H1 k le ok1 rep => ?_, xo⟩
    obtain ⟨a, rfl, k⟩ := k
    cases rep
    refine ⟨⟨_, rfl⟩, Z, σ, S1, _, RE, fr.le le, ok1, k, fun y S2 u H2 k2 le2 ok2 rep2 => ?_, xo.le le⟩
    obtain ⟨ys, hs, hz, k2⟩ := k2
    obtain ⟨p, vs, rfl, hq, rs⟩ := seq_rep rep2 hs
    rw [strs_of rs] at hq
    exact ⟨a, p, ys, rfl, rfl, hq.symm, hz, po _ _ _ _ k2 (le.trans le2) ok2 (.str _)⟩⟩
/-! ### t * k, t not empty, k > 0 -/
def kMulT : KB := fun x y S R _ => ∃ a k, x = .tup a ∧ y = .int k ∧ a ≠ [] ∧ 1 ≤ k ∧ k ≤ 1000 ∧ a.length ≤ 1000 ∧ R (.tup (List.replicate k.toNat a).flatten) S
theorem op_mulT : OpR X (binaryOp .Mult) (fun x y H Q => Mul1.rRep1 X.K x y H Q ∨ rRepT X.K x y H Q) := Mul1.op_rep1.or op_repT
theorem cv_mulT : Conv X.K E kMulT (fun x y H Q => Mul1.rRep1 X.K x y H Q ∨ rRepT X.K x y H Q) := by
  intro Z x y S v u H R RE Q ok rx ry ⟨a, k, e1, e2, ne, k1, k2, hl, kk⟩ po xo
  subst e1 e2
  cases ry
  cases rx with
  | tup h1 r1 =>
    by_cases e : k = 1
    · subst e
      have e : (List.replicate (Int.toNat 1) a).flatten = a := by simp
      rw [e] at kk
      exact .inl ⟨_, _, rfl, rfl, h1.sq, po _ _ _ _ kk .refl ok (.tup h1 r1)⟩
    · refine .inr ⟨_, _, _, rfl, rfl, h1.sq, fun e => ne ?_, by omega, k2, by rw [r1.length]; exact hl, fun p hp => po _ _ _ _ kk (le_new hp) (ok.new hp) (.tupN ok hp (r1.rep _))⟩
      subst e
      cases r1
      rfl
end
/-! ### [.. for a, b in ..] -/
theorem lc_turnsM {K : PySem.W.Frag} {Z : Addr → Prop} {S1 : Store} {H1 : Hp} {J : It} {ts : List T} {sl : L2.St} {σ : Fm} {g : TG} {vs : List Nat} {fr : T → Fm} {tt : TRB} {re : TR} {Q : VK} {R : List T → Store → Prop}
    (ok1 : Ok K Z S1 H1) (fr1 : FrR K Z S1 H1 sl σ) (src : SrcOk K Z S1 H1 J ts) (k : rComp fr tt re ts [] S1 R)
    (hg : ∀ Z' S H x t (Q' : L2.St → Hp → Prop), t ∈ ts → FrR K Z' S H sl σ → Rep K Z' S H x t → (∀ sl2, FrR K Z' S H sl2 (fr t) → wipe sl2 vs = wipe sl vs → Q' sl2 H) → g x (wipe sl vs) H Q')
    (po : ∀ ys S' v H', R ys S' → Le S1 H1 S' H' → Ok K Z S' H' → Rep K Z S' H' v (.lst ys) → Q v H') :
    ∀ D, H1 D = none → ∃ W : Nat → Nat → Hp → Prop, (∃ m, W 0 m (upd H1 D (.lst []))) ∧ ∀ i m H, W i m H →
  (J.stop i H ∧ Q (.ref D) H) ∨ (J.go i H ∧ ∃ Nx : Hp → Prop, (∀ H', Nx H' → ∃ m', m' < m ∧ W (i + 1) m' H') ∧ ∀ x H', J.yld i H x H' → g x (wipe sl vs) H' fun σ2 H2 => wipe σ2 vs = wipe sl vs ∧ UpB K EF tt σ2 H2 fun b H3 =>
    if b = true then UpE K EF re σ2 H3 fun y H4 => ∃ acc, H4 D = some (.lst acc) ∧ acc.length < sizeLine ∧ Nx (upd H4 D (.lst (acc ++ [y]))) else Nx H3) := by
  intro D hD
  have hz := hid_a (Z := Z) hD
  -- what holds at each turn
  let In : Nat → Hp → Prop := fun i H' => ∃ S' acc accV, Ok K (hideA Z D) S' H' ∧ FrR K (hideA Z D) S' H' sl σ ∧ Le S1 H1 S' H' ∧ H' D = some (.lst accV) ∧ Reps K (hideA Z D) S' H' accV acc ∧ rComp fr tt re (ts.drop i) acc S' R
  refine ⟨fun i m H' => m = ts.length - i ∧ i ≤ ts.length ∧ In i H', ⟨_, rfl, Nat.zero_le _, S1, [], [], ok1.hide hD, (fr1.hide hz).le (le_new hD), le_new hD, upd_same, .nil, k⟩, ?_⟩
  rintro i m H' ⟨rfl, hi, S', acc, accV, ok', fr', le', hd, rs, k'⟩
  obtain ⟨go, stop⟩ := src _ S' H' hz le' ok'
  by_cases hlt : i < ts.length
  · refine .inr ?_
    obtain ⟨g1, g2⟩ := go i ts[i] (List.getElem?_eq_getElem hlt)
    rw [List.drop_eq_getElem_cons hlt] at k'
    refine ⟨g1, In (i + 1), fun H2 h2 => ⟨_, by omega, rfl, hlt, h2⟩, fun x H2 y => ?_⟩
    obtain ⟨l2, o2, rep⟩ := g2 x H2 y
    refine hg _ S' H2 x ts[i] _ (List.getElem_mem hlt) (fr'.le l2) rep fun sl2 f2 we => ⟨we, ?_⟩
    have hd2 := (l2 D _ hd (ok'.hid D (.inr rfl)).1).1
    refine ⟨_, fr ts[i], S', _, XF, f2, o2, k', fun b S3 H3 k3 l3 o3 => ?_, .f⟩
    have hd3 := (l3 D _ hd2 (o2.hid D (.inr rfl)).1).1
    cases b with
    | true =>
      refine ⟨_, fr ts[i], S3, _, XF, f2.le l3, o3, k3, fun y S4 vy H4 k4 l4 o4 ry => ?_, .f⟩
      obtain ⟨z, k4⟩ := k4
      have hd4 := (l4 D _ hd3 (o3.hid D (.inr rfl)).1).1
      have ll := ((l2.trans l3).trans l4)
      have lz : LeZ (hideA Z D) S4 H4 S4 (upd H4 D (.lst (accV ++ [vy]))) := lz_hid
      refine ⟨accV, hd4, by rw [rs.length]; exact z, S4, _, _, o4.hidSet, ((fr'.le ll).lz lz), fun a o h n => ?_, upd_same, ((rs.le ll).append (.cons ry .nil)).lz lz, k4⟩
      have := (le'.trans ll) a o h n
      rw [upd_ne (ne_of_none h hD)]
      exact this
    | false => exact ⟨S3, acc, accV, o3, fr'.le (l2.trans l3), (le'.trans l2).trans l3, hd3, rs.le (l2.trans l3), k3⟩
  · have e : i = ts.length := by omega
    subst e
    rw [List.drop_length] at k'
    refine .inl ⟨stop _ (Nat.le_refl _), po acc S' _ H' k' le' ok'.show ?_⟩
    exact .lst ⟨hd, (ok'.hid D (.inr rfl)).1, fun z => by
      obtain ⟨_, o, e⟩ := ok1.hid D z
      rw [hD] at e; cases e⟩ rs.show
def prF (σ : Fm) (i j : Nat) : T → Fm
  | .tup [a, b] => (σ.set i (some a)).set j (some b)
  | _ => σ
def rLcP (ri : TRI) (i j : Nat) (tt : TRB) (re : TR) : TR := fun σ S R RE => ri σ S (fun ts S1 => (∀ t ∈ ts, ∃ a b, t = .tup [a, b]) ∧ rComp (prF σ i j) tt re ts [] S1 (fun ys S2 => R (.lst ys) S2)) RE
def gPair (K : PySem.W.Frag) (i j : Nat) : TG := gTup K 2 (gCons (gName i) (gCons (gName j) gNil))
theorem set3 {l : L2.St} {i j : Nat} (ne : i ≠ j) (va vb : Option V) : ((((l.set j none).set i none).set i va).set j vb) = (l.set i va).set j vb := by
  rw [List.set_set, List.set_comm _ _ (Ne.symm ne), List.set_set]
theorem et_lcP {X : Cx} {E : XK} {elt tg iter : Expr} {ifs : List Expr} {scope : Scope} {x y : Str} {i j : Nat} {ri : TRI} {tt : TRB} {re : TR} {pos : Pos} (ne : i ≠ j) (hc : X.calm = true) (hN : X.N.Nodup) (hi : IT X E tg iter ri) (ok : BlkOk X.N X.env.scope scope [(x, i), (y, j)])
    (hg : ∀ (s : Shared) (H : Hp) (C : Addr) (cl : List (Str × Addr)) (fp : List Addr), PG (X.blk s H scope (compEnvC scope cl C X.env) fp) tg (gPair X.K i j)) (ht : ∀ (s : Shared) (H : Hp) (C : Addr) (cl : List (Str × Addr)) (fp : List Addr), TTs (X.blk s H scope (compEnvC scope cl C X.env) fp) EF ifs tt)
    (he : ∀ (s : Shared) (H : Hp) (C : Addr) (cl : List (Str × Addr)) (fp : List Addr), ET (X.blk s H scope (compEnvC scope cl C X.env) fp) EF elt re) (hs : ∀ x, foldedSetIterable iter X.env x = pure x := by intro _; rfl) :
    ET X E (.ListComp elt [⟨tg, iter, ifs, 0⟩] scope pos) (rLcP ri i j tt re) :=
  ⟨pe_weak (pe_lc hc hN hi.pi ok hg (fun s H C cl fp => (ht s H C cl fp).pt) (fun s H C cl fp => (he s H C cl fp).pe) hs) fun sl H Q h => by
    obtain ⟨Z, σ, S, R, RE, fr, ok, w, po, xo⟩ := h.ex
    refine ⟨Z, σ, S, _, RE, fr, ok, w, fun ts S1 J H1 k le ok1 src => ?_, xo⟩
    refine lc_turnsM (fr := prF σ i j) ok1 (fr.le le) src k.2 (fun Z' S' H' x t Q' m f r q => ?_) fun ys S' v H' r l o rep => po _ S' v H' r (le.trans l) o rep
    obtain ⟨a, b, rfl⟩ := k.1 t m
    cases r with
    | @tup p vs _ h1 rs =>
    cases rs with
    | cons ra rs =>
    cases rs with
    | cons rb rs =>
    cases rs
    refine ⟨p, _, rfl, h1.sq, rfl, _, _, rfl, _, [], rfl, rfl, q _ ?_ ?_⟩
    · show FrR X.K Z' S' H' (((((wipe sl []).set j none).set i none).set i (some _)).set j (some _)) ((σ.set i (some a)).set j (some b))
      rw [set3 ne]
      exact (f.set i ra).set j rb
    · show ((((((wipe sl []).set j none).set i none).set i (some _)).set j (some _)).set j none).set i none = ((wipe sl []).set j none).set i none
      rw [set3 ne, List.set_set, List.set_comm _ _ (Ne.symm ne), List.set_set, List.set_comm _ _ ne]⟩

/-! zip(tuple, list) -/
namespace ZipM
open PySem
section
variable {prog : Program} {w : World} {A : Around} {E : Value → Shared → Prop} {s : Shared}
theorem next_end {z TI TO i1 i2 l1 l2 : Addr} {k1 k2 : Nat} {xs ys : Array Value} {a b : Value} {Q : Fin → Shared → Prop} (hh : A.handled = none) (D : ZipApart z TI TO i1 i2 l1 l2)
    (hz : IsZip s.heap z TI TO .none) (hTI : IsPair s.heap TI (.ref i1) (.ref i2)) (hTO : IsPair s.heap TO a b)
    (h1 : s.heap.IsTupleIter i1 l1 k1) (h2 : s.heap.IsListIter i2 l2 k2) (hl1 : s.heap.IsTuple l1 xs) (hl2 : s.heap.IsList l2 ys) (hend : xs[k1]? = none ∨ ys[k2]? = none)
    (hE : ∀ h' e, (∀ c o, c ≠ z → c ≠ TO → c ≠ i1 → c ≠ i2 → s.heap.get? c = some o → h'.get? c = some o) → (∃ o, h'.get? e = some o ∧ o.cls = .type "StopIteration") → E (.ref e) { s with heap := h' }) :
    wpAny (model prog w) A (Builtin.«zip.__next__» ⟨[.ref z], []⟩) Q E s := by
  show wpAny _ _ (field (.ref z) 2 >>= _) _ _ _
  refine wpAny_bind (wpAny_field hz rfl (x := .bool false) rfl ?_)
  show wpAny _ _ (field (.ref z) 3 >>= _) _ _ _
  refine wpAny_bind (wpAny_field hz rfl (x := .ref TI) rfl (wpAny_bind (wpAny_seqItems hTI rfl ?_)))
  show wpAny _ _ (Builtin.SmallTypes.ownedTupleIsFree (.ref z) >>= _) _ _ _
  refine wpAny_bind ?_
  unfold Builtin.SmallTypes.ownedTupleIsFree
  refine wpAny_bind (wpAny_field hz rfl (x := .none) rfl (wpAny_pure ?_))
  simp only [if_true]
  refine wpAny_bind (wpAny_rule (wpAny_bind (wpAny_field hz rfl (x := .ref TO) rfl ?_)))
  refine wpAny_bind (wpAny_setField_rec hz (by simp) fun g1 z1 s1 => ?_)
  replace z1 : IsZip g1 z TI TO .ellipsis := z1
  refine wpAny_bind ?_
  simp only [List.zipIdx_cons, List.zipIdx_nil, List.forIn_cons, List.forIn_nil]
  refine wpAny_bind (wpAny_bind (wpAny_onRaise ?_))
  show wpAny _ _ (Builtin.SmallTypes.nextOf (.ref i1) >>= _) _ _ _
  cases hx : xs[k1]? with
  | none =>
    refine wpAny_bind (wpAny_nextOf_tuple_end hh (h1.extBut s1.extBut D.i1z) (hl1.extBut s1.extBut D.l1z) hx fun g2 e s2 ⟨oe, ho, hc⟩ => ?_)
    have z2 : IsZip g2 z TI TO .ellipsis := s2 _ _ D.i1z.symm z1
    have ne : e ≠ z := fun q => by subst q; rw [z2] at ho; cases ho; simp at hc
    exact wpAny_setField_rec z2 (by simp) fun g3 _ s3 => hE g3 e (fun c o c1 _ c3 _ q => s3.extBut _ _ c1 (s2 _ _ c3 (s1.extBut _ _ c1 q))) ⟨oe, s3.extBut _ _ ne ho, hc⟩
  | some x =>
    have hy : ys[k2]? = none := hend.resolve_left (by rw [hx]; exact fun q => nomatch q)
    refine wpAny_bind (wpAny_nextOf_tuple_item (h1.extBut s1.extBut D.i1z) (hl1.extBut s1.extBut D.l1z) hx fun g2 _ s2 => wpAny_pure ?_)
    have t2 : IsPair g2 TO a b := s2.extBut _ _ D.TOi1 (s1.extBut _ _ D.TOz hTO)
    refine wpAny_bind (wpAny_seqItems t2 rfl (wpAny_bind (wpAny_updateSeq_pair t2 fun g3 _ s3 => wpAny_bind (wpAny_letGo (wpAny_pure ?_)))))
    refine wpAny_bind (wpAny_bind (wpAny_onRaise ?_))
    show wpAny _ _ (Builtin.SmallTypes.nextOf (.ref i2) >>= _) _ _ _
    refine wpAny_bind (wpAny_nextOf_list_end hh (((h2.extBut s1.extBut D.i2z).extBut s2.extBut D.i12.symm).extBut s3.extBut D.TOi2.symm)
      (((hl2.extBut s1.extBut D.l2z).extBut s2.extBut D.l2i1).extBut s3.extBut D.l2TO) hy fun g4 e s4 ⟨oe, ho, hc⟩ => ?_)
    have z4 : IsZip g4 z TI TO .ellipsis := s4 _ _ D.i2z.symm (s3.extBut _ _ D.TOz.symm (s2.extBut _ _ D.i1z.symm z1))
    have ne : e ≠ z := fun q => by subst q; rw [z4] at ho; cases ho; simp at hc
    exact wpAny_setField_rec z4 (by simp) fun g5 _ s5 => hE g5 e (fun c o c1 c2 c3 c4 q => s5.extBut _ _ c1 (s4 _ _ c4 (s3.extBut _ _ c2 (s2.extBut _ _ c3 (s1.extBut _ _ c1 q))))) ⟨oe, s5.extBut _ _ ne ho, hc⟩
theorem pyNext_end {z TI TO i1 i2 l1 l2 : Addr} {k1 k2 : Nat} {xs ys : Array Value} {a b : Value} {Q : Option Value → Shared → Prop} (hh : A.handled = none) (D : ZipApart z TI TO i1 i2 l1 l2)
    (hz : IsZip s.heap z TI TO .none) (hTI : IsPair s.heap TI (.ref i1) (.ref i2)) (hTO : IsPair s.heap TO a b)
    (h1 : s.heap.IsTupleIter i1 l1 k1) (h2 : s.heap.IsListIter i2 l2 k2) (hl1 : s.heap.IsTuple l1 xs) (hl2 : s.heap.IsList l2 ys) (hend : xs[k1]? = none ∨ ys[k2]? = none)
    (hQ : ∀ h', (∀ c o, c ≠ z → c ≠ TO → c ≠ i1 → c ≠ i2 → s.heap.get? c = some o → h'.get? c = some o) → Q none { s with heap := h' }) : wpAny (model prog w) A (pyNext (.ref z)) Q E s := by
  have hT : s.TypeIs (.ref z) "zip" := ⟨_, hz, rfl⟩
  unfold pyNext
  refine wpAny_bind (wpAny_attempt (wpAny_callSpecial?_slot (name := Str.ofString "__next__") hT F.slot_zip_next
    (wpAny_call_entry F.slot_zip_next hT F.entry_zip_next (next_end hh D hz hTI hTO h1 h2 hl1 hl2 hend fun h' e hk ⟨o, ho, hc⟩ => ?_) (F.args_zip_next_1 _))))
  exact wpAny_bind (wpAny_isInstance (T := "StopIteration") (b := true) ⟨o, ho, hc⟩ isSubtype_stop (wpAny_pure (hQ _ hk)))
end
abbrev mH1 (h : Heap) (l1 : Addr) : Heap := h.push { cls := .type "tuple_iterator", data := .fields #[.ref l1, .int 0 0] }
abbrev mH2 (h : Heap) (l1 l2 : Addr) : Heap := (mH1 h l1).push { cls := .type "list_iterator", data := .fields #[.ref l2, .int 0 0] }
abbrev mH3 (h : Heap) (l1 l2 : Addr) : Heap := (mH2 h l1 l2).push { cls := .type "tuple", data := .seq #[.ref h.objs.size, .ref (mH1 h l1).objs.size] }
abbrev mH4 (h : Heap) (l1 l2 : Addr) : Heap := (mH3 h l1 l2).push { cls := .type "tuple", data := .seq #[.none, .none] }
abbrev mH5 (h : Heap) (l1 l2 : Addr) : Heap := (mH4 h l1 l2).push { cls := .type "zip", data := .fields #[.none, .bool false, .bool false, .ref (mH2 h l1 l2).objs.size, .ref (mH3 h l1 l2).objs.size] }
theorem new_ (l1 l2 : Addr) (xs ys : Array Value) :
    Meets (Builtin.«zip.__new__» ⟨[.type "zip", .ref l1, .ref l2], []⟩) (fun _ R s => s.heap.IsTuple l1 xs ∧ s.heap.IsList l2 ys ∧
      R (.ok (.ret (.ref (mH4 s.heap l1 l2).objs.size))) { s with heap := mH5 s.heap l1 l2 }) :=
  .of_wp fun prog w A R s h => by
    obtain ⟨hp, g, d, tk, os⟩ := s; obtain ⟨h1, h2, h⟩ := h
    have hsub := sub_zip
    have q1 : Heap.IsTuple (Shared.heap ⟨hp, g, d, tk, os⟩) l1 xs := h1
    have q2 : Heap.IsList (Shared.heap ⟨hp.push { cls := .type "tuple_iterator", data := .fields #[.ref l1, .int 0 0] }, g, d, tk, os⟩) l2 ys := Heap.IsList.push h2 _
    wp_walk using wpAny_pyIter_tuple q1, wpAny_pyIter_list q2
    exact ⟨_, rfl, h⟩
section
variable {prog : Program} {w : World} {A : Around} {E : Value → Shared → Prop} {s : Shared}
theorem call_zip {l1 l2 : Addr} {xs ys : Array Value} {Q : Value → Shared → Prop} (h1 : s.heap.IsTuple l1 xs) (h2 : s.heap.IsList l2 ys)
    (h : ∀ h', IsZip h' (s.heap.objs.size + 4) (s.heap.objs.size + 2) (s.heap.objs.size + 3) .none → IsPair h' (s.heap.objs.size + 2) (.ref s.heap.objs.size) (.ref (s.heap.objs.size + 1)) →
      IsPair h' (s.heap.objs.size + 3) .none .none → h'.IsTupleIter s.heap.objs.size l1 0 → h'.IsListIter (s.heap.objs.size + 1) l2 0 → (∀ c o, s.heap.get? c = some o → h'.get? c = some o) → Q (.ref (s.heap.objs.size + 4)) { s with heap := h' }) :
    wpAny (model prog w) A (call (.type "zip") [.ref l1, .ref l2]) Q E s := by
  refine callType_new F.called_zip (by decide) (F.typeCall_zip_2 _ _) (F.newCall_zip_2 _ _) (fun obj => F.args_object_init_3 obj _ _) F.entry_zip_new (new_ l1 l2 xs ys) ⟨h1, h2, ?_⟩
  have z1 : (mH1 s.heap l1).objs.size = s.heap.objs.size + 1 := Heap.size_push ..
  have z2 : (mH2 s.heap l1 l2).objs.size = s.heap.objs.size + 2 := by rw [Heap.size_push, z1]
  have z3 : (mH3 s.heap l1 l2).objs.size = s.heap.objs.size + 3 := by rw [Heap.size_push, z2]
  have z4 : (mH4 s.heap l1 l2).objs.size = s.heap.objs.size + 4 := by rw [Heap.size_push, z3]
  have k5 : (mH5 s.heap l1 l2).get? (mH4 s.heap l1 l2).objs.size = some _ := Heap.get?_push_size _ rfl
  have k4 : (mH5 s.heap l1 l2).get? (mH3 s.heap l1 l2).objs.size = some _ := Heap.get?_push_of_some _ (Heap.get?_push_size _ rfl)
  have k3 : (mH5 s.heap l1 l2).get? (mH2 s.heap l1 l2).objs.size = some _ := Heap.get?_push_of_some _ (Heap.get?_push_of_some _ (Heap.get?_push_size _ rfl))
  have k2 : (mH5 s.heap l1 l2).get? (mH1 s.heap l1).objs.size = some _ := Heap.get?_push_of_some _ (Heap.get?_push_of_some _ (Heap.get?_push_of_some _ (Heap.get?_push_size _ rfl)))
  have k1 : (mH5 s.heap l1 l2).get? s.heap.objs.size = some _ := Heap.get?_push_of_some _ (Heap.get?_push_of_some _ (Heap.get?_push_of_some _ (Heap.get?_push_of_some _ (Heap.get?_push_size _ rfl))))
  show _ ∧ _
  rw [z2, z3, z4] at k5
  rw [z1, z2] at k3
  rw [z3] at k4
  rw [z1] at k2
  rw [z4]
  exact ⟨⟨_, k5, rfl⟩, h _ k5 k3 k4 ⟨_, k1, rfl, rfl⟩ ⟨_, k2, rfl, rfl⟩ fun c o x => Heap.get?_push_of_some _ (Heap.get?_push_of_some _ (Heap.get?_push_of_some _ (Heap.get?_push_of_some _ (Heap.get?_push_of_some _ x))))⟩
end
end ZipM
/-- the tuple at a and the list at b as they stand at each turn, the items in new pairs -/
def ItzM (K : PySem.W.Frag) (a b : Addr) : It :=
  ⟨fun i H => ∃ (xs ys : List V) (x y : V), SqT K H a xs ∧ SqL K H b ys ∧ xs[i]? = some x ∧ ys[i]? = some y,
    fun i H v H' => ∃ T x y, v = .ref T ∧ H T = none ∧ H' = upd H T (.tup [x, y]) ∧ (∀ xs, SqT K H a xs → xs[i]? = some x) ∧ ∀ ys, SqL K H b ys → ys[i]? = some y,
    fun i H => ∃ xs ys : List V, SqT K H a xs ∧ SqL K H b ys ∧ (xs.length ≤ i ∨ ys.length ≤ i)⟩
theorem sep_of {z TI TO i1 i2 a b : Addr} (D : ZipApart z TI TO i1 i2 a b) (h1 : b ≠ i1) (h2 : a ≠ i2) : ZipSep2 z TI TO i1 i2 [i1, a] [i2, b] where
  TIz := D.TIz
  TOz := D.TOz
  TITO := D.TITO
  TIi1 := D.TIi1
  mem1 := by simp
  zf1 := by simp [D.i1z.symm, D.l1z.symm]
  Tf1 := by simp [D.TOi1, D.l1TO.symm]
  TIi2 := D.TIi2
  mem2 := by simp
  zf2 := by simp [D.i2z.symm, D.l2z.symm]
  Tf2 := by simp [D.TOi2, D.l2TO.symm]
  sep1_2 := by simp [D.i12, h1.symm]
  sep2_1 := by simp [D.i12.symm, h2.symm]
theorem turn_zipM {P : Program} {w : World} {K : PySem.W.Frag} {elts : List Expr} {kk : Nat} {tpos : Pos} {a b z TI TO i1 i2 : Addr} (D : ZipApart z TI TO i1 i2 a b) :
    Turn P w K (.Tuple elts kk tpos) (ItzM K a b) [z, TI, TO, i1, i2] z (fun i h => IsZip h z TI TO .none ∧ IsPair h TI (.ref i1) (.ref i2) ∧ (∃ x y, IsPair h TO x y) ∧ h.IsTupleIter i1 a i ∧ h.IsListIter i2 b i) where
  mem := by simp
  obj := fun i h st c hc => by
    obtain ⟨hz, hTI, ⟨x, y, hTO⟩, ⟨o1, e1, _, d1⟩, ⟨o2, e2, _, d2⟩⟩ := st
    have e' : c = z ∨ c = TI ∨ c = TO ∨ c = i1 ∨ c = i2 := by simpa using hc
    rcases e' with rfl | rfl | rfl | rfl | rfl
    · exact ⟨_, hz, fun v q => nomatch q⟩
    · exact ⟨_, hTI, fun v q => nomatch q⟩
    · exact ⟨_, hTO, fun v q => nomatch q⟩
    · exact ⟨o1, e1, fun v q => by rw [d1] at q; cases q⟩
    · exact ⟨o2, e2, fun v q => by rw [d2] at q; cases q⟩
  keep := fun i h h' ⟨hz, hTI, ⟨x, y, hTO⟩, h1, h2⟩ k =>
    ⟨k z (by simp) _ hz, k TI (by simp) _ hTI, ⟨x, y, k TO (by simp) _ hTO⟩, h1.at fun o q => k i1 (by simp) o q, h2.at fun o q => k i2 (by simp) o q⟩
  item := by
    intro X hP hw hK hc i pins s σ H E I hf st hg
    subst hP hw hK
    obtain ⟨hz, hTI, ⟨x0, y0, hTO⟩, h1, h2⟩ := st
    obtain ⟨xs, ys, x, y, hqx, hqy, hx, hy⟩ := hg
    obtain ⟨its, rv, p, _⟩ := I.tuple hqx
    obtain ⟨its2, rv2, p2, _⟩ := I.list hqy
    obtain ⟨u, hu, ru⟩ := rv.get hx
    obtain ⟨u2, hu2, ru2⟩ := rv2.get hy
    have hzl : z < s.heap.objs.size := Heap.lt_size hz
    have pt : s.heap.IsTuple a its.toArray := p
    have hdd : X.A.in1.handled = none := I.ok.hd hc
    refine wpAny_pyNext_zipD2_item (sep_of D D.l2i1 D.l1i2) (Draws.tuple hdd i1 a D.l1i1 its.toArray) (Draws.list hdd i2 b D.l2i2 its2.toArray) hz hTI hTO ⟨h1, pt⟩ ⟨h2, p2.isList⟩ (by have := (List.getElem?_eq_some_iff.mp hu).1; simpa using this) (by have := (List.getElem?_eq_some_iff.mp hu2).1; simpa using this) fun v1 v2 h' tk e1 e2 z' TO' st1 st2 hT hsz hk => ?_
    obtain rfl : v1 = u := by
      have q : its.toArray[i]? = some v1 := e1
      rw [show its.toArray[i]? = its[i]? by simp, hu] at q
      exact (Option.some.inj q).symm
    obtain rfl : v2 = u2 := by
      have q : its2.toArray[i]? = some v2 := e2
      rw [show its2.toArray[i]? = its2[i]? by simp, hu2] at q
      exact (Option.some.inj q).symm
    refine ⟨_, rfl, wpAny_letOwnedTupleGo_zip (s := { s with heap := h', toks := tk }) z' fun h'' z'' sb => ?_⟩
    have hT2 : h''.get? s.heap.objs.size = some { cls := .type "tuple", data := .seq #[v1, v2] } := (sb.2 _ (Nat.ne_of_gt hzl)).trans hT
    have new : ObjOk X.prog X.w (upd H s.heap.objs.size (.tup [x, y])) h'' s.heap.objs.size (.tup [x, y]) :=
      ⟨by show 2 ≤ sizeLine; decide, [v1, v2], .cons ru (.cons ru2 .nil), ⟨_, hT2, rfl, _, rfl⟩⟩
    have I1 : Inv X pins σ (upd H s.heap.objs.size (.tup [x, y])) { s with heap := h'', toks := tk } :=
      I.turnedNew (t' := tk) (ch := [z, TI, TO, i1, i2]) (fun c o hb q => (sb.2 c (fun q' => hb (by simp [q']))).trans (hk c o (fun q' => hb (by simp [q'])) (fun q' => hb (by simp [q'])) (fun q' => hb (by simp [q'])) (fun q' => hb (by simp [q'])) q)) hf (Nat.le_refl _) new
    refine ⟨.ref s.heap.objs.size, _, I1, rfl, ⟨_, x, y, rfl, I.hok.fresh (Nat.le_refl _), rfl, fun l hl => by rw [I.tuple_inj hl hqx]; exact hx, fun l hl => by rw [I.list_inj hl hqy]; exact hy⟩, ⟨z'', ?_, ⟨v1, v2, ?_⟩, ?_, ?_⟩, fun c hcm => ?_⟩
    · exact (sb.2 _ D.TIz).trans (hk _ _ D.TIz D.TITO D.TIi1 D.TIi2 hTI)
    · exact (sb.2 _ D.TOz).trans TO'
    · exact st1.1.at fun o q => (sb.2 _ D.i1z).trans q
    · exact st2.1.at fun o q => (sb.2 _ D.i2z).trans q
    · have lt : c < s.heap.objs.size := by
        have e' : c = z ∨ c = TI ∨ c = TO ∨ c = i1 ∨ c = i2 := by simpa using hcm
        rcases e' with rfl | rfl | rfl | rfl | rfl
        · exact hzl
        · exact Heap.lt_size hTI
        · exact Heap.lt_size hTO
        · obtain ⟨_, q, _⟩ := h1; exact Heap.lt_size q
        · obtain ⟨_, q, _⟩ := h2; exact Heap.lt_size q
      rw [upd_ne (Nat.ne_of_lt lt)]
      exact (hf c hcm).1
  done := by
    intro X hP hw hK hc i pins s σ H E I hf st hg
    subst hP hw hK
    obtain ⟨hz, hTI, ⟨x0, y0, hTO⟩, h1, h2⟩ := st
    obtain ⟨xs, ys, hqx, hqy, hend⟩ := hg
    obtain ⟨its, rv, p, _⟩ := I.tuple hqx
    obtain ⟨its2, rv2, p2, _⟩ := I.list hqy
    have l1 := rv.length
    have l2 := rv2.length
    have he : its.toArray[i]? = none ∨ its2.toArray[i]? = none := hend.imp (fun q => by simp; omega) (fun q => by simp; omega)
    exact ZipM.pyNext_end (I.ok.hd hc) D hz hTI hTO h1 h2 p p2.isList he fun h' hk => ⟨rfl, I.turnedL (t' := s.toks) (ch := [z, TI, TO, i1, i2]) (fun c o hb q =>
      hk c o (fun q' => hb (by simp [q'])) (fun q' => hb (by simp [q'])) (fun q' => hb (by simp [q'])) (fun q' => hb (by simp [q'])) q) hf⟩
  self := fun A i s Q E st h => wpAny_pyIter_zip st.1 h
def iZipV (K : PySem.W.Frag) (ta : TA) : TI := fun σ H R => ta σ H fun vs H1 => ∃ a b xs ys, vs = [.ref a, .ref b] ∧ SqT K H1 a xs ∧ SqL K H1 b ys ∧ R (ItzM K a b) H1
theorem pi_zipM {X : Cx} {e e2 : Expr} {ta : TA} {p pos tpos : Pos} {elts : List Expr} {kk : Nat} (hg : Gl X "zip") (hm : X.mg "zip" = none) (ha : PA X [e, e2] ta)
    (hs : starEach [e, e2] X.env = (false, eval e X.env) :: starEach [e2] X.env := by rfl) (hpl : (backTo pos (starEach [e2] X.env)).any (·.1) = false := by rfl) :
    PI X (.Tuple elts kk tpos) (.Call (.Name "zip" p) [e, e2] [] pos) (iZipV X.K ta) := by
  refine ⟨fun pins s σ H R I h => ?_⟩
  refine Call_ (ld_blt I hg hm PyProof.Rows.boot_zip (PyProof.Rows.callWith_type1 (thn (ha.run pos pins s σ H _ I h) fun us s1 ⟨vs, H1, I1, r1, q1⟩ => ?_) hs hpl))
  obtain ⟨a, b, xs, ys, rfl, hqx, hqy, q⟩ := q1
  cases r1 with
  | cons r rr =>
    cases rr with
    | cons r' rr =>
      cases rr
      cases r
      cases r'
      obtain ⟨its, _, p1, _⟩ := I1.tuple hqx
      obtain ⟨its2, _, p2, _⟩ := I1.list hqy
      have pt : s1.heap.IsTuple a its.toArray := p1
      have la : a < s1.heap.objs.size := by obtain ⟨o, ho, _⟩ := pt; exact Heap.lt_size ho
      refine ZipM.call_zip pt p2.isList fun h' hz hTI hTO h1 h2 hk => wpAny_pyIter_zip hz ?_
      have I2 : Inv X pins σ H1 { s1 with heap := h' } := I1.kept (t' := s1.toks) hk
      refine ⟨s1.heap.objs.size + 4, [s1.heap.objs.size + 4, s1.heap.objs.size + 2, s1.heap.objs.size + 3, s1.heap.objs.size, s1.heap.objs.size + 1], _, _, H1, rfl, I2, turn_zipM (PySem.W.ktu_apart s1.heap.objs.size a b la p2.lt), ⟨hz, hTI, ⟨_, _, hTO⟩, h1, h2⟩, fun c hcm => ?_, q⟩
      have e' : c = s1.heap.objs.size + 4 ∨ c = s1.heap.objs.size + 2 ∨ c = s1.heap.objs.size + 3 ∨ c = s1.heap.objs.size ∨ c = s1.heap.objs.size + 1 := by simpa using hcm
      have hle : s1.heap.objs.size ≤ c := by rcases e' with z | z | z | z | z <;> rw [z] <;> first | exact Nat.le_refl _ | exact Nat.le_add_right _ _
      exact I1.fpOk hle (I1.hok.fresh hle)
def zipT : List T → List T → List T
  | a :: as, b :: bs => .tup [a, b] :: zipT as bs
  | _, _ => []
theorem zipT_at : ∀ {xs ys : List T} {i : Nat} {t : T}, (zipT xs ys)[i]? = some t → ∃ a b, xs[i]? = some a ∧ ys[i]? = some b ∧ t = .tup [a, b]
  | [], _, i, t, h => by simp [zipT] at h
  | _ :: _, [], i, t, h => by simp [zipT] at h
  | a :: as, b :: bs, 0, t, h => by simp [zipT] at h; exact ⟨a, b, rfl, rfl, h.symm⟩
  | a :: as, b :: bs, i + 1, t, h => zipT_at (xs := as) (ys := bs) (i := i) h
theorem zipT_length : ∀ {xs ys : List T}, (zipT xs ys).length = min xs.length ys.length
  | [], _ => by simp [zipT]
  | _ :: _, [] => by simp [zipT]
  | _ :: as, _ :: bs => by simp [zipT, zipT_length (xs := as) (ys := bs)]
theorem zipT_pair {xs ys : List T} : ∀ t ∈ zipT xs ys, ∃ a b, t = .tup [a, b] := fun t m => by
  obtain ⟨i, hi, e⟩ := List.getElem_of_mem m
  obtain ⟨a, b, _, _, q⟩ := zipT_at (List.getElem?_eq_some_iff.mpr ⟨hi, e⟩)
  exact ⟨a, b, q⟩
theorem src_zip {K : PySem.W.Frag} {Z : Addr → Prop} {S : Store} {H : Hp} {p q : Addr} {vs ws : List V} {ts us : List T} (h1 : SqT K H p vs) (e1 : TupAt K Z S H p vs) (r1 : Reps K Z S H vs ts) (h2 : LstAt Z S H q ws ∨ ScrAt K Z S H q ws) (r2 : Reps K Z S H ws us) : SrcOk K Z S H (ItzM K p q) (zipT ts us) := fun Z' S1 H1 hz le ok => by
  have f1 := (e1.hide hz).le le
  have g1 := (r1.hide hz).le le
  have g2 := (r2.hide hz).le le
  have f2 : SqL K H1 q ws := by
    rcases h2 with h2 | h2
    · exact ((h2.hide hz).le le).sq
    · exact ((h2.hide hz).le le).sq
  refine ⟨fun i t hi => ?_, fun i hi => ⟨vs, ws, f1.sq, f2, by rw [zipT_length] at hi; rw [r1.length, r2.length]; omega⟩⟩
  obtain ⟨a, b, ha, hb, rfl⟩ := zipT_at hi
  obtain ⟨v, hv, ra⟩ := g1.get ha
  obtain ⟨w, hw, rb⟩ := g2.get hb
  refine ⟨⟨vs, ws, v, w, f1.sq, f2, hv, hw⟩, fun u H' ⟨T, x, y, e1, hn, e2, k1, k2⟩ => ?_⟩
  subst e1 e2
  have q1 := k1 vs f1.sq
  have q2 := k2 ws f2
  rw [hv] at q1
  rw [hw] at q2
  cases q1
  cases q2
  exact ⟨le_new hn, ok.new hn, .tupN ok hn (.cons ra (.cons rb .nil))⟩
def iZipM (t : TRA) : TRI := fun σ S R RE => t σ S (fun xs S1 => ∃ ts us y, xs = [.tup ts, y] ∧ ((y = .lst us) ∨ y = .scr us) ∧ R (zipT ts us) S1) RE
theorem it_zip {X : Cx} {E : XK} {e e2 : Expr} {t : TRA} {p pos tpos : Pos} {elts : List Expr} {kk : Nat} (hg : Gl X "zip") (hm : X.mg "zip" = none) (ha : AT X E [e, e2] t)
    (hs : starEach [e, e2] X.env = (false, eval e X.env) :: starEach [e2] X.env := by rfl) (hpl : (backTo pos (starEach [e2] X.env)).any (·.1) = false := by rfl) :
    IT X E (.Tuple elts kk tpos) (.Call (.Name "zip" p) [e, e2] [] pos) (iZipM t) :=
  ⟨pi_weak (pi_zipM hg hm ha.pa hs hpl) fun sl H Q ⟨⟨Z, σ, S, R, RE, fr, ok, w, po, xo⟩⟩ => ⟨_, σ, S, _, RE, fr, ok, w, fun xs S1 vs H1 k le ok1 rep => by
    obtain ⟨ts, us, y, rfl, hy, k⟩ := k
    cases rep with
    | cons r rr =>
      cases rr with
      | cons r2 rr =>
        cases rr
        cases r with
        | tup h1 r1 =>
          rcases hy with rfl | rfl
          · cases r2 with
            | lst h2 r2 => exact ⟨_, _, _, _, rfl, h1.sq, h2.sq, po _ S1 _ H1 k le ok1 (src_zip h1.sq h1 r1 (.inl h2) r2)⟩
          · cases r2 with
            | scr h2 r2 => exact ⟨_, _, _, _, rfl, h1.sq, h2.sq, po _ S1 _ H1 k le ok1 (src_zip h1.sq h1 r1 (.inr h2) r2)⟩, xo⟩⟩

/-! ### C.m(..), m a classmethod; cls(..), cls a local that holds the class -/
section
variable {X : Cx} {E : XK} {k i : Nat} {f C g p0 : Addr} {fd : FuncData} {ps : List Str} {sp : SpT} {dts : List T} {x m : Str} {p p2 pos apos : Pos} {e o : Expr} {es : List Expr} {t : TRA} {ra : TR}
def rCMeth (C : Addr) (sp : SpT) (t : TRA) : TR := fun σ S R RE => t σ S (fun xs S1 => sp (.st C :: xs) S1 R RE) RE
theorem et_cmeth {pl : Sem Bool} (r : ClX.CRead X.K C (.type "type")) (c : ClX.CMet X.K C (.type "type") m p0 g) (F : FnT X.prog X.w X.K X.mg X.base k g fd ps sp) (hb : Binds X.K fd ps []) (hr : Room k X.A) (gds : X.A.guards = some []) (hx : Passes (L2N.CX X.prog X.w) X E)
    (hg : Gl X x) (hm : X.mg x = some (.ref C)) (ha : AT X E (e :: es) t) (hd : (x == ("__debug__" : Str)) = false := by decide)
    (hst : starEach (e :: es) X.env = (false, eval e X.env) :: starEach es X.env := by rfl) (hpl : (backTo pos (starEach es X.env)).any (·.1) = false := by rfl)
    (ht : eval (.Call (.Attribute (.Name x p) m apos) (e :: es) [] pos) X.env = (do
      let ov ← eval (.Name x p) X.env
      standAt apos.atName
      let (f, first) ← holding [ov] (getMethod ov m pl)
      callWith pos f first (backTo pos (starEach (e :: es) X.env)) (backToKw pos (keywordEach [] X.env))) := by rfl) :
    ET X E (.Call (.Attribute (.Name x p) m apos) (e :: es) [] pos) (rCMeth C sp t) := by
  refine ⟨⟨fun pins s sl H Q I h => ?_⟩⟩
  obtain ⟨Z, σ, S, R, RE, fr, ok, w, po, xo⟩ := h.ex
  refine PySem.W.methodCall_KW (pl := pl) (thn ((pe_glob (pos := p) (v := .ref C) hg hm rfl hd).run pins s sl H (fun v H1 => v = .ref C ∧ H1 = H) I ⟨rfl, rfl⟩) fun u s1 hu => ?_) ht
  obtain ⟨v, H1, I1, rv, rfl, rfl⟩ := hu
  obtain rfl : u = Value.ref C := rv
  refine ClX.getmethcm_ok I1 r c fun s2 I2 => ?_
  refine ClX.callwith_cm I2 (ClX.base_none I1 (Nat.le_refl _)) c.fi (thn (ha.pa.run pos _ s2 sl H1 (fun vs H2 => ∃ xs S2, _ ∧ Le S H1 S2 H2 ∧ Ok X.K Z S2 H2 ∧ Reps X.K Z S2 H2 vs xs) I2 ⟨Z, σ, S, _, RE, fr, ok, w, fun xs S2 vs H2 k2 l2 o2 r2 => ⟨xs, S2, k2, l2, o2, r2⟩, xo⟩) fun us s3 hu => ?_) hst hpl
  obtain ⟨vs, H2, I3, rv, xs, S2, k2, l2, o2, r2⟩ := hu
  refine ⟨⟨ClX.pin_at I3, I3.kIn⟩, ?_⟩
  have up : UpF X.K sp (.ref C :: vs) H2 Q E := ⟨Z, _, S2, R, RE, .cons (.st C) r2, o2, k2, po.le l2, xo.le l2⟩
  have vv : Vals (V.ref C :: vs) ((Value.ref C :: us) ++ []) := by rw [List.append_nil]; exact .cons rfl rv
  have z : wpAny (model X.prog X.w) X.A (call (.ref s1.heap.objs.size) us) (EP X ((s1.heap.objs.size, PySem.W.methodObj (.ref g) (.ref C)) :: pins) sl Q) X.xe s3 := by
    refine wpAny_call (PySem.W.method_call (ClX.pin_at I3) ?_)
    refine codeAny_mono (F.fn.go X.A X.stack s3 H2 ⟨Value.ref C :: us, []⟩ ((Value.ref C :: us) ++ []) (V.ref C :: vs) Q E gds hr I3.env0 (hb s3 (.ref C :: us) I3.kIn (vv.length.symm.trans (F.fn.len _ _ _ _ up))) vv up) fun r s' got => ?_
    cases r with
    | error er => exact hx _ sl H2 s3 er s' I3 got
    | ok fl =>
      cases fl with
      | ret u => exact I3.after got
      | next => exact got.elim
      | brk => exact got.elim
      | cont => exact got.elim
  exact thn z fun _ _ y => ClX.unpinE y
/-- cls(*xs) -/
def rClsStar (i : Nat) (C : Addr) (sp : SpT) (ra : TR) : TR := fun σ S R RE => σ[i]? = some (some (.st C)) ∧ rMakeStar C sp ra σ S R RE
theorem et_clsStar (M : Mk X.K C f) (F : FnS X.prog X.w X.K X.mg X.base k f sp) (gds : X.A.guards = some []) (hr : Room (k + 1) X.A) (hN : X.N[i]? = some x) (hv : Vis X.env.scope x) (hx : Passes (L2N.CX X.prog X.w) X E)
    (ha : ET X E e ra) (hdb : (x == ("__debug__" : Str)) = false := by decide) (hcd : (x == ("__classdict__" : Str)) = false := by decide) (hst : starEach [.Starred e p2] X.env = [(true, eval e X.env)] := by rfl) :
    ET X E (.Call (.Name x p) [.Starred e p2] [] pos) (rClsStar i C sp ra) := by
  refine ⟨⟨fun pins s sl H Q I h => ?_⟩⟩
  obtain ⟨Z, σ, S, R, RE, fr, ok, ⟨hi, w⟩, po, xo⟩ := h.ex
  obtain ⟨v0, hv0, rep0⟩ : ∃ v, sl[i]? = some (some v) ∧ Rep X.K Z S H v (.st C) := fr.get hi
  cases rep0
  refine wpAny_Call_Name_kw (thn ((pe_var (pos := p) hN hv hdb hcd).run pins s sl H (fun v H1 => v = .ref C ∧ H1 = H) I ⟨.ref C, hv0, rfl, rfl⟩) fun u s0 ⟨v, H0, I0, r0, q0⟩ => ?_)
  obtain ⟨rfl, rfl⟩ := q0
  cases r0
  refine PySem.W.callWith_S (h₀ := X.base) I.ok.mod.kin M.kp (thn (ha.pe.run pins s0 sl H0 (fun v H1 => ∃ y S1, (∃ ts, seqOf y = some ts ∧ ∀ u, S1 u = none → sp (.cell u :: ts) (S1.put u (.ins C [])) (fun z S2 => z = .non ∧ ∃ gs, S2 u = some (.ins C gs) ∧ R (.ins C gs) (S2.drop u)) RE) ∧ Le S H0 S1 H1 ∧ Ok X.K Z S1 H1 ∧ Rep X.K Z S1 H1 v y) I0
    ⟨Z, σ, S, _, RE, fr, ok, w, fun y S1 v H1 k1 l1 o1 r1 => ⟨y, S1, k1, l1, o1, r1⟩, xo⟩) fun v s1 hu => ?_) hst
  obtain ⟨v1, H1, I1, ry, y, S1, ⟨ts, hs, k1⟩, l1, o1, r1⟩ := hu
  obtain ⟨q, vs, rfl, hxs, rs⟩ := seq_rep r1 hs
  obtain rfl : v = Value.ref q := ry
  exact StX.star_any I1 hxs fun us s2 I2 rv => ⟨I2.kIn, make_tS M F gds hr hx I2 rv o1 rs k1 (po.le l1) (xo.le l1)⟩
end

/-! x in a list, element by element; at each turn the list is read anew -/
namespace InLst
open PySem PySem.SeqAt MeetsSeq MeetsSeq2 MeetsSeq3 SeqRoads2 PyProof.Rows
section
variable {prog : Program} {w : World} {A : Around} {R : Result → Shared → Prop}
def Turns (prog : Program) (w : World) (A : Around) (R : Result → Shared → Prop) (l : Addr) (x : Value) (N : Nat) (I : Nat → Shared → Prop) : Prop :=
  ∀ i s, I i s → ∃ (items : Array Value) (n : Nat), s.heap.get? l = some { cls := .type "list", data := .seq items n } ∧ items.size = N ∧
    ∀ h : i < items.size, wpAny (model prog w) A.in1 (eqBool items[i] x) (fun r s' => if r = true then R (.ok (.ret (.bool true))) s' else I (i + 1) s') (fun e s' => R (.error e) s') s
theorem loop (l : Addr) (x : Value) (N : Nat) (I : Nat → Shared → Prop) (hl : Turns prog w A R l x N I) (fin : ∀ s, I N s → R (.ok (.ret (.bool false))) s) (k : Nat) :
    ∀ i : Nat, N - i = k → i ≤ N → ∀ s, I i s → wpAny (model prog w) A.in1 (Builtin.«list.__contains__.loop» ⟨[.ref l, x, rawInt i], []⟩) (GQ.FinOf prog w A R) (fun e s' => R (.error e) s') s := by
  induction k with
  | zero =>
    intro i hk hi s h
    obtain ⟨items, n, h1, hs, _⟩ := hl _ _ h
    have ei : i = N := by omega
    have hR : R (.ok (.ret (.bool false))) s := fin s (ei ▸ h)
    obtain ⟨hp, g, d, tk, os⟩ := s
    wp_walk using PySem.AutoSeq1.wpAny_loadPart' h1
    have hn : items[((i : Nat) : Int).toNat]? = none := by simp; omega
    rw [hn]
    wp_walk
    exact hR
  | succ k ih =>
    intro i hk hi s h
    obtain ⟨items, n, h1, hs, turn⟩ := hl _ _ h
    have hlt : i < items.size := by omega
    have ht := turn hlt
    obtain ⟨hp, g, d, tk, os⟩ := s
    wp_walk using PySem.AutoSeq1.wpAny_loadPart' h1
    have hn : items[((i : Nat) : Int).toNat]? = some items[i] := by simp [hlt]
    rw [hn]
    refine wpAny_bind (wpAny_mono ht (fun r s2 h2 => ?_) fun _ _ q => q)
    cases r with
    | true =>
      rw [if_pos rfl] at h2
      obtain ⟨hp2, g2, d2, tk2, os2⟩ := s2
      wp_walk
      exact h2
    | false =>
      rw [if_neg Bool.false_ne_true] at h2
      have hrec := ih (i + 1) (by omega) (by omega) s2 h2
      have hc : ((i : Int) + 1) = ((i + 1 : Nat) : Int) := by omega
      obtain ⟨hp2, g2, d2, tk2, os2⟩ := s2
      wp_walk
      rw [hc]
      exact ⟨plainId_quiet plain_contains_loop _, codeAny_builtin entry_contains_loop (by
        rw [Around.under_plainId plain_contains_loop _]
        exact hrec)⟩
theorem body (l : Addr) (x : Value) (N : Nat) (I : Nat → Shared → Prop) (hl : Turns prog w A R l x N I) (fin : ∀ s, I N s → R (.ok (.ret (.bool false))) s) {s : Shared} (h : I 0 s) :
    wpAny (model prog w) A.in1 (Builtin.«list.__contains__» ⟨[.ref l, x], []⟩) (GQ.FinOf prog w A R) (fun e s' => R (.error e) s') s := by
  have hrec := loop (A := A) (R := R) l x N I hl fin _ 0 rfl (Nat.zero_le _) s h
  obtain ⟨hp, g, d, tk, os⟩ := s
  wp_walk
  exact ⟨plainId_quiet plain_contains_loop _, codeAny_builtin entry_contains_loop (by
    rw [Around.under_plainId plain_contains_loop _]
    exact hrec)⟩
end
section
variable {prog : Program} {w : World} {A : Around} {E : Value → Shared → Prop} {s : Shared} {l : Addr} {x : Value}
theorem has {N : Nat} {Q : Bool → Shared → Prop} (I : Nat → Shared → Prop) (hl : Turns prog w A (wants (fun r s' => ∃ b, r = .bool b ∧ Q b s') E) l x N I) (fin : ∀ s, I N s → Q false s) (h : I 0 s) : wpAny (model prog w) A (contains (.ref l) x) Q E s := by
  obtain ⟨items, n, h1, _, _⟩ := hl _ _ h
  have hT : s.TypeIs (.ref l) "list" := ⟨_, h1, rfl⟩
  unfold contains
  refine wpAny_holding ?_
  refine wpAny_bind (wpAny_specialOf hT slot_list_contains.lookup ?_)
  rw [if_neg (by decide)]
  refine wpAny_bind (wpAny_callSpecialUnlessNone?_slot (name := Str.ofString "__contains__") hT slot_list_contains ?_)
  refine wpAny_mono (GQ.call_here (Q := fun r s' => ∃ b, r = .bool b ∧ Q b s') slot_list_contains hT entry_list_contains (args_list_contains _ _) ?_) (fun r s' ⟨b, e, q⟩ => ?_) fun _ _ q => q
  · exact body (R := wants (fun r s' => ∃ b, r = .bool b ∧ Q b s') E) l x N I hl (fun s q => ⟨false, rfl, fin s q⟩) h
  · subst e
    exact wpAny_truthy_bool q
theorem eqBool_none {a : Addr} {Q : Bool → Shared → Prop} (h : wpAny (model prog w) A (richCompare .Eq (.ref a) .none) (fun v s' => ∃ r, v = .bool r ∧ Q r s') E s) : wpAny (model prog w) A (eqBool (.ref a) .none) Q E s := by
  unfold eqBool
  refine wpAny_holding ?_
  refine wpAny_ite_split (fun hab => nomatch eq_of_beq hab) (fun _ => ?_)
  refine wpAny_bind (wpAny_mono h (fun v s' hv => ?_) fun _ _ x => x)
  obtain ⟨r, rfl, q⟩ := hv
  exact wpAny_truthy_bool q
end
end InLst
/-! ### None in a list of instances of a family with own __eq__ -/
def nonL (D : Addr → SpT → Prop) (l : List Addr) (R : Bool → Store → Prop) (RE : XT) : List T → Store → Prop
  | [], S => R false S
  | y :: ys, S => ∃ C gs sp, y = .ins C gs ∧ D C sp ∧ C ∈ l ∧ sp [y, .non] S (fun z S' => ∃ c, z = .bl c ∧ if c = true then R true S' else nonL D l R RE ys S') RE
def kNonIn (D : Addr → SpT → Prop) (l : List Addr) : KB := fun x y S R RE => ∃ ls, x = .non ∧ y = .lst ls ∧ nonL D l (fun b S' => R (.bl b) S') RE ls S
section
variable {X : Cx} {E : XK} {D : Addr → SpT → Prop} {l : List Addr}
theorem op_nonIn (K : PySem.W.Frag) (hK : X.K = K) (O : EqD X D) (nf : nfF K l = true) (gds : X.A.guards = some []) (hx : Passes (L2N.CX X.prog X.w) X E) : OpR X (compareOp .In) (RK X.K E (kNonIn D l)) := by
  subst hK
  intro pins s sl H v u w z Q inv rv ru want
  obtain ⟨Z, x, y, S, R, RE, ok, rx, ry, ⟨ls, rfl, rfl, kk⟩, po, xo⟩ := want
  cases rx
  obtain rfl : w = Value.none := rv
  cases ry with
  | @lst p vs ts h1 r1 =>
    obtain rfl : z = Value.ref p := ru
    refine wpAny_bind (InLst.has (N := vs.length) (fun i s' => ∃ H' S', Inv X pins sl H' s' ∧ Ok X.K Z S' H' ∧ Le S H S' H' ∧ LstAt Z S' H' p vs ∧ Reps X.K Z S' H' vs ls ∧ i ≤ vs.length ∧ nonL D l (fun b S' => R (.bl b) S') RE (ls.drop i) S')
      ?_ ?_ ⟨H, S, inv, ok, .refl, h1, r1, Nat.zero_le _, kk⟩)
    · rintro i s' ⟨H', S', inv', ok', le', h1', rs', hi, kk'⟩
      obtain ⟨z, its, n, rv1, e1⟩ := inv'.hok p _ h1'.1
      have hsz : its.toArray.size = vs.length := by have := rv1.length; simp only [List.size_toArray]; omega
      refine ⟨its.toArray, n, e1, hsz, fun hlt => ?_⟩
      have hil : i < ls.length := by have := rs'.length; omega
      rw [List.drop_eq_getElem_cons hil] at kk'
      obtain ⟨C, gs, sp, ey, hd, hC, kS⟩ := kk'
      obtain ⟨v1, hv1, r1⟩ := rs'.get (List.getElem?_eq_getElem hil)
      obtain ⟨u1, hu1, rvi⟩ := rv1.get hv1
      rw [ey] at r1 kS
      obtain ⟨b, dy, fy, rfl, hb1, rf1⟩ := ins_rep ok' r1 (rfl : insOf (.ins C gs) S' = some (C, gs))
      obtain rfl : u1 = Value.ref b := rvi
      have eb : its.toArray[i] = Value.ref b := by
        rw [List.getElem_toArray]
        exact Option.some.inj ((List.getElem?_eq_getElem _).symm.trans hu1)
      rw [eb]
      obtain ⟨mA, OA, _⟩ := ins_get inv'.hok hb1
      obtain ⟨od, J, _⟩ := OA.look
      obtain ⟨m, fr⟩ := inv'.fr
      obtain ⟨k, f, fd, ps, o, F, hr, hb⟩ := O.at_ C sp hd
      have up : UpF X.K sp [.ref b, .non] H' (fun v H2 => ∃ c, v = .bl c ∧ ∃ S2, Le S' H' S2 H2 ∧ Ok X.K Z S2 H2 ∧ if c = true then R (.bl true) S2 else nonL D l (fun b S' => R (.bl b) S') RE (ls.drop (i + 1)) S2) E := ⟨Z, [.ins C gs, .non], S', _, RE, .cons r1 (.cons .non .nil), ok', kS, fun t S2 v H2 kt le2 ok2 rep => by
        obtain ⟨c, rfl, kt⟩ := kt
        cases rep
        exact ⟨c, rfl, S2, le2, ok2, kt⟩, xo.le le'⟩
      have vv : Vals [V.ref b, V.non] [Value.ref b, Value.none] := .cons rfl (.cons rfl .nil)
      have hl : ([Value.ref b, Value.none] ++ []).length = ps.length := vv.length.symm.trans (F.fn.len _ _ _ _ up)
      refine InLst.eqBool_none ?_
      refine PySem.W.cmp_K (op := .Eq) (tb := .type "NoneType") (by have := hr.in1.un; omega) fr inv'.ok.mod.kin J (PySem.W.Looks.of_pure rfl) (nfF.first nf hC (.inr ⟨"NoneType", rfl, by decide⟩)) o.eq o.fn ?_
      refine wpAny_call (codeAny_mono (F.fn.go X.A.in1 X.stack s' H' ⟨[.ref b, .none], []⟩ ([Value.ref b, Value.none] ++ []) [V.ref b, V.non] _ E (by first | exact gds | simpa [Around.in1] using gds) hr.in1 inv'.env0.in1 (hb s' [.ref b, .none] inv'.kIn hl) (by rw [List.append_nil]; exact vv) up) fun r s2 got => ?_)
      cases r with
      | error er => exact hx pins sl H' s' er s2 inv' got
      | ok fl =>
        cases fl with
        | ret t =>
          obtain ⟨v, H2, I3, rz, c, rfl, S2, l2, o2, q⟩ := inv'.after got
          cases rz
          refine ⟨c, rfl, ?_⟩
          cases c with
          | true => exact ⟨true, rfl, wpAny_pure ⟨.bl true, H2, I3, rfl, po _ _ _ _ q (le'.trans l2) o2 (.bl true)⟩⟩
          | false => exact ⟨H2, S2, I3, o2, le'.trans l2, h1'.le l2, rs'.le l2, by omega, q⟩
        | next => exact got.elim
        | brk => exact got.elim
        | cont => exact got.elim
    · rintro s' ⟨H', S', inv', ok', le', h1', rs', hi, kk'⟩
      rw [List.drop_eq_nil_of_le (by rw [rs'.length]; exact Nat.le_refl _)] at kk'
      exact wpAny_pure ⟨.bl false, H', inv', rfl, po _ _ _ _ kk' le' ok' (.bl false)⟩
end

section
variable {X : Cx} {E : XK} {k i : Nat} {f C : Addr} {fd : FuncData} {ps : List Str} {sp : SpT} {dts : List T} {x : Str} {p pos : Pos} {e : Expr} {es : List Expr} {t : TRA}
/-- cls(a, ..) -/
def rClsMake (i : Nat) (C : Addr) (sp : SpT) (dts : List T) (t : TRA) : TR := fun σ S R RE => σ[i]? = some (some (.st C)) ∧ rMake C sp dts t σ S R RE
theorem et_clsMake (M : Mk X.K C f) (F : FnT X.prog X.w X.K X.mg X.base k f fd ps sp) (gds : X.A.guards = some []) (hr : Room (k + 1) X.A) (hN : X.N[i]? = some x) (hv : Vis X.env.scope x) (cd : CallD X.K fd ps dts) (hx : Passes (L2N.CX X.prog X.w) X E)
    (ha : AT X E (e :: es) t) (hdb : (x == ("__debug__" : Str)) = false := by decide) (hcd : (x == ("__classdict__" : Str)) = false := by decide) (he : starEach (e :: es) X.env = (false, eval e X.env) :: starEach es X.env := by rfl) (hpl : (backTo pos (starEach es X.env)).any (·.1) = false := by rfl) :
    ET X E (.Call (.Name x p) (e :: es) [] pos) (rClsMake i C sp dts t) := by
  refine ⟨⟨fun pins s sl H Q I h => ?_⟩⟩
  obtain ⟨Z, σ, S, R, RE, fr, ok, ⟨hi, w⟩, po, xo⟩ := h.ex
  obtain ⟨ds, dvs, hb, hd, hdt⟩ := cd.ex
  obtain ⟨v0, hv0, rep0⟩ : ∃ v, sl[i]? = some (some v) ∧ Rep X.K Z S H v (.st C) := fr.get hi
  cases rep0
  refine wpAny_Call_Name_kw (thn ((pe_var (pos := p) hN hv hdb hcd).run pins s sl H (fun v H1 => v = .ref C ∧ H1 = H) I ⟨.ref C, hv0, rfl, rfl⟩) fun u s0 ⟨v, H0, I0, r0, q0⟩ => ?_)
  obtain ⟨rfl, rfl⟩ := q0
  cases r0
  refine PySem.W.callWith_K (h₀ := X.base) I.ok.mod.kin M.kp (thn (ha.pa.run pos pins s0 sl H0 (fun vs H1 => ∃ xs S1, (∀ u, S1 u = none → sp (.cell u :: (xs ++ dts)) (S1.put u (.ins C [])) (fun z S2 => z = .non ∧ ∃ gs, S2 u = some (.ins C gs) ∧ R (.ins C gs) (S2.drop u)) RE) ∧ Le S H0 S1 H1 ∧ Ok X.K Z S1 H1 ∧ Reps X.K Z S1 H1 vs xs) I0
    ⟨Z, σ, S, _, RE, fr, ok, w, fun xs S1 vs H1 k1 l1 o1 r1 => ⟨xs, S1, k1, l1, o1, r1⟩, xo⟩) fun us s1 hu => ?_) he hpl
  obtain ⟨vs, H1, I1, rv, xs, S1, k1, l1, o1, r1⟩ := hu
  refine ⟨I1.kIn, ?_⟩
  exact make_t (us := us) (kw := []) (all := fun u => (Value.ref u :: us) ++ ds) (vsA := fun u => .ref u :: (vs ++ dvs)) (G := fun u => .cell u :: (xs ++ dts)) M F gds hr hx I1 (fun s' u hK hl => hb s' (.ref u :: us) hK hl) (fun u => .cons rfl (rv.append hd)) o1
    (fun u S' H' l => cell_reps ((r1.le l).append (hdt _ _ _))) k1 (po.le l1) (xo.le l1)
end
set_option maxHeartbeats 2000000
/-! bool(o) where o's class has a __len__ and no __bool__ -/
namespace TruO
open PySem PySem.Calls PySem.Sem PyProof.Rows Builtin PySem.W
section
variable {prog : Program} {w : World} {A : Around} {E : Value → Shared → Prop} {s : Shared} {K : Frag} {x C L f : Addr} {h₀ : Heap} {m : Str → Option Value} {ox : Obj} {od : Option Obj}
theorem truthy_own {Q : Bool → Shared → Prop} (F : Fr h₀ L s.heap m) (X₀ : K.In h₀) (I : InstAt s.heap x ox C od) (hb : findIn K (.ref C) "__bool__" = some none) (hs : findIn K (.ref C) "__len__" = some (some (.ref f))) (hf : isFn K (.ref f) = true)
    (h : wpAny (model prog w) A.in1 (call (.ref f) [.ref x]) (PySem.W.LenBack (fun v s' => ∃ n t, v = .int n t ∧ Q (n != 0) s')) E s) : wpAny (model prog w) A (truthy (.ref x)) Q E s := by
  have X := X₀.keeps F.keep
  have key : wpAny (model prog w) A (runValue (.builtin "len" ⟨[.ref x], []⟩)) (fun v s' => ∃ n t, v = .int n t ∧ Q (n != 0) s') E s := by
    refine wpAny_runValue (codeAny_builtin entry_len ?_)
    rw [Around.under_plainId plain_len _]
    unfold Builtin.«len»
    refine wpAny_bind (m := oneArg "len" _) (wpAny_pure ?_)
    refine wpAny_bind (m := callSpecial? (.ref x) (Str.ofString "__len__")) (special_fn X I hs (beq_iff_eq.mp hf) (wpAny_mono h (fun r s' hr => ?_) fun _ _ y => y))
    cases r <;> first | exact hr.elim | skip
    rename_i n u
    obtain ⟨⟨h0, h1⟩, hq⟩ := hr
    refine wpAny_bind (wpAny_holding (wpAny_pure ?_))
    refine wpAny_bind (wpAny_letGo ?_)
    show wpAny _ _ (if n < 0 then _ else _) _ _ _
    rw [if_neg (by omega)]
    show wpAny _ _ (if n ≥ 2 ^ 63 then _ else _) _ _ _
    rw [if_neg (by omega)]
    exact wpAny_bind (wpAny_mkInt (wpAny_pure hq))
  unfold truthy
  refine wpAny_bind (m := callSpecial? (.ref x) (Str.ofString "__bool__")) (wpAny_bind (wpAny_bind (I.type.here ((looks_findIn X hb).here (wpAny_pure ?_)))))
  refine wpAny_bind (wpAny_bind (I.type.here ((looks_findIn X hs).here ?_)))
  refine wpAny_bind (wpAny_mono key (fun v s' h' => ?_) fun _ _ e => e)
  obtain ⟨n, t, rfl, q⟩ := h'
  exact wpAny_pure q
theorem meets_bool (x : Addr) : MeetsIn prog w (Builtin.«bool.__new__» ⟨[.type "bool", .ref x], []⟩) (fun A R s => wpAny (model prog w) A.in1 (truthy (.ref x)) (fun b s' => R (.ok (.ret (.bool b))) s') (fun e s' => R (.error e) s') s) :=
  .of_wp fun A R s h => by
    obtain ⟨hp, g, d, tk, os⟩ := s
    have f1 := F.conv_sub_bool
    repeat (any_goals (first | assumption | (with_reducible refine wpAny_bind (wpAny_mono h (fun b s' q => ?_) fun _ _ e => e)) | wp_step))
    exact ⟨_, rfl, q⟩
theorem call_bool {Q : Value → Shared → Prop} (FF : Fr h₀ L s.heap m) (X₀ : K.In h₀) (I : InstAt s.heap x ox C od) (hb : findIn K (.ref C) "__bool__" = some none) (hs : findIn K (.ref C) "__len__" = some (some (.ref f))) (hf : isFn K (.ref f) = true)
    (h : wpAny (model prog w) A.in1.in1.in1 (call (.ref f) [.ref x]) (PySem.W.LenBack (fun v s' => ∃ n t, v = .int n t ∧ Q (.bool (n != 0)) s')) E s) : wpAny (model prog w) A (call (.type "bool") [.ref x]) Q E s := by
  refine callType_newIn F.called_bool F.newNe_bool (F.typeCall_bool_1 (.ref x)) (F.newCall_bool_1 (.ref x)) (fun obj => F.args_object_init_2 obj (.ref x)) F.entry_bool_new (meets_bool x) ?_
  refine truthy_own FF X₀ I hb hs hf (wpAny_mono h (fun v s' q => ?_) fun _ _ e => e)
  cases v <;> first | exact q.elim | skip
  obtain ⟨q0, n, t, e, q⟩ := q
  exact ⟨q0, n, t, e, ⟨rfl, q⟩⟩
end
end TruO
/-! ### bool(o) by the class's own __len__ -/
theorem Room.in3 {k : Nat} {A : Around} (r : Room (k + 1) A) : Room k A.in1.in1.in1 :=
  ⟨r.hd, by have := r.dp; show A.depth + 3 * k + 5 < _; omega, by have := r.un; show A.units + 1 + 1 + 1 + 16 * k + 200 < _; omega⟩
def RBoolOwn (K : PySem.W.Frag) (C : Addr) (sp : SpT) : List V → Hp → VK → Prop := fun vs H Q => ∃ a dx fs, vs = [.ref a] ∧ H a = some (.ins C dx fs) ∧ UpF K sp [.ref a] H (fun v H' => ∃ i, v = .int i ∧ 0 ≤ i ∧ i < 2 ^ 63 ∧ Q (.bl (i != 0)) H') EF
def kBoolOwn (C : Addr) (sp : SpT) : KA := fun xs S R _ => ∃ x gs, xs = [x] ∧ insOf x S = some (C, gs) ∧ sp [x] S (fun z S' => ∃ i, z = .int i ∧ 0 ≤ i ∧ i < 2 ^ 63 ∧ R (.bl (i != 0)) S') XF
theorem cv_boolOwn {K : PySem.W.Frag} {E : XK} {C : Addr} {sp : SpT} : ConvA K E (kBoolOwn C sp) (RBoolOwn K C sp) := by
  intro Z xs S vs H R RE Q ok rs ⟨x, gs, e, hi, k⟩ po xo
  subst e
  cases rs with
  | cons r rr =>
    cases rr
    obtain ⟨a, dx, fs, rfl, hH, _⟩ := ins_rep ok r hi
    refine ⟨a, dx, fs, rfl, hH, Z, [x], S, _, XF, .cons r .nil, ok, k, fun z S' v H' kz le ok' rep => ?_, .f⟩
    obtain ⟨i, rfl, i0, i1, kz⟩ := kz
    cases rep
    exact ⟨i, rfl, i0, i1, po _ _ _ _ kz le ok' (.bl _)⟩
section
variable {X : Cx} {E : XK} {C f : Addr} {fd : FuncData} {k : Nat} {ps : List Str} {sp : SpT}
theorem boolOwnT (nb : PySem.W.findIn X.K (.ref C) "__bool__" = some none) (O : OwnDef X.K C "__len__" f) (F : FnT X.prog X.w X.K X.mg X.base k f fd ps sp) (gds : X.A.guards = some []) (hr : Room (k + 1) X.A) (hb : Binds X.K fd ps []) : CallR X (.type "bool") (RBoolOwn X.K C sp) := by
  intro pins s sl H xs us Q inv vals want
  obtain ⟨x, dx, fs, rfl, hx, h⟩ := want
  obtain ⟨u, rfl, ru⟩ := vals1 vals
  obtain rfl : u = Value.ref x := ru
  obtain ⟨mA, OA, _⟩ := ins_get inv.hok hx
  obtain ⟨od, J, _⟩ := OA.look
  obtain ⟨m, fr⟩ := inv.fr
  have hl : ([Value.ref x] ++ []).length = ps.length := by
    rw [← F.fn.len _ _ _ _ h]
    rfl
  refine TruO.call_bool fr inv.ok.mod.kin J nb O.at_ O.fn ?_
  refine wpAny_call (codeAny_mono (F.fn.go X.A.in1.in1.in1 X.stack s H ⟨[.ref x], []⟩ ([Value.ref x] ++ []) [.ref x] _ _ (by first | exact gds | simpa [Around.in1] using gds) (Room.in3 hr) inv.env0.in1.in1.in1 (hb s [.ref x] inv.kIn hl) (.cons rfl .nil) h) fun r s' hq => ?_)
  cases r with
  | error e => exact (passN (X := X.nox) pins sl H s e s' (inv.wish _) hq).elim
  | ok fl =>
    cases fl with
    | ret u =>
      obtain ⟨v, H', I3, rv, ⟨i, ei, i0, i1, q⟩⟩ := inv.after hq
      subst ei
      obtain ⟨t, rfl⟩ := (show ∃ t, u = Value.int i t from rv)
      exact ⟨⟨i0, i1⟩, i, _, rfl, .bl (i != 0), H', I3.tok (s'.toks + 1), rfl, q⟩
    | next => exact False.elim hq
    | brk => exact False.elim hq
    | cont => exact False.elim hq
end

/-! list(zip(tuple, list)) -/
namespace ZipL
open PySem PySem.Spec PyProof.Rows
section
variable {prog : Program} {w : World} {A : Around} {E : Value → Shared → Prop} {s : Shared}
theorem next_item_held {z TI TO T i1 i2 l1 l2 : Addr} {f : Bool} {oT : Obj} {k1 k2 : Nat} {xs ys : Array Value} {x y : Value} {Q : Value → Shared → Prop} (D : ZipApart z TI TO i1 i2 l1 l2)
    (hz : IsZipHeld s.heap z TI TO T f) (hT : s.heap.get? T = some oT) (hTI : IsPair s.heap TI (.ref i1) (.ref i2))
    (h1 : s.heap.IsTupleIter i1 l1 k1) (h2 : s.heap.IsListIter i2 l2 k2) (hl1 : s.heap.IsTuple l1 xs) (hl2 : s.heap.IsList l2 ys) (hx : xs[k1]? = some x) (hy : ys[k2]? = some y)
    (hQ : ∀ h', IsZipHeld h' z TI TO T true → h'.IsTupleIter i1 l1 (k1 + 1) → h'.IsListIter i2 l2 (k2 + 1) → IsPair h' s.heap.objs.size x y → h'.objs.size = s.heap.objs.size + 1 →
      (∀ c o, c ≠ z → c ≠ i1 → c ≠ i2 → s.heap.get? c = some o → h'.get? c = some o) → Q (.ref s.heap.objs.size) { s with heap := h' }) :
    wpAny (model prog w) A (Builtin.«zip.__next__» ⟨[.ref z], []⟩) (fun fin s' => ∃ v, fin = .done (.ret v) ∧ Q v s') E s := by
  show wpAny _ _ (field (.ref z) 2 >>= _) _ _ _
  refine wpAny_bind (wpAny_field hz rfl (x := .bool false) rfl ?_)
  show wpAny _ _ (field (.ref z) 3 >>= _) _ _ _
  refine wpAny_bind (wpAny_field hz rfl (x := .ref TI) rfl ?_)
  refine wpAny_bind (wpAny_seqItems hTI rfl ?_)
  show wpAny _ _ (Builtin.SmallTypes.ownedTupleIsFree (.ref z) >>= _) _ _ _
  refine wpAny_bind (wpAny_tupleHeld_zip hz hT fun h₁ hz₁ hs₁ => ?_)
  simp only [Bool.false_eq_true, if_false]
  refine wpAny_bind ?_
  rw [← Array.forIn_toList]
  simp only [List.forIn_cons, List.forIn_nil]
  refine wpAny_bind (wpAny_bind (wpAny_holding ?_))
  show wpAny _ _ (Builtin.SmallTypes.nextOf (.ref i1) >>= _) _ _ _
  refine wpAny_bind (wpAny_nextOf_tuple_item (s := { s with heap := h₁ }) (h1.extBut hs₁.extBut D.i1z) (hl1.extBut hs₁.extBut D.l1z) hx fun h₂ h1₂ hs₂ => wpAny_pure ?_)
  refine wpAny_pure ?_
  refine wpAny_bind (wpAny_bind (wpAny_holding ?_))
  show wpAny _ _ (Builtin.SmallTypes.nextOf (.ref i2) >>= _) _ _ _
  refine wpAny_bind (wpAny_nextOf_list_item (s := { s with heap := h₂ }) ((h2.extBut hs₁.extBut D.i2z).extBut hs₂.extBut D.i12.symm) ((hl2.extBut hs₁.extBut D.l2z).extBut hs₂.extBut D.l2i1) hy fun h₃ h2₃ hs₃ => wpAny_pure ?_)
  refine wpAny_pure (wpAny_pure ?_)
  show wpAny _ _ (newTuple [x, y] >>= _) _ _ _
  refine wpAny_bind (wpAny_newTuple ?_)
  have hsz : h₃.objs.size = s.heap.objs.size := by rw [hs₃.1, hs₂.1, hs₁.1]
  have hz₃ : IsZipHeld h₃ z TI TO T true := hs₃.extBut _ _ D.i2z.symm (hs₂.extBut _ _ D.i1z.symm hz₁)
  have hk : ∀ c o, c ≠ z → c ≠ i1 → c ≠ i2 → s.heap.get? c = some o → h₃.get? c = some o := fun c o c1 c2 c3 e => hs₃.extBut _ _ c3 (hs₂.extBut _ _ c2 (hs₁.extBut _ _ c1 e))
  have h1₃ : h₃.IsTupleIter i1 l1 (k1 + 1) := h1₂.extBut hs₃.extBut D.i12
  refine wpAny_pure ⟨_, rfl, ?_⟩
  show Q (.ref h₃.objs.size) _
  have hp : IsPair (h₃.push { cls := .type "tuple", data := .seq #[x, y] }) h₃.objs.size x y := Heap.get?_push_size _ rfl
  have hz4 : (h₃.push { cls := .type "tuple", data := .seq #[x, y] }).objs.size = h₃.objs.size + 1 := Heap.size_push ..
  rw [hsz] at hp hz4 ⊢
  exact hQ _ (Heap.get?_push_of_some _ hz₃) (h1₃.at fun o e => Heap.get?_push_of_some _ e) (h2₃.at fun o e => Heap.get?_push_of_some _ e) hp hz4 fun c o c1 c2 c3 e => Heap.get?_push_of_some _ (hk c o c1 c2 c3 e)
theorem next_end_held {z TI TO T i1 i2 l1 l2 : Addr} {f : Bool} {oT : Obj} {k1 k2 : Nat} {xs ys : Array Value} {Q : Fin → Shared → Prop} (hh : A.handled = none) (D : ZipApart z TI TO i1 i2 l1 l2)
    (hz : IsZipHeld s.heap z TI TO T f) (hT : s.heap.get? T = some oT) (hTI : IsPair s.heap TI (.ref i1) (.ref i2))
    (h1 : s.heap.IsTupleIter i1 l1 k1) (h2 : s.heap.IsListIter i2 l2 k2) (hl1 : s.heap.IsTuple l1 xs) (hl2 : s.heap.IsList l2 ys) (hend : xs[k1]? = none ∨ ys[k2]? = none)
    (hE : ∀ h' e, (∀ c o, c ≠ z → c ≠ i1 → c ≠ i2 → s.heap.get? c = some o → h'.get? c = some o) → (∃ o, h'.get? e = some o ∧ o.cls = .type "StopIteration") → E (.ref e) { s with heap := h' }) :
    wpAny (model prog w) A (Builtin.«zip.__next__» ⟨[.ref z], []⟩) Q E s := by
  show wpAny _ _ (field (.ref z) 2 >>= _) _ _ _
  refine wpAny_bind (wpAny_field hz rfl (x := .bool false) rfl ?_)
  show wpAny _ _ (field (.ref z) 3 >>= _) _ _ _
  refine wpAny_bind (wpAny_field hz rfl (x := .ref TI) rfl ?_)
  refine wpAny_bind (wpAny_seqItems hTI rfl ?_)
  show wpAny _ _ (Builtin.SmallTypes.ownedTupleIsFree (.ref z) >>= _) _ _ _
  refine wpAny_bind (wpAny_tupleHeld_zip hz hT fun h₁ hz₁ hs₁ => ?_)
  simp only [Bool.false_eq_true, if_false]
  refine wpAny_bind ?_
  rw [← Array.forIn_toList]
  simp only [List.forIn_cons, List.forIn_nil]
  refine wpAny_bind (wpAny_bind (wpAny_holding ?_))
  show wpAny _ _ (Builtin.SmallTypes.nextOf (.ref i1) >>= _) _ _ _
  cases hx : xs[k1]? with
  | none =>
    refine wpAny_bind (wpAny_nextOf_tuple_end (s := { s with heap := h₁ }) hh (h1.extBut hs₁.extBut D.i1z) (hl1.extBut hs₁.extBut D.l1z) hx fun h₂ e hs₂ he => ?_)
    exact hE h₂ e (fun c o c1 c2 _ x => hs₂ _ _ c2 (hs₁.extBut _ _ c1 x)) he
  | some x =>
    have hy : ys[k2]? = none := by rcases hend with h | h; rw [hx] at h; cases h; exact h
    refine wpAny_bind (wpAny_nextOf_tuple_item (s := { s with heap := h₁ }) (h1.extBut hs₁.extBut D.i1z) (hl1.extBut hs₁.extBut D.l1z) hx fun h₂ h1₂ hs₂ => wpAny_pure ?_)
    refine wpAny_pure ?_
    refine wpAny_bind (wpAny_bind (wpAny_holding ?_))
    show wpAny _ _ (Builtin.SmallTypes.nextOf (.ref i2) >>= _) _ _ _
    refine wpAny_bind (wpAny_nextOf_list_end (s := { s with heap := h₂ }) hh ((h2.extBut hs₁.extBut D.i2z).extBut hs₂.extBut D.i12.symm) ((hl2.extBut hs₁.extBut D.l2z).extBut hs₂.extBut D.l2i1) hy fun h₃ e hs₃ he => ?_)
    exact hE h₃ e (fun c o c1 c2 c3 x => hs₃ _ _ c3 (hs₂.extBut _ _ c2 (hs₁.extBut _ _ c1 x))) he
theorem pyNext_item_held {z TI TO T i1 i2 l1 l2 : Addr} {f : Bool} {oT : Obj} {k1 k2 : Nat} {xs ys : Array Value} {x y : Value} {Q : Option Value → Shared → Prop} (D : ZipApart z TI TO i1 i2 l1 l2)
    (hz : IsZipHeld s.heap z TI TO T f) (hT : s.heap.get? T = some oT) (hTI : IsPair s.heap TI (.ref i1) (.ref i2))
    (h1 : s.heap.IsTupleIter i1 l1 k1) (h2 : s.heap.IsListIter i2 l2 k2) (hl1 : s.heap.IsTuple l1 xs) (hl2 : s.heap.IsList l2 ys) (hx : xs[k1]? = some x) (hy : ys[k2]? = some y)
    (hQ : ∀ h', IsZipHeld h' z TI TO T true → h'.IsTupleIter i1 l1 (k1 + 1) → h'.IsListIter i2 l2 (k2 + 1) → IsPair h' s.heap.objs.size x y → h'.objs.size = s.heap.objs.size + 1 →
      (∀ c o, c ≠ z → c ≠ i1 → c ≠ i2 → s.heap.get? c = some o → h'.get? c = some o) → Q (some (.ref s.heap.objs.size)) { s with heap := h' }) :
    wpAny (model prog w) A (pyNext (.ref z)) Q E s := by
  have hTy : s.TypeIs (.ref z) "zip" := ⟨_, hz, rfl⟩
  unfold pyNext
  exact wpAny_bind (wpAny_attempt (wpAny_callSpecial?_slot (name := Str.ofString "__next__") hTy F.slot_zip_next
    (wpAny_call_entry F.slot_zip_next hTy F.entry_zip_next
      (next_item_held D hz hT hTI h1 h2 hl1 hl2 hx hy fun h' a1 a3 a4 a5 a6 a7 => wpAny_pure (hQ h' a1 a3 a4 a5 a6 a7)) (F.args_zip_next_1 _))))
theorem pyNext_end_held {z TI TO T i1 i2 l1 l2 : Addr} {f : Bool} {oT : Obj} {k1 k2 : Nat} {xs ys : Array Value} {Q : Option Value → Shared → Prop} (hh : A.handled = none) (D : ZipApart z TI TO i1 i2 l1 l2)
    (hz : IsZipHeld s.heap z TI TO T f) (hT : s.heap.get? T = some oT) (hTI : IsPair s.heap TI (.ref i1) (.ref i2))
    (h1 : s.heap.IsTupleIter i1 l1 k1) (h2 : s.heap.IsListIter i2 l2 k2) (hl1 : s.heap.IsTuple l1 xs) (hl2 : s.heap.IsList l2 ys) (hend : xs[k1]? = none ∨ ys[k2]? = none)
    (hQ : ∀ h', (∀ c o, c ≠ z → c ≠ i1 → c ≠ i2 → s.heap.get? c = some o → h'.get? c = some o) → Q none { s with heap := h' }) : wpAny (model prog w) A (pyNext (.ref z)) Q E s := by
  have hTy : s.TypeIs (.ref z) "zip" := ⟨_, hz, rfl⟩
  unfold pyNext
  refine wpAny_bind (wpAny_attempt (wpAny_callSpecial?_slot (name := Str.ofString "__next__") hTy F.slot_zip_next
    (wpAny_call_entry F.slot_zip_next hTy F.entry_zip_next (next_end_held hh D hz hT hTI h1 h2 hl1 hl2 hend fun h' e hk ⟨o, ho, hc⟩ => ?_) (F.args_zip_next_1 _))))
  exact wpAny_bind (wpAny_isInstance (T := "StopIteration") (b := true) ⟨o, ho, hc⟩ isSubtype_stop (wpAny_pure (hQ _ hk)))
end
theorem zip_no_len : typeLookup (.type "zip") "__len__" = pure none := by rw [typeLookup_type, builtinLookup_eq_fast]; kernel_rfl
theorem zip_no_hint : typeLookup (.type "zip") "__length_hint__" = pure none := by rw [typeLookup_type, builtinLookup_eq_fast]; kernel_rfl
/-- how the zip stands at turn i; S: the list that is filled -/
def Zst (z TI TO i1 i2 a b S : Addr) (i : Nat) (h : Heap) : Prop :=
  IsPair h TI (.ref i1) (.ref i2) ∧ h.IsTupleIter i1 a i ∧ h.IsListIter i2 b i ∧ (∃ o, h.get? TO = some o) ∧
    ((IsZip h z TI TO .none ∧ ∃ x y, IsPair h TO x y) ∨ ∃ T f oT, IsZipHeld h z TI TO T f ∧ h.get? T = some oT ∧ T ≠ z ∧ T ≠ i1 ∧ T ≠ i2 ∧ T ≠ S)
structure ZOff (z TI TO i1 i2 S : Addr) : Prop where
  z : S ≠ z
  TI : S ≠ TI
  TO : S ≠ TO
  i1 : S ≠ i1
  i2 : S ≠ i2
theorem Zst.keep {z TI TO i1 i2 a b S : Addr} {i : Nat} {h h' : Heap} (O : ZOff z TI TO i1 i2 S) (st : Zst z TI TO i1 i2 a b S i h) (k : ∀ c o, c ≠ S → h.get? c = some o → h'.get? c = some o) : Zst z TI TO i1 i2 a b S i h' := by
  obtain ⟨hTI, h1, h2, ⟨oo, ho⟩, hz⟩ := st
  refine ⟨k _ _ O.TI.symm hTI, h1.at fun o e => k _ o O.i1.symm e, h2.at fun o e => k _ o O.i2.symm e, ⟨oo, k _ _ O.TO.symm ho⟩, ?_⟩
  rcases hz with ⟨hz, x, y, hTO⟩ | ⟨T, f, oT, hz, hT, r1, r2, r3, r4⟩
  · exact .inl ⟨k _ _ O.z.symm hz, x, y, k _ _ O.TO.symm hTO⟩
  · exact .inr ⟨T, f, oT, k _ _ O.z.symm hz, k _ _ r4 hT, r1, r2, r3, r4⟩
end ZipL
open ZipL
section
variable {X : Cx} {pins : List (Addr × Obj)} {σ : L2.St} {z TI TO i1 i2 a b S : Addr} {res : Value} {W : Nat → Nat → Hp → Prop} {Q : V → Hp → Prop}
def WStep (K : PySem.W.Frag) (a b S : Addr) (W : Nat → Nat → Hp → Prop) (Q : V → Hp → Prop) : Prop :=
  ∀ i m H, W i m H → ((ItzM K a b).stop i H ∧ Q (.ref S) H) ∨ ((ItzM K a b).go i H ∧ ∃ Nx : Hp → Prop, (∀ H', Nx H' → ∃ m', m' < m ∧ W (i + 1) m' H') ∧
    ∀ x H', (ItzM K a b).yld i H x H' → ∃ acc, H' S = some (.lst acc) ∧ acc.length < sizeLine ∧ Nx (upd H' S (.lst (acc ++ [x]))))
theorem zl_loop {A : Around} {R : Result → Shared → Prop} (hh : A.handled = none) (D : ZipApart z TI TO i1 i2 a b) (O : ZOff z TI TO i1 i2 S) (hW : WStep X.K a b S W Q)
    (fin : ∀ H s', Q (.ref S) H → Inv X pins σ H s' → R (.ok (.ret res)) s') :
    ∀ m i s H, Inv X pins σ H s → (∀ c ∈ [z, TI, TO, i1, i2], FpOk X pins H c) → Zst z TI TO i1 i2 a b S i s.heap → W i m H → codeAny (model X.prog X.w) A (.builtin "list.extend.loop" ⟨[.ref S, .ref z, res], []⟩) R s := by
  intro m
  induction m using Nat.strongRecOn with
  | _ m ih =>
    intro i s H I hf st hw
    refine codeAny_builtin PySem.F.entry_extend_loop ?_
    rw [Around.under_plainId PySem.F.plain_extend_loop _]
    show wpAny _ A.in1 (pyNext (.ref z) >>= _) _ _ _
    obtain ⟨hTI, h1, h2, ⟨oo, hoo⟩, hz⟩ := st
    have hh1 : A.in1.handled = none := hh
    have hh2 : A.in1.in1.handled = none := hh
    rcases hW i m H hw with ⟨⟨xs, ys, hqx, hqy, hend⟩, q⟩ | ⟨⟨xs, ys, x, y, hqx, hqy, hx, hy⟩, Nx, hN, hgo⟩
    · obtain ⟨its, rv, p, _⟩ := I.tuple hqx
      obtain ⟨its2, rv2, p2, _⟩ := I.list hqy
      have l1 := rv.length
      have l2 := rv2.length
      have he : its.toArray[i]? = none ∨ its2.toArray[i]? = none := hend.imp (fun q => by simp; omega) (fun q => by simp; omega)
      have fz : ∀ h', (∀ c o, c ≠ z → c ≠ TO → c ≠ i1 → c ≠ i2 → s.heap.get? c = some o → h'.get? c = some o) → R (.ok (.ret res)) { s with heap := h' } := fun h' hk =>
        fin H _ q (I.turnedL (t' := s.toks) (ch := [z, TI, TO, i1, i2]) (fun c o hb q => hk c o (fun q' => hb (by simp [q'])) (fun q' => hb (by simp [q'])) (fun q' => hb (by simp [q'])) (fun q' => hb (by simp [q'])) q) hf)
      rcases hz with ⟨hz, x0, y0, hTO⟩ | ⟨T, f, oT, hz, hT, r1, r2, r3, r4⟩
      · exact wpAny_bind (ZipM.pyNext_end hh1 D hz hTI hTO h1 h2 p p2.isList he fun h' hk => wpAny_pure (fz h' hk))
      · exact wpAny_bind (pyNext_end_held hh1 D hz hT hTI h1 h2 p p2.isList he fun h' hk => wpAny_pure (fz h' fun c o c1 _ c3 c4 => hk c o c1 c3 c4))
    · obtain ⟨its, rv, p, _⟩ := I.tuple hqx
      obtain ⟨its2, rv2, p2, _⟩ := I.list hqy
      obtain ⟨u, hu, ru⟩ := rv.get hx
      obtain ⟨u2, hu2, ru2⟩ := rv2.get hy
      have hzl : ∀ {c o}, s.heap.get? c = some o → s.heap.objs.size ≠ c := fun e => Nat.ne_of_gt (Heap.lt_size e)
      have n1 : s.heap.objs.size ≠ i1 := let ⟨_, e, _⟩ := h1; hzl e
      have n2 : s.heap.objs.size ≠ i2 := let ⟨_, e, _⟩ := h2; hzl e
      have nz : s.heap.objs.size ≠ z := by rcases hz with ⟨hz, _⟩ | ⟨_, _, _, hz, _⟩ <;> exact hzl hz
      have hy0 : (ItzM X.K a b).yld i H (.ref s.heap.objs.size) (upd H s.heap.objs.size (.tup [x, y])) := ⟨_, x, y, rfl, I.hok.fresh (Nat.le_refl _), rfl, fun l hl => by rw [I.tuple_inj hl hqx]; exact hx, fun l hl => by rw [I.list_inj hl hqy]; exact hy⟩
      obtain ⟨acc, hA, hz2, hNx⟩ := hgo _ _ hy0
      have hS0 : S < s.heap.objs.size := by
        by_cases e : S = s.heap.objs.size
        · subst e; rw [upd_same] at hA; cases hA
        · rw [upd_ne e] at hA; exact I.hok.lt hA
      obtain ⟨m', hm', hW'⟩ := hN _ hNx
      -- what comes behind the draw
      have turn : ∀ (h' : Heap) (tk : Nat), Zst z TI TO i1 i2 a b S (i + 1) h' → IsPair h' s.heap.objs.size u u2 → (∀ c o, c ∉ [z, TI, TO, i1, i2] → s.heap.get? c = some o → h'.get? c = some o) →
          wpAny (model X.prog X.w) A.in1 (updateSeq S (·.push (.ref s.heap.objs.size)) >>= fun _ => (pure (.again (.builtin "list.extend.loop" ⟨[.ref S, .ref z, res], []⟩)) : Sem Fin))
            (fun fin s' => match fin with | .done f => R (.ok f) s' | .again c' => c'.quiet = true ∧ codeAny (model X.prog X.w) A c' R s') (fun e s' => R (.error e) s') { s with heap := h', toks := tk } := by
        intro h' tk st' hp hk
        have new : ObjOk X.prog X.w (upd H s.heap.objs.size (.tup [x, y])) h' s.heap.objs.size (.tup [x, y]) := ⟨by show 2 ≤ sizeLine; decide, [u, u2], .cons ru (.cons ru2 .nil), ⟨_, hp, rfl, _, rfl⟩⟩
        have I1 : Inv X pins σ (upd H s.heap.objs.size (.tup [x, y])) { s with heap := h', toks := tk } := I.turnedNew (t' := tk) (ch := [z, TI, TO, i1, i2]) hk hf (Nat.le_refl _) new
        obtain ⟨zl, itl, nl, rl, hll, el⟩ := I1.lstM hA
        refine wpAny_bind (wpAny_updateSeq el rfl (wpAny_pure ⟨plainId_quiet PySem.F.plain_extend_loop _, ?_⟩) (by rw [List.size_toArray]; omega) (by show (itl.toArray.push _).size ≤ sizeLine + 1; rw [Array.size_push, List.size_toArray]; omega))
        have I2 := I1.lset (its' := itl ++ [.ref s.heap.objs.size]) (ys := acc ++ [.ref s.heap.objs.size]) (f := (·.push (.ref s.heap.objs.size))) (t' := tk) hA el (by simp) (rl.append (.cons (show RelV (V.ref s.heap.objs.size) (Value.ref s.heap.objs.size) from rfl) .nil)) (by rw [List.length_append, List.length_singleton]; omega)
        refine ih m' hm' (i + 1) _ _ I2 (fun c hc => ?_) (st'.keep O fun c o hc e => (Heap.get?_update_other _ _ (Ne.symm hc)).trans e) hW'
        have fc := hf c hc
        have cS : c ≠ S := by
          simp only [List.mem_cons, List.not_mem_nil, or_false] at hc
          rcases hc with rfl | rfl | rfl | rfl | rfl
          · exact O.z.symm
          · exact O.TI.symm
          · exact O.TO.symm
          · exact O.i1.symm
          · exact O.i2.symm
        have cT : c ≠ s.heap.objs.size := by
          simp only [List.mem_cons, List.not_mem_nil, or_false] at hc
          rcases hc with rfl | rfl | rfl | rfl | rfl
          · exact nz.symm
          · exact (hzl hTI).symm
          · exact (hzl hoo).symm
          · exact n1.symm
          · exact n2.symm
        exact ⟨by rw [upd_ne cS, upd_ne cT]; exact fc.1, fc.2⟩
      have ex : its.toArray[i]? = some u := by simpa using hu
      have ey : its2.toArray[i]? = some u2 := by simpa using hu2
      have pt : s.heap.IsTuple a its.toArray := p
      rcases hz with ⟨hz, x0, y0, hTO⟩ | ⟨T, f, oT, hz, hT, r1, r2, r3, r4⟩
      · refine wpAny_bind (wpAny_pyNext_zipD2_item (sep_of D D.l2i1 D.l1i2) (Draws.tuple hh2 i1 a D.l1i1 its.toArray) (Draws.list hh2 i2 b D.l2i2 its2.toArray) hz hTI hTO ⟨h1, pt⟩ ⟨h2, p2.isList⟩ (by have := (List.getElem?_eq_some_iff.mp hu).1; simpa using this) (by have := (List.getElem?_eq_some_iff.mp hu2).1; simpa using this) fun v1 v2 h' tk e1 e2 z' TO' st1 st2 hT hsz hk => ?_)
        obtain rfl : v1 = u := Option.some.inj ((show its.toArray[i]? = some v1 from e1).symm.trans ex)
        obtain rfl : v2 = u2 := Option.some.inj ((show its2.toArray[i]? = some v2 from e2).symm.trans ey)
        exact turn h' tk ⟨hk _ _ D.TIz D.TITO D.TIi1 D.TIi2 hTI, st1.1, st2.1, ⟨_, TO'⟩, .inr ⟨_, false, _, z', hT, nz, n1, n2, Nat.ne_of_gt hS0⟩⟩ hT fun c o hb q => hk c o (fun q' => hb (by simp [q'])) (fun q' => hb (by simp [q'])) (fun q' => hb (by simp [q'])) (fun q' => hb (by simp [q'])) q
      · refine wpAny_bind (pyNext_item_held D hz hT hTI h1 h2 pt p2.isList ex ey fun h' a1 a3 a4 a5 a6 hk => ?_)
        exact turn h' s.toks ⟨hk _ _ D.TIz D.TIi1 D.TIi2 hTI, a3, a4, ⟨_, hk _ _ D.TOz D.TOi1 D.TOi2 hoo⟩, .inr ⟨T, true, oT, a1, hk _ _ r1 r2 r3 hT, r1, r2, r3, r4⟩⟩ a5 fun c o hb q => hk c o (fun q' => hb (by simp [q'])) (fun q' => hb (by simp [q'])) (fun q' => hb (by simp [q'])) q
theorem zl_list {A : Around} {E : Value → Shared → Prop} {s : Shared} {H : Hp} (hh : A.handled = none) (D : ZipApart z TI TO i1 i2 a b) (I : Inv X pins σ H s) (hf : ∀ c ∈ [z, TI, TO, i1, i2], FpOk X pins H c)
    (hz : IsZip s.heap z TI TO .none) (hTI : IsPair s.heap TI (.ref i1) (.ref i2)) (hTO : ∃ x y, IsPair s.heap TO x y) (h1 : s.heap.IsTupleIter i1 a 0) (h2 : s.heap.IsListIter i2 b 0)
    (hD : ∀ D, H D = none → ∃ W : Nat → Nat → Hp → Prop, (∃ m, W 0 m (upd H D (.lst []))) ∧ WStep X.K a b D W Q) : wpAny (model X.prog X.w) A (call (.type "list") [.ref z]) (EP X pins σ Q) E s := by
  refine callType_codes (Q₁ := fun obj s₁ => obj = .ref s.heap.objs.size ∧ s₁ = { s with heap := s.heap.push { cls := .type "list", data := .seq #[] } }) PySem.F.called_list (PySem.F.typeCall_list_1 _) PySem.F.entry_list_init
    (code_list_new _ ⟨rfl, rfl⟩) fun obj s₁ h₁ => ?_
  obtain ⟨rfl, rfl⟩ := h₁
  have hS : (s.heap.push { cls := .type "list", data := .seq #[] }).get? s.heap.objs.size = some { cls := .type "list", data := .seq #[] } := Heap.get?_push_size _ rfl
  have lt : ∀ {c o}, s.heap.get? c = some o → s.heap.objs.size ≠ c := fun e => Nat.ne_of_gt (Heap.lt_size e)
  have O : ZOff z TI TO i1 i2 s.heap.objs.size := ⟨lt hz, lt hTI, by obtain ⟨x, y, e⟩ := hTO; exact lt e, by obtain ⟨_, e, _⟩ := h1; exact lt e, by obtain ⟨_, e, _⟩ := h2; exact lt e⟩
  have st0 : Zst z TI TO i1 i2 a b s.heap.objs.size 0 s.heap := ⟨hTI, h1, h2, by obtain ⟨x, y, e⟩ := hTO; exact ⟨_, e⟩, .inl ⟨hz, hTO⟩⟩
  refine ⟨⟨_, hS, rfl⟩, PySem.F.args_list_init_2 _ _, ?_⟩
  generalize hn : s.heap.objs.size = S at *
  show wpAny _ _ (do let old ← Builtin.List.listItems (.ref S); Builtin.List.listUpdate (.ref S) (fun _ => #[]); letGo old.toList.reverse; Builtin.List.listExtendWith (.ref S) (.ref z) .none) _ _ _
  refine wpAny_bind ?_
  unfold Builtin.List.listItems
  refine wpAny_bind (wpAny_seqItems hS rfl (wpAny_pure ?_))
  show wpAny _ _ (updateSeq S (fun _ => #[]) >>= fun _ => letGo (#[] : Array Value).toList.reverse >>= fun _ => Builtin.List.listExtendWith (.ref S) (.ref z) .none) _ _ _
  refine wpAny_bind (wpAny_updateSeq hS rfl ?_)
  have hS₂ := Heap.get?_update_self (Obj.mapSeq (fun _ => (#[] : Array Value))) hS rfl
  refine wpAny_bind (wpAny_letGo ?_)
  have k1 : ∀ c o, c ≠ S → s.heap.get? c = some o → ((s.heap.push { cls := .type "list", data := .seq #[] }).update S (Obj.mapSeq (fun _ => (#[] : Array Value)))).get? c = some o := fun c o hc e =>
    (Heap.get?_update_other _ _ (Ne.symm hc)).trans (Heap.get?_push_of_some _ e)
  have hz1 := k1 _ _ O.z.symm hz
  unfold Builtin.List.listExtendWith
  refine wpAny_bind (wpAny_typeOf (T := "zip") ⟨_, hz1, rfl⟩ ?_)
  have e1 : Builtin.List.listSameRef (.ref S) (.ref z) = false := by simp [Builtin.List.listSameRef, O.z]
  have e2 : (Value.type "zip" == Value.type "list") = false := by decide
  have e3 : (Value.type "zip" == Value.type "tuple") = false := by decide
  simp only [e1, e2, e3, Bool.or_false, Bool.false_eq_true, if_false]
  refine wpAny_bind (wpAny_pyIter_zip hz1 ?_)
  refine wpAny_bind (wpAny_holding ?_)
  unfold Builtin.List.listLengthHint
  refine wpAny_bind (wpAny_specialOf (T := "zip") ⟨_, hz1, rfl⟩ zip_no_len ?_)
  show wpAny _ _ (specialOf (Value.ref z) (Str.ofString "__length_hint__") >>= _) _ _ _
  refine wpAny_bind (wpAny_specialOf (T := "zip") ⟨_, hz1, rfl⟩ zip_no_hint ?_)
  refine wpAny_pure ?_
  show wpAny _ _ (rule "list.extend.makes-room" >>= fun _ => Builtin.List.listTouch (.ref S) >>= fun _ =>
    again (.builtin "list.extend.loop" ⟨[.ref S, .ref z, .none], []⟩)) _ _ _
  refine wpAny_bind (wpAny_rule ?_)
  refine wpAny_bind ?_
  show wpAny _ _ (updateSeq S (·.push .none) >>= fun _ => updateSeq S (·.pop)) _ _ _
  refine wpAny_bind (wpAny_updateSeq hS₂ rfl ?_)
  have hS₃ := Heap.get?_update_self (Obj.mapSeq (·.push Value.none)) hS₂ rfl
  refine wpAny_updateSeq (hz := by seq_fits) hS₃ rfl ?_
  have hS₄ := Heap.get?_update_self (Obj.mapSeq (·.pop)) hS₃ rfl
  have k2 : ∀ c o, c ≠ S → s.heap.get? c = some o → ((((s.heap.push { cls := .type "list", data := .seq #[] }).update S (Obj.mapSeq (fun _ => (#[] : Array Value)))).update S (Obj.mapSeq (·.push Value.none))).update S (Obj.mapSeq (·.pop))).get? c = some o := fun c o hc e =>
    (Heap.get?_update_other _ _ (Ne.symm hc)).trans ((Heap.get?_update_other _ _ (Ne.symm hc)).trans (k1 c o hc e))
  have hN : H S = none := I.hok.fresh (by rw [hn]; exact Nat.le_refl _)
  obtain ⟨W, ⟨m, w0⟩, hW⟩ := hD S hN
  have I1 : Inv X pins σ (upd H S (.lst [])) { s with heap := (((s.heap.push { cls := .type "list", data := .seq #[] }).update S (Obj.mapSeq (fun _ => (#[] : Array Value)))).update S (Obj.mapSeq (·.push Value.none))).update S (Obj.mapSeq (·.pop)), toks := s.toks } :=
    I.laid (t' := s.toks) (fun c o e => k2 c o (lt e).symm e) (by rw [hn]; exact Nat.le_refl _) ⟨Nat.zero_le _, [], _, .nil, hS₄⟩
  refine wpAny_pure ⟨plainId_quiet PySem.F.plain_extend_loop _, zl_loop (Q := Q) (A := A.in1) hh D O hW (fun H' s' q I' => ⟨rfl, V.ref S, H', I', rfl, q⟩) m 0 _ _ I1 (fun c hc => ?_) (st0.keep O k2) w0⟩
  have fc := hf c hc
  have cS : c ≠ S := by
    simp only [List.mem_cons, List.not_mem_nil, or_false] at hc
    rcases hc with rfl | rfl | rfl | rfl | rfl
    · exact O.z.symm
    · exact O.TI.symm
    · exact O.TO.symm
    · exact O.i1.symm
    · exact O.i2.symm
  exact ⟨by rw [upd_ne cS]; exact fc.1, fc.2⟩
end
def rLzV (K : PySem.W.Frag) (ta : TA) : TE := fun σ H Q => ta σ H fun vs H1 => ∃ a b, vs = [.ref a, .ref b] ∧ (∃ xs, SqT K H1 a xs) ∧ (∃ ys, SqL K H1 b ys) ∧ ∀ D, H1 D = none → ∃ W : Nat → Nat → Hp → Prop, (∃ m, W 0 m (upd H1 D (.lst []))) ∧ WStep K a b D W Q
theorem pe_lz {X : Cx} {e e2 : Expr} {ta : TA} {p p2 pos pos2 : Pos} (hgl : Gl X "list") (hml : X.mg "list" = none) (hg : Gl X "zip") (hm : X.mg "zip" = none) (hc : X.calm = true) (ha : PA X [e, e2] ta)
    (hs : starEach [e, e2] X.env = (false, eval e X.env) :: starEach [e2] X.env := by rfl) (hpl : (backTo pos2 (starEach [e2] X.env)).any (·.1) = false := by rfl)
    (hs1 : starEach [.Call (.Name "zip" p2) [e, e2] [] pos2] X.env = (false, eval (.Call (.Name "zip" p2) [e, e2] [] pos2) X.env) :: starEach [] X.env := by rfl) :
    PE X (.Call (.Name "list" p) [.Call (.Name "zip" p2) [e, e2] [] pos2] [] pos) (rLzV X.K ta) := by
  refine ⟨fun pins s σ H Q I h => ?_⟩
  refine wpAny_Call_Name_kw (ld_blt I hgl hml PyProof.Rows.boot_list ?_ (by decide) (by decide))
  refine PyProof.Rows.callWith_type1 ?_ hs1 rfl
  rw [hs1]
  show wpAny _ _ (spliced ((false, eval _ X.env) :: backTo pos (starEach [] X.env))) _ _ s
  refine Calls.spliced_cons (Call_ (ld_blt I hg hm PyProof.Rows.boot_zip (PyProof.Rows.callWith_type1 (thn (ha.run pos2 pins s σ H _ I h) fun us s1 ⟨vs, H1, I1, r1, q1⟩ => ?_) hs hpl)))
  obtain ⟨a, b, rfl, ⟨xs, hqx⟩, ⟨ys, hqy⟩, q⟩ := q1
  cases r1 with
  | cons r rr =>
    cases rr with
    | cons r' rr =>
      cases rr
      cases r
      cases r'
      obtain ⟨its, _, p1, _⟩ := I1.tuple hqx
      obtain ⟨its2, _, p2, _⟩ := I1.list hqy
      have pt : s1.heap.IsTuple a its.toArray := p1
      have la : a < s1.heap.objs.size := by obtain ⟨o, ho, _⟩ := pt; exact Heap.lt_size ho
      refine ZipM.call_zip pt p2.isList fun h' hz hTI hTO h1 h2 hk => Calls.spliced_nil ?_
      have I2 : Inv X pins σ H1 { s1 with heap := h' } := I1.kept (t' := s1.toks) hk
      refine zl_list (s := { s1 with heap := h' }) (I1.ok.hd hc) (PySem.W.ktu_apart s1.heap.objs.size a b la p2.lt) I2 (fun c hcm => ?_) hz hTI ⟨_, _, hTO⟩ h1 h2 q
      have e' : c = s1.heap.objs.size + 4 ∨ c = s1.heap.objs.size + 2 ∨ c = s1.heap.objs.size + 3 ∨ c = s1.heap.objs.size ∨ c = s1.heap.objs.size + 1 := by simpa using hcm
      have hle : s1.heap.objs.size ≤ c := by rcases e' with z | z | z | z | z <;> rw [z] <;> first | exact Nat.le_refl _ | exact Nat.le_add_right _ _
      exact I1.fpOk hle (I1.hok.fresh hle)
theorem lz_turns {K : PySem.W.Frag} {Z : Addr → Prop} {S1 : Store} {H1 : Hp} {a b : Addr} {ts : List T} {Q : VK} (ok1 : Ok K Z S1 H1) (src : SrcOk K Z S1 H1 (ItzM K a b) ts) (hl : ts.length ≤ sizeLine)
    (po : ∀ v H', Le S1 H1 S1 H' → Ok K Z S1 H' → Rep K Z S1 H' v (.lst ts) → Q v H') : ∀ D, H1 D = none → ∃ W : Nat → Nat → Hp → Prop, (∃ m, W 0 m (upd H1 D (.lst []))) ∧ WStep K a b D W Q := by
  intro D hD
  have hz := hid_a (Z := Z) hD
  let In : Nat → Hp → Prop := fun i H' => ∃ accV, Ok K (hideA Z D) S1 H' ∧ Le S1 H1 S1 H' ∧ H' D = some (.lst accV) ∧ Reps K (hideA Z D) S1 H' accV (ts.take i)
  refine ⟨fun i m H' => m = ts.length - i ∧ i ≤ ts.length ∧ In i H', ⟨_, rfl, Nat.zero_le _, [], ok1.hide hD, le_new hD, upd_same, .nil⟩, ?_⟩
  rintro i m H' ⟨rfl, hi, accV, ok', le', hd, rs⟩
  obtain ⟨go, stop⟩ := src _ S1 H' hz le' ok'
  by_cases hlt : i < ts.length
  · refine .inr ?_
    obtain ⟨g1, g2⟩ := go i ts[i] (List.getElem?_eq_getElem hlt)
    refine ⟨g1, In (i + 1), fun H2 h2 => ⟨_, by omega, rfl, hlt, h2⟩, fun x H2 y => ?_⟩
    obtain ⟨l2, o2, rep⟩ := g2 x H2 y
    have hd2 := (l2 D _ hd (ok'.hid D (.inr rfl)).1).1
    have lz : LeZ (hideA Z D) S1 H2 S1 (upd H2 D (.lst (accV ++ [x]))) := lz_hid
    refine ⟨accV, hd2, by have := rs.length; rw [List.length_take] at this; omega, _, o2.hidSet, fun a o h n => ?_, upd_same, ?_⟩
    · have := (le'.trans l2) a o h n
      rw [upd_ne (ne_of_none h hD)]
      exact this
    · rw [List.take_add_one, List.getElem?_eq_getElem hlt]
      exact ((rs.le l2).append (.cons rep .nil)).lz lz
  · have e : i = ts.length := by omega
    subst e
    rw [List.take_length] at rs
    refine .inl ⟨stop _ (Nat.le_refl _), po _ H' le' ok'.show ?_⟩
    exact .lst ⟨hd, (ok'.hid D (.inr rfl)).1, fun z => by
      obtain ⟨_, o, e⟩ := ok1.hid D z
      rw [hD] at e; cases e⟩ rs.show
def rLz (t : TRA) : TR := fun σ S R RE => t σ S (fun xs S1 => ∃ ts us y, xs = [.tup ts, y] ∧ ((y = .lst us) ∨ y = .scr us) ∧ (zipT ts us).length ≤ sizeLine ∧ R (.lst (zipT ts us)) S1) RE
theorem et_lz {X : Cx} {E : XK} {e e2 : Expr} {t : TRA} {p p2 pos pos2 : Pos} (hgl : Gl X "list") (hml : X.mg "list" = none) (hg : Gl X "zip") (hm : X.mg "zip" = none) (hc : X.calm = true) (ha : AT X E [e, e2] t)
    (hs : starEach [e, e2] X.env = (false, eval e X.env) :: starEach [e2] X.env := by rfl) (hpl : (backTo pos2 (starEach [e2] X.env)).any (·.1) = false := by rfl)
    (hs1 : starEach [.Call (.Name "zip" p2) [e, e2] [] pos2] X.env = (false, eval (.Call (.Name "zip" p2) [e, e2] [] pos2) X.env) :: starEach [] X.env := by rfl) :
    ET X E (.Call (.Name "list" p) [.Call (.Name "zip" p2) [e, e2] [] pos2] [] pos) (rLz t) :=
  ⟨pe_weak (pe_lz hgl hml hg hm hc ha.pa hs hpl hs1) fun sl H Q ⟨⟨Z, σ, S, R, RE, fr, ok, w, po, xo⟩⟩ => ⟨Z, σ, S, _, RE, fr, ok, w, fun xs S1 vs H1 k le ok1 rep => by
    obtain ⟨ts, us, y, rfl, hy, hl, k⟩ := k
    cases rep with
    | cons r rr =>
      cases rr with
      | cons r2 rr =>
        cases rr
        cases r with
        | tup h1 r1 =>
          rcases hy with rfl | rfl
          · cases r2 with
            | lst h2 r2 => exact ⟨_, _, rfl, ⟨_, h1.sq⟩, ⟨_, h2.sq⟩, lz_turns ok1 (src_zip h1.sq h1 r1 (.inl h2) r2) hl fun v H' l o rep => po _ S1 _ H' k (le.trans l) o rep⟩
          · cases r2 with
            | scr h2 r2 => exact ⟨_, _, rfl, ⟨_, h1.sq⟩, ⟨_, h2.sq⟩, lz_turns ok1 (src_zip h1.sq h1 r1 (.inr h2) r2) hl fun v H' l o rep => po _ S1 _ H' k (le.trans l) o rep⟩, xo⟩⟩

/-! ### repr of None, a bool, an int, a text, or of data -/
inductive ShV : V → T → Str → Prop where
  | non : ShV .non .non "None"
  | bl (b : Bool) : ShV (.bl b) (.bl b) (if b = true then Str.ofString "True" else Str.ofString "False")
  | int {i : Int} (h : i.natAbs < 2 ^ 1900) : ShV (.int i) (.int i) (toString i : String)
  | str {x : Str} (h : (reprText x).length ≤ 16777216) : ShV (.str x) (.str x) (reprText x)
def RReprA (K : PySem.W.Frag) (xs : List V) (H : Hp) (Q : VK) : Prop := RRepr K xs H Q ∨ ∃ (v : V) (x : T) (t : Str), xs = [v] ∧ ShV v x t ∧ Q (.str t) H
theorem reprAll {X : Cx} (gds : X.A.guards = some []) (room : X.A.units + 70 < cLine) : CallR X (.builtin "repr") (RReprA X.K) := by
  intro pins st sl H xs us Q inv vals want
  rcases want with want | ⟨v, x, t, e, sh, q⟩
  · exact reprData gds room pins st sl H xs us Q inv vals want
  subst e
  obtain ⟨u, eu, rel⟩ := vals1 vals
  subst eu
  cases sh with
  | non =>
    cases rel
    exact PySem.P.repr_of_none ⟨.str _, H, inv.tok _, ⟨_, rfl⟩, q⟩
  | bl b =>
    cases rel
    exact PySem.P.repr_of_bool ⟨.str _, H, inv.tok _, ⟨_, rfl⟩, q⟩
  | @int i h =>
    obtain ⟨tk, rfl⟩ := rel
    exact PySem.P.repr_of_int (Nat.lt_of_lt_of_le (PySem.Flt.log2_lt_of (by decide) h) (by decide)) ⟨.str _, H, inv.tok _, ⟨_, rfl⟩, q⟩
  | @str x h =>
    obtain ⟨tk, rfl⟩ := rel
    exact PySem.P.repr_of_str ⟨.str _, H, inv.tok _, ⟨_, rfl⟩, q⟩ (by rw [sizeLine_eq]; exact h)
def kReprA : KA := fun xs S R RE => kRepr xs S R RE ∨ ∃ (v : V) (x : T) (t : Str), xs = [x] ∧ ShV v x t ∧ R (.str t) S
theorem cv_reprA {X : Cx} {E : XK} : ConvA X.K E kReprA (RReprA X.K) := by
  intro Z xs S vs H R RE Q ok rs k po xo
  rcases k with k | ⟨v, x, t, e, sh, k⟩
  · exact .inl (cv_repr (X := X) (E := E) Z xs S vs H R RE Q ok rs k po xo)
  subst e
  cases rs with
  | cons r rr =>
    cases rr
    cases sh with
    | non => cases r; exact .inr ⟨_, _, _, rfl, .non, po _ _ _ _ k .refl ok (.str _)⟩
    | bl b => cases r; exact .inr ⟨_, _, _, rfl, .bl b, po _ _ _ _ k .refl ok (.str _)⟩
    | int h => cases r; exact .inr ⟨_, _, _, rfl, .int h, po _ _ _ _ k .refl ok (.str _)⟩
    | str h => cases r; exact .inr ⟨_, _, _, rfl, .str h, po _ _ _ _ k .refl ok (.str _)⟩
theorem reprA_int {i : Int} {S : Store} {R : T → Store → Prop} {RE : XT} (h : i.natAbs < 2 ^ 1900) (q : R (.str (Str.ofString (toString i))) S) : kReprA [.int i] S R RE := .inr ⟨_, _, _, rfl, .int h, q⟩

/-! (a, ..) == (b, ..), the items instances of a family of classes with own __eq__ -/
namespace TupEq
open PySem PySem.SeqAt
open MeetsSeq MeetsSeq2 MeetsSeq3 SeqRoads2
section
variable {prog : Program} {w : World} {A : Around} {R : Result → Shared → Prop}
theorem body (l b : Addr) (items items2 : Array Value) (n n2 : Nat) (dd dd2 : Option Addr) (sl sl2 : Array (Option Value)) (I : List (Value × Value) → Shared → Prop)
    (turn : ∀ x y rest s, I ((x, y) :: rest) s → wpAny (model prog w) A.in1 (eqBool x y) (fun r s' => if r = true then I rest s' else R (.ok (.ret (.bool false))) s') (fun e s' => R (.error e) s') s)
    (fin : ∀ s, I [] s → R (.ok (.ret (.bool (items.size == items2.size)))) s) {s : Shared} (hl1 : s.heap.get? l = some { cls := .type "tuple", dict := dd, data := .seq items n, slots := sl }) (hb1 : s.heap.get? b = some { cls := .type "tuple", dict := dd2, data := .seq items2 n2, slots := sl2 })
    (h : I (items.toList.zip items2.toList) s) :
    wpAny (model prog w) A.in1 (Builtin.«tuple.__eq__» ⟨[.ref l, .ref b], []⟩) (GQ.FinOf prog w A R) (fun e s' => R (.error e) s') s := by
  have f2 := PySem.AutoSeq1.sub_tuple_tuple
  have h0 := h
  obtain ⟨hp, g, d, tk, os⟩ := s
  wp_walk using PySem.AutoSeq1.wpAny_loadPart' hl1, PySem.AutoSeq1.wpAny_loadPart' hb1, wpAny_forIn_list _ (fun rest b s' => b.1 = none ∧ I rest s') _
  case turn =>
    rintro ⟨y, x⟩ rest b s' ⟨hb', hI⟩
    refine wpAny_bind (wpAny_mono (turn y x rest s' hI) (fun r s2 q2 => ?_) fun _ _ x => x)
    cases r with
    | true =>
      rw [if_pos rfl] at q2
      wp_walk
      exact ⟨rfl, q2⟩
    | false =>
      rw [if_neg Bool.false_ne_true] at q2
      wp_walk
      exact q2
  case fin =>
    rintro ⟨b1, b2⟩ s' ⟨hb', hI⟩
    simp only at hb'
    subst hb'
    have hR : R (.ok (.ret (.bool (items.size == items2.size)))) s' := fin s' hI
    wp_walk
    simpa [Builtin.Tuple.tupleCompareSizes] using hR
  case h =>
    exact ⟨rfl, h0⟩
end
section
variable {prog : Program} {w : World} {A : Around} {E : Value → Shared → Prop} {s : Shared}
theorem rc {l b : Addr} {items items2 : Array Value} {Q : Value → Shared → Prop} (hu : A.units < cLine) (I : List (Value × Value) → Shared → Prop)
    (hl : s.heap.IsTuple l items) (hb : s.heap.IsTuple b items2)
    (turn : ∀ x y rest s, I ((x, y) :: rest) s → wpAny (model prog w) A.in1 (eqBool x y) (fun r s' => if r = true then I rest s' else Q (.bool false) s') E s)
    (fin : ∀ s, I [] s → Q (.bool (items.size == items2.size)) s) (h : I (items.toList.zip items2.toList) s) : wpAny (model prog w) A (richCompare .Eq (.ref l) (.ref b)) Q E s := by
  obtain ⟨⟨cls, dd, data, sl⟩, ho, hc, n, hd⟩ := id hl
  obtain ⟨⟨cls2, dd2, data2, sl2⟩, ho2, hc2, n2, hd2⟩ := id hb
  simp only at hc hd hc2 hd2
  subst hc hd hc2 hd2
  refine wpAny_richCompare_same_room (op := .Eq) ⟨_, ho, rfl⟩ ⟨_, ho2, rfl⟩ F.slot_tuple_eq (GQ.call_here F.slot_tuple_eq ⟨_, ho, rfl⟩ F.entry_tuple_eq (F.args_tuple_eq_2 _ _) ?_) hu
  exact body (R := wants (fun v s' => v ≠ .notImplemented ∧ Q v s') E) l b items items2 n n2 dd dd2 sl sl2 I (fun x y rest s z => wpAny_mono (turn x y rest s z) (fun r s' q => by
    cases r with
    | true => simpa using q
    | false => exact ⟨(fun x => nomatch x), by simpa using q⟩) fun _ _ z => z) (fun s' q => ⟨(fun x => nomatch x), fin s' q⟩) ho ho2 h
end
end TupEq
def eqTupL (D : Addr → SpT → Prop) (l : List Addr) (R : Bool → Store → Prop) (RE : XT) (len : Bool) : List T → List T → Store → Prop
  | x :: xs, y :: ys, S => ∃ C gs sp C' hs, x = .ins C gs ∧ y = .ins C' hs ∧ flatF gs = true ∧ flatF hs = true ∧ D C sp ∧ C ∈ l ∧ C' ∈ l ∧ (x = y → eqTupL D l R RE len xs ys S) ∧
      sp [x, y] S (fun z S' => ∃ c, z = .bl c ∧ if c = true then eqTupL D l R RE len xs ys S' else R false S') RE
  | _, _, S => R len S
def kEqTup (D : Addr → SpT → Prop) (l : List Addr) : KB := fun x y S R RE => ∃ xs ys, x = .tup xs ∧ y = .tup ys ∧ eqTupL D l (fun b S' => R (.bl b) S') RE (xs.length == ys.length) xs ys S
theorem eqTupL_nil1 {D : Addr → SpT → Prop} {l : List Addr} {R : Bool → Store → Prop} {RE : XT} {len : Bool} {ys : List T} {S : Store} : eqTupL D l R RE len [] ys S = R len S := by cases ys <;> rw [eqTupL] <;> simp
theorem eqTupL_nil2 {D : Addr → SpT → Prop} {l : List Addr} {R : Bool → Store → Prop} {RE : XT} {len : Bool} {xs : List T} {S : Store} : eqTupL D l R RE len xs [] S = R len S := by cases xs <;> rw [eqTupL] <;> simp
section
variable {X : Cx} {E : XK} {D : Addr → SpT → Prop} {l : List Addr}
theorem op_eqTup (K : PySem.W.Frag) (hK : X.K = K) (O : EqD X D) (nf : nfF K l = true) (gds : X.A.guards = some []) (hun : X.A.units < cLine) (hx : Passes (L2N.CX X.prog X.w) X E) : OpR X (compareOp .Eq) (RK X.K E (kEqTup D l)) := by
  subst hK
  intro pins s sl H v u w z Q inv rv ru want
  obtain ⟨Z, x, y, S, R, RE, ok, rx, ry, ⟨xs, ys, rfl, rfl, kk⟩, po, xo⟩ := want
  cases rx with
  | @tup p vs ts h1 r1 =>
  cases ry with
  | @tup p2 vs2 ts2 h2 r2 =>
    obtain rfl : w = Value.ref p := rv
    obtain rfl : z = Value.ref p2 := ru
    obtain ⟨its, rv1, pl, _⟩ := inv.tuple h1.sq
    obtain ⟨its2, rv2, pl2, _⟩ := inv.tuple h2.sq
    have len : (its.toArray.size == its2.toArray.size) = (xs.length == ys.length) := by
      have e1 := rv1.length
      have e2 := rv2.length
      rw [r1.length] at e1
      rw [r2.length] at e2
      simp [e1, e2]
    generalize (xs.length == ys.length) = ln at kk len
    show wpAny (model X.prog X.w) X.A (richCompare .Eq (.ref p) (.ref p2)) (EP X pins sl Q) X.xe s
    refine TupEq.rc (items := its.toArray) (items2 := its2.toArray) hun (fun rest s' => ∃ as bs, rest = as.zip bs ∧ ∃ H' S' vs ws ts us, Inv X pins sl H' s' ∧ Ok X.K Z S' H' ∧ Le S H S' H' ∧ Vals vs as ∧ Vals ws bs ∧ Reps X.K Z S' H' vs ts ∧ Reps X.K Z S' H' ws us ∧ eqTupL D l (fun b S' => R (.bl b) S') RE ln ts us S')
      pl pl2 ?_ ?_ ⟨its, its2, by simp, H, S, vs, vs2, xs, ys, inv, ok, .refl, rv1, rv2, r1, r2, kk⟩
    · rintro xv yv rest s' ⟨as, bs, ez, H', S', vs', ws', ts', us', inv', ok', le', rva, rvb, rsa, rsb, kk'⟩
      cases rva with
      | nil => simp at ez
      | @cons v1 u1 vs1 us1 e1 e2 =>
      cases rvb with
      | nil => simp at ez
      | @cons v2 u2 vs2 us2 e3 e4 =>
      rw [List.zip_cons_cons] at ez
      obtain ⟨ep, er⟩ := List.cons.inj ez
      cases ep
      cases rsa with
      | @cons _ y1 _ ts1 ra rsa =>
      cases rsb with
      | @cons _ y2 _ ts2 rb rsb =>
      rw [eqTupL] at kk'
      obtain ⟨C, gs, sp, C', hs, rfl, rfl, fg, fh, hd, hC, hC', kT, kS⟩ := kk'
      obtain ⟨a, dy, fy, rfl, hb1, rf1⟩ := ins_rep ok' ra (rfl : insOf (.ins C gs) S' = some (C, gs))
      obtain rfl : xv = Value.ref a := e1
      obtain ⟨b, dx2, fx2, rfl, hHx, rf2⟩ := ins_rep ok' rb (rfl : insOf (.ins C' hs) S' = some (C', hs))
      obtain rfl : yv = Value.ref b := e3
      obtain ⟨k, f, fd, ps, o, F, hr, hbd⟩ := O.at_ C sp hd
      by_cases same : a = b
      · subst same
        rw [hb1] at hHx
        cases hHx
        have eg : gs = hs := repF_inj rf1 rf2 fg fh
        have e : ((Value.ref a) == (Value.ref a)) = true := by simp
        unfold eqBool
        refine wpAny_holding ?_
        rw [if_pos e]
        refine wpAny_bind (wpAny_rule ?_)
        refine wpAny_pure ?_
        rw [if_pos rfl]
        exact ⟨us1, us2, er, H', S', vs1, vs2, ts1, ts2, inv', ok', le', e2, e4, rsa, rsb, kT (by rw [eg])⟩
      · obtain ⟨mA, OA, _⟩ := ins_get inv'.hok hb1
        obtain ⟨od, J, _⟩ := OA.look
        obtain ⟨mB, OB, _⟩ := ins_get inv'.hok hHx
        obtain ⟨od2, J2, _⟩ := OB.look
        obtain ⟨m, fr⟩ := inv'.fr
        have up : UpF X.K sp [.ref a, .ref b] H' (fun v H2 => ∃ c, v = .bl c ∧ ∃ S2, Le S' H' S2 H2 ∧ Ok X.K Z S2 H2 ∧ if c = true then eqTupL D l (fun b S' => R (.bl b) S') RE ln ts1 ts2 S2 else R (.bl false) S2) E := ⟨Z, [.ins C gs, .ins C' hs], S', _, RE, .cons ra (.cons rb .nil), ok', kS, fun t S2 v H2 kt le2 ok2 rep => by
          obtain ⟨c, rfl, kt⟩ := kt
          cases rep
          exact ⟨c, rfl, S2, le2, ok2, kt⟩, xo.le le'⟩
        have vv : Vals [V.ref a, V.ref b] [Value.ref a, Value.ref b] := .cons rfl (.cons rfl .nil)
        have hl : ([Value.ref a, Value.ref b] ++ []).length = ps.length := vv.length.symm.trans (F.fn.len _ _ _ _ up)
        refine GQ.eqBool_refG same ?_
        refine PySem.W.cmp_K (op := .Eq) (tb := .ref C') (by have := hr.in1.un; omega) fr inv'.ok.mod.kin J J2.type (nfF.first nf hC (.inl ⟨C', rfl, hC'⟩)) o.eq o.fn ?_
        refine wpAny_call (codeAny_mono (F.fn.go X.A.in1 X.stack s' H' ⟨[.ref a, .ref b], []⟩ ([Value.ref a, Value.ref b] ++ []) [V.ref a, V.ref b] _ E (by first | exact gds | simpa [Around.in1] using gds) hr.in1 inv'.env0.in1 (hbd s' [.ref a, .ref b] inv'.kIn hl) (by rw [List.append_nil]; exact vv) up) fun r s2 got => ?_)
        cases r with
        | error er => exact hx pins sl H' s' er s2 inv' got
        | ok fl =>
          cases fl with
          | ret t =>
            obtain ⟨v, H2, I3, rz, c, rfl, S2, l2, o2, q⟩ := inv'.after got
            cases rz
            refine ⟨c, rfl, ?_⟩
            cases c with
            | true => exact ⟨us1, us2, er, H2, S2, vs1, vs2, ts1, ts2, I3, o2, le'.trans l2, e2, e4, rsa.le l2, rsb.le l2, q⟩
            | false => exact ⟨.bl false, H2, I3, rfl, po _ _ _ _ q (le'.trans l2) o2 (.bl false)⟩
          | next => exact got.elim
          | brk => exact got.elim
          | cont => exact got.elim
    · rintro s' ⟨as, bs, ez, H', S', vs', ws', ts', us', inv', ok', le', rva, rvb, rsa, rsb, kk'⟩
      have q : R (.bl ln) S' := by
        cases rva with
        | nil => cases rsa; rw [eqTupL_nil1] at kk'; exact kk'
        | cons e1 e2 =>
          cases rvb with
          | nil => cases rsb; rw [eqTupL_nil2] at kk'; exact kk'
          | cons e3 e4 => simp at ez
      rw [len]
      exact ⟨.bl ln, H', inv', rfl, po _ _ _ _ q le' ok' (.bl ln)⟩
end

/-! ### xs[::-1] of a list -/
def rRevL (ra : TR) : TR := fun σ S R RE => ra σ S (fun x S1 => ∃ l, (x = .lst l ∨ x = .scr l) ∧ R (.lst l.reverse) S1) RE
theorem et_revL {X : Cx} {E : XK} {e : Expr} {ra : TR} {k : Nat} {p1 p2 p3 pos : Pos} (ha : ET X E e ra) : ET X E (.Subscript e (.Slice none none (some (.UnaryOp .USub (.Constant (.int 1) k p1) p2)) p3) pos) (rRevL ra) :=
  ⟨pe_weak (pe_revL ha.pe) fun sl H Q ⟨⟨Z, σ, S, R, RE, fr, ok, w, po, xo⟩⟩ => ⟨Z, σ, S, _, RE, fr, ok, w, fun x S1 v H1 k1 le1 ok1 rep => by
    obtain ⟨l, hx, k1⟩ := k1
    rcases hx with rfl | rfl
    · cases rep with
      | lst h1 r1 => exact ⟨_, _, rfl, h1.sq, fun p hp => po _ _ _ _ k1 (le1.trans (le_new hp)) (ok1.new hp) (.lstN ok1 hp r1.reverse)⟩
    · cases rep with
      | scr h1 r1 => exact ⟨_, _, rfl, h1.sq, fun p hp => po _ _ _ _ k1 (le1.trans (le_new hp)) (ok1.new hp) (.lstN ok1 hp r1.reverse)⟩, xo⟩⟩

namespace KwM
open PySem PySem.Calls PyProof.Rows PySem.W
theorem callWith_KWM {K : Frag} {M : Model} {A : Around} {E : Value → Shared → Prop} {s : Shared} {env : Env} {pos : Pos} {q g : Addr} {self : Value} {Q : Value → Shared → Prop} {kws : List Keyword} (hf : fnIn K g = true) (hall : (backToKw pos (keywordEach kws env)).all (·.1.isSome) = true)
    (h : wpAny M A (evalAll ((backToKw pos (keywordEach kws env)).map (·.2))) (fun ks s₂ => MethP K q g self s₂.heap ∧ wpAny M A (call (.ref q) ([] ++ []) (((backToKw pos (keywordEach kws env)).filterMap (·.1)).zip ks)) Q E s₂) E s)
    (hplain : ((backTo pos (starEach [] env)).any (·.1) || (backToKw pos (keywordEach kws env)).any (·.1.isNone)) = false := by rfl) :
    wpAny M A (callWith pos (.ref q) [] (backTo pos (starEach [] env)) (backToKw pos (keywordEach kws env))) Q E s :=
  callWith_of hplain (keeps_M hf) (evalArgs_kw2_nil hall h)
end KwM
/-! ### C.m(k=..), m a classmethod -/
section
variable {X : Cx} {E : XK} {k : Nat} {C g p0 : Addr} {fd : FuncData} {ps : List Str} {sp : SpT} {ks : List Str} {gT : List T → List T → List T} {x m : Str} {p pos apos : Pos} {kws : List Keyword} {tk : TRA}
def rCMethK (C : Addr) (sp : SpT) (n : Nat) (gT : List T → List T → List T) (tk : TRA) : TR := fun σ S R RE => tk σ S (fun zs S1 => zs.length = n ∧ sp (gT [.st C] zs) S1 R RE) RE
theorem et_cmethK {pl : Sem Bool} (r : ClX.CRead X.K C (.type "type")) (c : ClX.CMet X.K C (.type "type") m p0 g) (F : FnT X.prog X.w X.K X.mg X.base k g fd ps sp) (cb : CallB X.K fd ps 1 ks gT) (hr : Room k X.A) (gds : X.A.guards = some []) (hx : Passes (L2N.CX X.prog X.w) X E)
    (hg : Gl X x) (hm : X.mg x = some (.ref C)) (hkw : KT X E kws tk) (hd : (x == ("__debug__" : Str)) = false := by decide)
    (hall : (backToKw pos (keywordEach kws X.env)).all (·.1.isSome) = true := by rfl) (hks : (backToKw pos (keywordEach kws X.env)).filterMap (·.1) = ks := by rfl)
    (hpl : ((backTo pos (starEach [] X.env)).any (·.1) || (backToKw pos (keywordEach kws X.env)).any (·.1.isNone)) = false := by rfl)
    (ht : eval (.Call (.Attribute (.Name x p) m apos) [] kws pos) X.env = (do
      let ov ← eval (.Name x p) X.env
      standAt apos.atName
      let (f, first) ← holding [ov] (getMethod ov m pl)
      callWith pos f first (backTo pos (starEach [] X.env)) (backToKw pos (keywordEach kws X.env))) := by rfl) :
    ET X E (.Call (.Attribute (.Name x p) m apos) [] kws pos) (rCMethK C sp ks.length gT tk) := by
  refine ⟨⟨fun pins s sl H Q I h => ?_⟩⟩
  obtain ⟨Z, σ, S, R, RE, fr, ok, w, po, xo⟩ := h.ex
  obtain ⟨g2, gV, hb, hor⟩ := cb.ex
  refine PySem.W.methodCall_KW (pl := pl) (thn ((pe_glob (pos := p) (v := .ref C) hg hm rfl hd).run pins s sl H (fun v H1 => v = .ref C ∧ H1 = H) I ⟨rfl, rfl⟩) fun u s1 hu => ?_) ht
  obtain ⟨v, H1, I1, rv, rfl, rfl⟩ := hu
  obtain rfl : u = Value.ref C := rv
  refine ClX.getmethcm_ok I1 r c fun s2 I2 => ?_
  refine KwM.callWith_KWM (K := X.K) (g := g) (self := .ref C) c.fi hall ?_ hpl
  refine thn (hkw.pk.run pos _ s2 sl H1 (fun zvs H2 => ∃ zs S2, (zs.length = ks.length ∧ sp (gT [.st C] zs) S2 R RE) ∧ Le S H1 S2 H2 ∧ Ok X.K Z S2 H2 ∧ Reps X.K Z S2 H2 zvs zs) I2 ⟨Z, σ, S, _, RE, fr, ok, w, fun zs S2 zvs H2 k2 l2 o2 r2 => ⟨zs, S2, k2, l2, o2, r2⟩, xo⟩) fun ws s3 hu => ?_
  obtain ⟨zvs, H2, I3, rz, zs, S2, ⟨e2, k2⟩, l2, o2, r2⟩ := hu
  refine ⟨⟨ClX.pin_at I3, I3.kIn⟩, ?_⟩
  rw [hks]
  have lw : ws.length = ks.length := (rz.length.symm.trans r2.length).trans e2
  have up : UpF X.K sp (gV [.ref C] zvs) H2 Q E := ⟨Z, _, S2, R, RE, hor _ _ _ _ _ _ _ (.cons (.st C) .nil) r2, o2, k2, po.le l2, xo.le l2⟩
  have z : wpAny (model X.prog X.w) X.A (call (.ref s1.heap.objs.size) [] (ks.zip ws)) (EP X ((s1.heap.objs.size, PySem.W.methodObj (.ref g) (.ref C)) :: pins) sl Q) X.xe s3 := by
    refine wpAny_call (PySem.W.method_call (ClX.pin_at I3) ?_)
    refine codeAny_mono (F.fn.go X.A X.stack s3 H2 ⟨[.ref C], ks.zip ws⟩ _ (gV [.ref C] zvs) Q E gds hr I3.env0 (hb.to s3 [.ref C] ws I3.kIn rfl lw) (hb.rel (vs := [V.ref C]) (.cons rfl .nil) rz) up) fun r s' got => ?_
    cases r with
    | error er => exact hx _ sl H2 s3 er s' I3 got
    | ok fl =>
      cases fl with
      | ret u => exact I3.after got
      | next => exact got.elim
      | brk => exact got.elim
      | cont => exact got.elim
  exact thn z fun _ _ y => ClX.unpinE y
end

/-! ### an error as a value: C(e) of an error's class -/
section
variable {P : Program} {w : World} {H : Hp} {h : Heap} {b : Addr} {u : HO}
theorem hok_more (x : HOk P w H h) (hb : H b = none) (new : ObjOk P w (upd H b u) h b u) : HOk P w (upd H b u) h := fun c q e => by
  by_cases hc : c = b
  · subst hc; rw [upd_same] at e; cases e; exact new
  · rw [upd_ne hc] at e
    exact (x c q e).stay (fun _ _ _ z => z) (fun _ z => by rw [upd_ne (ne_of_none z hb)]; exact z) fun _ _ z => by rw [upd_ne (ne_of_none z hb)]; exact z
end
section
variable {X : Cx} {pins : List (Addr × Obj)} {σ : L2.St} {H : Hp} {s : Shared}
theorem inv_laid2 {a b : Addr} {o u : HO} {h' : Heap} {t' : Nat} (I : Inv X pins σ H s) (k : ∀ c q, s.heap.get? c = some q → h'.get? c = some q) (ha : s.heap.objs.size ≤ a) (hb : s.heap.objs.size ≤ b) (ne : b ≠ a)
    (na : ObjOk X.prog X.w (upd H a o) h' a o) (nb : ObjOk X.prog X.w (upd (upd H a o) b u) h' b u) : Inv X pins σ (upd (upd H a o) b u) { s with heap := h', toks := t' } := by
  have fa : H a = none := I.hok.fresh ha
  have fb : H b = none := I.hok.fresh hb
  have fb2 : (upd H a o) b = none := by rw [upd_ne ne]; exact fb
  have up : ∀ c q, H c = some q → (upd (upd H a o) b u) c = some q := fun c q e => by rw [upd_ne (ne_of_none e fb), upd_ne (ne_of_none e fa)]; exact e
  refine I.un (t' := t') ?_ (hok_more (I.hok.laid k ha na) fb2 nb)
  exact {
    keep := fun c q e _ _ _ => k c q e
    slot := fun c q e _ _ _ => ⟨q.slots, k c q e⟩
    free := fun c q e n _ => by
      have l := Heap.lt_size e
      rw [upd_ne (Nat.ne_of_lt (Nat.lt_of_lt_of_le l hb)), upd_ne (Nat.ne_of_lt (Nat.lt_of_lt_of_le l ha))]
      exact n
    there := fun c q e _ => ⟨q, k c q e⟩
    tups := fun c xs e => up c _ e
    frzs := fun c q v e => up c _ e
    tbls := fun c ps e => ⟨#[], by rw [up c _ e]; simp⟩ }
end
section
variable {X : Cx} {E : XK} {C fI : Addr} {qi : Str}
def tExcV (C : Addr) (ta : TA) : TE := fun σ H Q => ta σ H fun vs H1 => ∃ v, vs = [v] ∧ ∀ p d, H1 p = none → H1 d = none → p ≠ d → Q (.ref p) (upd (upd H1 d (.xd [(("value" : Str), v)])) p (.ext (ExcAt p C d)))
theorem pe_excv {nm : Str} {a : Expr} {ta : TA} {p pos : Pos} {k : Nat} (Z : EvTxt X.K C fI qi) (hm : X.mg nm = some (.ref C)) (room : Room k X.A) (ha : PA X [a] ta) (hg : Gl X nm) (dbg : (nm == ("__debug__" : Str)) = false := by decide)
    (hst : starEach (a :: []) X.env = (false, eval a X.env) :: starEach [] X.env := by rfl) (hpl : (backTo pos (starEach [] X.env)).any (·.1) = false := by rfl) :
    PE X (.Call (.Name nm p) [a] [] pos) (tExcV C ta) := by
  refine ⟨fun pins st sl H Q inv want => ?_⟩
  refine wpAny_Call_Name_kw (ld_glob inv hg hm ?_ dbg)
  refine PySem.W.callWith_K (h₀ := X.base) inv.ok.mod.kin Z.kC (thn (ha.run pos pins st sl H _ inv want) fun us st1 got => ?_) hst hpl
  obtain ⟨vs, H1, inv1, rel, v, ev, q⟩ := got
  subst ev
  refine ⟨inv1.kIn, ?_⟩
  obtain ⟨u, rfl, rv⟩ := vals1 rel
  show wpAny _ _ (call (.ref C) [u]) _ _ _
  have lim := inv1.nolimit
  obtain ⟨hp, gn, dr, tk, os⟩ := st1
  refine wpAny_call (ev_made Z inv1.kIn lim (by have := room.dp; omega) fun h' tk' e d made => ?_)
  show EP X pins sl Q (.ref e) ⟨h', gn, dr, tk', os⟩
  obtain ⟨oe, t1, hoe, ec, ed, edat⟩ := made.obj
  have fe : H1 e = none := inv1.hok.fresh made.new
  have fd : H1 d = none := inv1.hok.fresh made.dbig
  have na : ObjOk X.prog X.w (upd H1 d (.xd [(("value" : Str), v)])) h' d (.xd [(("value" : Str), v)]) := ⟨_, made.ns, fun y => relO_ev rv y⟩
  have nb : ObjOk X.prog X.w (upd (upd H1 d (.xd [(("value" : Str), v)])) e (.ext (ExcAt e C d))) h' e (.ext (ExcAt e C d)) :=
    ⟨⟨oe, t1, hoe, ec, ed, edat⟩, ⟨oe, hoe⟩, fun g1 g2 ⟨o, t, h1, h2⟩ kp => ⟨o, t, kp o h1, h2⟩⟩
  exact ⟨.ref e, _, inv_laid2 (t' := tk') inv1 made.keep made.dbig made.new (Ne.symm made.dne) na nb, rfl, q e d fe fd (Ne.symm made.dne)⟩
def rExcV (C : Addr) (ra : TR) : TR := fun σ S R RE => ra σ S (fun x S1 => ∃ y, [x] = [y] ∧ R (.exc C [(("value" : Str), y)]) S1) RE
theorem et_excv {nm : Str} {a : Expr} {ra : TR} {p pos : Pos} {k : Nat} (Z : EvTxt X.K C fI qi) (hm : X.mg nm = some (.ref C)) (room : Room k X.A) (ha : ET X E a ra) (hg : Gl X nm) (dbg : (nm == ("__debug__" : Str)) = false := by decide)
    (hst : starEach (a :: []) X.env = (false, eval a X.env) :: starEach [] X.env := by rfl) (hpl : (backTo pos (starEach [] X.env)).any (·.1) = false := by rfl) :
    ET X E (.Call (.Name nm p) [a] [] pos) (rExcV C ra) :=
  ⟨pe_weak (pe_excv Z hm room (at_cons ha at_nil hst).pa hg dbg hst hpl) fun sl H Q ⟨⟨Z, σ, S, R, RE, fr, ok, w, po, xo⟩⟩ => ⟨Z, σ, S, (fun xs S1 => ∃ x, xs = [x] ∧ R (.exc C [(("value" : Str), x)]) S1), RE, fr, ok, w, fun xs S1 vs H1 k le ok1 rep => by
    obtain ⟨x, rfl, k⟩ := k
    cases rep with
    | @cons v _ _ _ r rr =>
      cases rr
      refine ⟨v, rfl, fun p d hp hd ne => ?_⟩
      have hp2 : (upd H1 d (.xd [(("value" : Str), v)])) p = none := by rw [upd_ne ne]; exact hp
      have l1 := le_new (S := S1) (o := .xd [(("value" : Str), v)]) hd
      have l2 := le_new (S := S1) (o := .ext (ExcAt p C d)) hp2
      have ok2 := (ok1.new (o := .xd [(("value" : Str), v)]) hd)
      exact po _ _ _ _ k (le.trans (l1.trans l2)) (ok2.new hp2) (.exc upd_same ⟨ok1.free hp, ok1.nz hp⟩ (by rw [upd_ne ne.symm]; exact upd_same) ⟨ok1.free hd, ok1.nz hd⟩ (.cons (r.le (l1.trans l2)) .nil)), xo⟩⟩
end

/-! e == o, e != o: e an error, which knows of no other; o an instance with its own __eq__ -/
namespace ExcEq
open PySem PySem.Calls PyProof.Rows
section
variable {prog : Program} {w : World} {A : Around} {E : Value → Shared → Prop} {s : Shared} {K : PySem.W.Frag} {x e C Ce f : Addr} {ox oe : Obj} {od ode : Option Obj}
theorem slot_eq {args : List Value} {Q : Option Value → Shared → Prop} (inK : K.In s.heap) (J : PySem.W.InstAt s.heap e oe Ce ode) (hs : PySem.W.findIn K (.ref Ce) "__eq__" = some (some (.builtin "object.__eq__")))
    (hc : wpAny (model prog w) A (call (.builtin "object.__eq__") (.ref e :: args)) (fun r => Q (some r)) E s) : wpAny (model prog w) A (callSpecialIfBound? (.ref e) "__eq__" args) Q E s := by
  simp only [callSpecialIfBound?, bindSpecialIfBound?]
  have last : wpAny (model prog w) A (call (.builtin "object.__eq__") ([.ref e] ++ args) >>= fun r => pure (some r)) Q E s := wpAny_bind (wpAny_mono hc (fun r s' z => wpAny_pure z) fun _ _ z => z)
  have bd := PySem.F.cmp_object.eq.bind (Value.ref e)
  refine wpAny_holding (wpAny_bind (wpAny_bind (wpAny_bind (J.type.here ((PySem.W.looks_findIn inK hs).here (wpAny_bind (wpAny_askSetting (wpAny_ite ?_))))))))
  split
  · exact wpAny_bind (wpAny_of_eq bd (wpAny_pure (by exact last)))
  · exact wpAny_tryCatch (wpAny_bind (wpAny_of_eq bd (wpAny_pure (by exact last))))
theorem body_eq {Q : Fin → Shared → Prop} (he : s.heap.get? e = some oe) (hx : s.heap.get? x = some ox) (ne : e ≠ x) (ce : oe.cls = .ref Ce) (q : Q (.done (.ret .notImplemented)) s) :
    wpAny (model prog w) A (Builtin.«object.__eq__» ⟨[.ref e, .ref x], []⟩) Q E s := by
  unfold Builtin.«object.__eq__»
  refine wpAny_bind (wpAny_of_eq (a := ((Value.ref e : Value), [Value.ref x])) (by first | rfl | (simp only [slotArgs]; rfl)) ?_)
  refine wpAny_bind ?_
  unfold isSame
  have nb : (e == x) = false := by simpa using ne
  simp only [nb, Bool.false_eq_true, if_false]
  refine wpAny_bind (wpAny_load he (wpAny_bind (wpAny_load hx ?_)))
  rw [ce]
  exact wpAny_pure (wpAny_pure q)
theorem answer_eq {Q : Value → Shared → Prop} (inK : K.In s.heap) (J : PySem.W.InstAt s.heap e oe Ce ode) (I : PySem.W.InstAt s.heap x ox C od) (hm : PySem.W.mroIn K Ce (.type "object") = some true) (ne : e ≠ x)
    (q : Q .notImplemented s) : wpAny (model prog w) A (call (.builtin "object.__eq__") [.ref e, .ref x]) Q E s :=
  wpAny_call (codeAny_call_builtin PySem.F.cmp_object.eq.plain PySem.F.cmpEntry_eq (PySem.W.check_slot PySem.F.cmpKind_eq PySem.F.cmpSplit_eq (J.type.andThen (PySem.W.looks_mroIn inK hm)) (PySem.F.cmpArgs_eq _ _)
    (body_eq J.1 I.1 ne J.cls q)))
theorem d_eq {Q : Option Value → Shared → Prop} (inK : K.In s.heap) (J : PySem.W.InstAt s.heap e oe Ce ode) (I : PySem.W.InstAt s.heap x ox C od) (hs : PySem.W.findIn K (.ref Ce) "__eq__" = some (some (.builtin "object.__eq__")))
    (hm : PySem.W.mroIn K Ce (.type "object") = some true) (ne : e ≠ x) (q : Q none s) : wpAny (model prog w) A (tryCompare (.ref e) (cmpInfo .Eq).2.1 (.ref x)) Q E s := by
  unfold tryCompare
  exact wpAny_bind (slot_eq inK J hs (answer_eq inK J I hm ne (wpAny_pure q)))
theorem body_ne {Q : Fin → Shared → Prop} (hu : A.units < cLine) (inK : K.In s.heap) (J : PySem.W.InstAt s.heap e oe Ce ode) (I : PySem.W.InstAt s.heap x ox C od) (hs : PySem.W.findIn K (.ref Ce) "__eq__" = some (some (.builtin "object.__eq__")))
    (hm : PySem.W.mroIn K Ce (.type "object") = some true) (ne : e ≠ x) (q : Q (.done (.ret .notImplemented)) s) : wpAny (model prog w) A (Builtin.«object.__ne__» ⟨[.ref e, .ref x], []⟩) Q E s := by
  unfold Builtin.«object.__ne__»
  repeat (first
    | with_reducible refine wpAny_cRoomFor hu ?_
    | (refine wpAny_bind (m := callSpecialIfBound? (.ref e) (Str.ofString "__eq__") [.ref x]) (slot_eq inK J hs (answer_eq inK J I hm ne ?_)))
    | exact wpAny_pure q
    | exact wpAny_pure ⟨_, rfl, q⟩
    | wp_step)
theorem d_ne {Q : Option Value → Shared → Prop} (hu : A.units + 1 < cLine) (inK : K.In s.heap) (J : PySem.W.InstAt s.heap e oe Ce ode) (I : PySem.W.InstAt s.heap x ox C od) (hs : PySem.W.findIn K (.ref Ce) "__eq__" = some (some (.builtin "object.__eq__")))
    (hn : PySem.W.findIn K (.ref Ce) "__ne__" = some (some (.builtin "object.__ne__"))) (hm : PySem.W.mroIn K Ce (.type "object") = some true) (ne : e ≠ x) (q : Q none s) : wpAny (model prog w) A (tryCompare (.ref e) (cmpInfo .NotEq).2.1 (.ref x)) Q E s := by
  unfold tryCompare
  refine wpAny_bind (NeOwn.slot inK J hn (wpAny_call (codeAny_call_builtin PySem.F.cmp_object.ne.plain PySem.F.cmpEntry_ne (PySem.W.check_slot PySem.F.cmpKind_ne PySem.F.cmpSplit_ne (J.type.andThen (PySem.W.looks_mroIn inK hm)) (PySem.F.cmpArgs_ne _ _) ?_))))
  exact body_ne (A := A.in1) (by show A.units + 1 < cLine; exact hu) inK J I hs hm ne (wpAny_pure q)
theorem eq_refl {Q : Value → Shared → Prop} (hu : A.units < cLine) (inK : K.In s.heap) (J : PySem.W.InstAt s.heap e oe Ce ode) (I : PySem.W.InstAt s.heap x ox C od) (nc : Ce ≠ C) (hn : PySem.W.subIn K (.ref C) (.ref Ce) = some false)
    (dec : ∀ (Q : Option Value → Shared → Prop), Q none s → wpAny (model prog w) A (tryCompare (.ref e) (cmpInfo .Eq).2.1 (.ref x)) Q E s) (he : PySem.W.findIn K (.ref C) "__eq__" = some (some (.ref f))) (hf : PySem.W.isFn K (.ref f) = true)
    (h : wpAny (model prog w) A (call (.ref f) [.ref x, .ref e]) (PySem.W.CmpBack Q) E s) : wpAny (model prog w) A (richCompare .Eq (.ref e) (.ref x)) Q E s := by
  have one : wpAny (model prog w) A (tryCompare (.ref x) (cmpInfo .Eq).2.2 (.ref e)) (fun r s' => ∃ v, r = some v ∧ Q v s') E s := by
    unfold tryCompare
    refine wpAny_bind (PySem.W.ifBound_K inK I he hf (wpAny_mono h (fun v s' hv => ?_) fun _ _ e => e))
    cases v <;> first | exact hv.elim | exact wpAny_pure ⟨_, rfl, hv⟩
  rcases hi : cmpInfo CmpOp.Eq with ⟨sym, f', r'⟩
  rw [hi] at dec one
  simp only [richCompare, hi, oneThing_ref]
  refine wpAny_holding (wpAny_bind (wpAny_cRoomFor hu ?_))
  refine wpAny_bind (J.type.here (wpAny_bind (I.type.here ?_)))
  rw [if_pos (show (Value.ref Ce != Value.ref C) = true by simp [nc])]
  refine wpAny_bind ((PySem.W.looks_subIn inK hn).here ?_)
  simp only [Bool.false_eq_true, if_false, Bool.not_false, if_true]
  refine wpAny_bind (m := tryCompare (.ref e) _ (.ref x)) (dec _ ?_)
  refine wpAny_bind (m := tryCompare (.ref x) _ (.ref e)) (wpAny_mono one (fun r s' got => ?_) fun _ _ z => z)
  obtain ⟨u, rfl, hq⟩ := got
  exact wpAny_pure hq
theorem ne_refl {Q : Value → Shared → Prop} (hu : A.units + 1 < cLine) (inK : K.In s.heap) (J : PySem.W.InstAt s.heap e oe Ce ode) (I : PySem.W.InstAt s.heap x ox C od) (nc : Ce ≠ C) (hn : PySem.W.subIn K (.ref C) (.ref Ce) = some false)
    (dec : ∀ (Q : Option Value → Shared → Prop), Q none s → wpAny (model prog w) A (tryCompare (.ref e) (cmpInfo .NotEq).2.1 (.ref x)) Q E s) (hs : PySem.W.findIn K (.ref C) "__ne__" = some (some (.builtin "object.__ne__"))) (hm : PySem.W.mroIn K C (.type "object") = some true)
    (he : PySem.W.findIn K (.ref C) "__eq__" = some (some (.ref f))) (hf : PySem.W.isFn K (.ref f) = true)
    (hc : wpAny (model prog w) A.in1 (call (.ref f) [.ref x, .ref e]) (NeOwn.Neg Q) E s) : wpAny (model prog w) A (richCompare .NotEq (.ref e) (.ref x)) Q E s := by
  have one : wpAny (model prog w) A (tryCompare (.ref x) (cmpInfo .NotEq).2.2 (.ref e)) (fun r s' => ∃ c, r = some (.bool c) ∧ Q (.bool c) s') E s := by
    unfold tryCompare
    refine wpAny_bind (NeOwn.slot inK I hs (wpAny_call (codeAny_call_builtin PySem.F.cmp_object.ne.plain PySem.F.cmpEntry_ne (PySem.W.check_slot PySem.F.cmpKind_ne PySem.F.cmpSplit_ne (I.type.andThen (PySem.W.looks_mroIn inK hm)) (PySem.F.cmpArgs_ne _ _)
      (NeOwn.body (A := A.in1) inK I hu he hf (wpAny_mono hc (fun r s' got => ?_) fun _ _ z => z))))))
    obtain ⟨c, rfl, hq⟩ := got
    exact ⟨c, rfl, wpAny_pure ⟨!c, rfl, hq⟩⟩
  rcases hi : cmpInfo CmpOp.NotEq with ⟨sym, f', r'⟩
  rw [hi] at dec one
  simp only [richCompare, hi, oneThing_ref]
  refine wpAny_holding (wpAny_bind (wpAny_cRoomFor (Nat.lt_of_succ_lt hu) ?_))
  refine wpAny_bind (J.type.here (wpAny_bind (I.type.here ?_)))
  rw [if_pos (show (Value.ref Ce != Value.ref C) = true by simp [nc])]
  refine wpAny_bind ((PySem.W.looks_subIn inK hn).here ?_)
  simp only [Bool.false_eq_true, if_false, Bool.not_false, if_true]
  refine wpAny_bind (m := tryCompare (.ref e) _ (.ref x)) (dec _ ?_)
  refine wpAny_bind (m := tryCompare (.ref x) _ (.ref e)) (wpAny_mono one (fun r s' got => ?_) fun _ _ z => z)
  obtain ⟨u, rfl, hq⟩ := got
  exact wpAny_pure hq
end
end ExcEq
/-- what an error's class says of == and != -/
structure ExcQ (K : PySem.W.Frag) (C : Addr) : Prop where
  eq : PySem.W.findIn K (.ref C) "__eq__" = some (some (.builtin "object.__eq__"))
  ne : PySem.W.findIn K (.ref C) "__ne__" = some (some (.builtin "object.__ne__"))
  mro : PySem.W.mroIn K C (.type "object") = some true
def excL (K : PySem.W.Frag) (l : List Addr) (Ce : Addr) : Bool := l.all fun C => (Ce != C) && (PySem.W.subIn K (.ref C) (.ref Ce) == some false)
theorem excL.at_ {K : PySem.W.Frag} {l : List Addr} {Ce C : Addr} (h : excL K l Ce = true) (m : C ∈ l) : Ce ≠ C ∧ PySem.W.subIn K (.ref C) (.ref Ce) = some false := by
  obtain ⟨h1, h2⟩ := Bool.and_eq_true_iff.mp (List.all_eq_true.mp h C m)
  exact ⟨by simpa using h1, beq_iff_eq.mp h2⟩
/-- one of the two of the family; the other of it, of a built-in type, or an error of the class Ce -/
def kEqFamX (K : PySem.W.Frag) (D : Addr → SpT → Prop) (l : List Addr) (Ce : Addr) (ng : Bool) : KB := fun x y S R RE => kEqFam K D (l ++ [Ce]) ng x y S R RE ∨
  ∃ gx C gs sp, x = .exc Ce gx ∧ insOf y S = some (C, gs) ∧ D C sp ∧ C ∈ l ∧ sp [y, x] S (fun z S' => ∃ c, z = .bl c ∧ R (.bl (ng ^^ c)) S') RE
section
variable {X : Cx} {E : XK} {D : Addr → SpT → Prop} {l : List Addr} {Ce : Addr}
theorem op_eqFamX (K : PySem.W.Frag) (hK : X.K = K) (O : EqD X D) (nf : nfF K (l ++ [Ce]) = true) (q : ExcQ K Ce) (xl : excL K l Ce = true) (gds : X.A.guards = some []) (hx : Passes (L2N.CX X.prog X.w) X E) : OpR X (compareOp .Eq) (RK X.K E (kEqFamX K D l Ce false)) := by
  subst hK
  intro pins s sl H v u w z Q inv rv ru want
  obtain ⟨Z, x, y, S, R, RE, ok, rx, ry, kk, po, xo⟩ := want
  rcases kk with kk | ⟨gx, C, gs, sp, rfl, hi, hd, hc, kk⟩
  · exact op_eqFam O nf gds hx pins s sl H v u w z Q inv rv ru ⟨Z, x, y, S, R, RE, ok, rx, ry, kk, po, xo⟩
  obtain ⟨k, f, fd, ps, o, F, hr, hb⟩ := O.at_ C sp hd
  obtain ⟨a, dx, fs, rfl, hH, _⟩ := ins_rep ok ry hi
  obtain rfl : z = Value.ref a := ru
  obtain ⟨mA, OA, _⟩ := ins_get inv.hok hH
  obtain ⟨od, J, _⟩ := OA.look
  have rx0 := rx
  cases rx with
  | @exc p _ dxe fse _ h1 n hde nd r =>
  obtain rfl : w = Value.ref p := rv
  obtain ⟨oe, ode, mE, JE, _⟩ := exc_inst inv h1 hde
  have ne : p ≠ a := fun e => by rw [e, hH] at h1; cases h1
  obtain ⟨nc, sn⟩ := excL.at_ xl hc
  have up : UpF X.K sp [.ref a, .ref p] H (fun v H' => ∃ c, v = .bl c ∧ Q (.bl c) H') E := ⟨Z, [y, _], S, _, RE, .cons ry (.cons rx0 .nil), ok, kk, fun t S' v H' kt le ok' rep => by
    obtain ⟨c, rfl, kt⟩ := kt
    rw [Bool.false_xor] at kt
    cases rep
    exact ⟨c, rfl, po _ _ _ _ kt le ok' (.bl c)⟩, xo⟩
  have vv : Vals [V.ref a, .ref p] [Value.ref a, .ref p] := .cons rfl (.cons rfl .nil)
  have hl : ([Value.ref a, .ref p] ++ []).length = ps.length := vv.length.symm.trans (F.fn.len _ _ _ _ up)
  show wpAny (model X.prog X.w) X.A (richCompare .Eq (.ref p) (.ref a)) (EP X pins sl Q) X.xe s
  refine ExcEq.eq_refl (by have := hr.un; omega) inv.kIn JE J nc sn (fun Q h => ExcEq.d_eq inv.kIn JE J q.eq q.mro ne h) o.eq o.fn ?_
  refine thn (goT F gds (hr.mono (by omega)) hx inv (hb s [.ref a, .ref p] inv.kIn hl) vv up) fun r s' got => ?_
  obtain ⟨v, H', I2, r2, c, rfl, q⟩ := got
  cases r2
  exact ⟨.bl c, H', I2, rfl, q⟩
theorem op_neFamX (K : PySem.W.Frag) (hK : X.K = K) (O : EqD X D) (nf : nfF K (l ++ [Ce]) = true) (q : ExcQ K Ce) (xl : excL K l Ce = true) (gds : X.A.guards = some []) (hx : Passes (L2N.CX X.prog X.w) X E) : OpR X (compareOp .NotEq) (RK X.K E (kEqFamX K D l Ce true)) := by
  subst hK
  intro pins s sl H v u w z Q inv rv ru want
  obtain ⟨Z, x, y, S, R, RE, ok, rx, ry, kk, po, xo⟩ := want
  rcases kk with kk | ⟨gx, C, gs, sp, rfl, hi, hd, hc, kk⟩
  · exact op_neFam O nf gds hx pins s sl H v u w z Q inv rv ru ⟨Z, x, y, S, R, RE, ok, rx, ry, kk, po, xo⟩
  obtain ⟨k, f, fd, ps, o, F, hr, hb⟩ := O.at_ C sp hd
  obtain ⟨a, dx, fs, rfl, hH, _⟩ := ins_rep ok ry hi
  obtain rfl : z = Value.ref a := ru
  obtain ⟨mA, OA, _⟩ := ins_get inv.hok hH
  obtain ⟨od, J, _⟩ := OA.look
  have rx0 := rx
  cases rx with
  | @exc p _ dxe fse _ h1 n hde nd r =>
  obtain rfl : w = Value.ref p := rv
  obtain ⟨oe, ode, mE, JE, _⟩ := exc_inst inv h1 hde
  have ne : p ≠ a := fun e => by rw [e, hH] at h1; cases h1
  obtain ⟨nc, sn⟩ := excL.at_ xl hc
  have up : UpF X.K sp [.ref a, .ref p] H (fun v H' => ∃ c, v = .bl c ∧ Q (.bl (!c)) H') E := ⟨Z, [y, _], S, _, RE, .cons ry (.cons rx0 .nil), ok, kk, fun t S' v H' kt le ok' rep => by
    obtain ⟨c, rfl, kt⟩ := kt
    rw [Bool.true_xor] at kt
    cases rep
    exact ⟨c, rfl, po _ _ _ _ kt le ok' (.bl _)⟩, xo⟩
  have vv : Vals [V.ref a, .ref p] [Value.ref a, .ref p] := .cons rfl (.cons rfl .nil)
  have hl : ([Value.ref a, .ref p] ++ []).length = ps.length := vv.length.symm.trans (F.fn.len _ _ _ _ up)
  show wpAny (model X.prog X.w) X.A (richCompare .NotEq (.ref p) (.ref a)) (EP X pins sl Q) X.xe s
  refine ExcEq.ne_refl (by have := hr.un; omega) inv.kIn JE J nc sn (fun Q h => ExcEq.d_ne (by have := hr.un; omega) inv.kIn JE J q.eq q.ne q.mro ne h) o.ne o.mro o.eq o.fn ?_
  refine wpAny_call (codeAny_mono (F.fn.go X.A.in1 X.stack s H ⟨[.ref a, .ref p], []⟩ ([Value.ref a, .ref p] ++ []) [V.ref a, .ref p] _ E (by first | exact gds | simpa [Around.in1] using gds) hr.in1 inv.env0.in1 (hb s [.ref a, .ref p] inv.kIn hl) (by rw [List.append_nil]; exact vv) up) fun r s' got => ?_)
  cases r with
  | error er => exact hx pins sl H s er s' inv got
  | ok fl =>
    cases fl with
    | ret t =>
      obtain ⟨v, H', I3, rz, c, rfl, q⟩ := inv.after got
      cases rz
      exact ⟨c, rfl, .bl (!c), H', I3, rfl, q⟩
    | next => exact got.elim
    | brk => exact got.elim
    | cont => exact got.elim
end

/-! ### what is known of error classes, asked as one bool each -/
section
variable {K : PySem.W.Frag}
def evB (K : PySem.W.Frag) (C fI : Addr) : Bool := decide (PySem.W.findIn K (.ref C) "__setattr__" = some (some (.builtin "object.__setattr__"))) && decide (PySem.W.findIn K (.ref C) "__getattribute__" = some (some (.builtin "BaseException.__getattribute__"))) && decide (PySem.W.findIn K (.ref C) "__getattr__" = some none) && decide (PySem.W.findIn K (.ref C) "value" = some none)
  && decide (PySem.W.findIn K (.ref C) "__init__" = some (some (.ref fI))) && decide (PySem.W.typeIn K (.ref fI) = some (.type "function")) && PySem.W.keepIn K (.ref C) && decide (PySem.W.subIn K (.ref C) (.type "BaseException") = some true) && decide (PySem.W.typeIn K (.ref C) = some (.type "type")) && PySem.W.hasDictIn K C
section
open PySem.W PySem.Calls PyProof.Rows PySem.HandSPX
/-- the class object of an error, whatever else it says -/
def ExcObj (K : Frag) (C : Addr) : Prop := ∃ nm q N bs bm sn sub ab col dd k0 k1 k2 k3 k5, K.lookup C = some (excClassObj nm q C N bs bm true sn sub ab col dd k0 k1 k2 k3 k5 "ValueError.__new__") ∧ refsVE bm = true
theorem excObj_of {C : Addr} {nm q : Str} {N : Addr} {bs bm : List Value} {sn : List Str} {sub : List Value} {ab : Bool} {col : Option Bool} {dd : Option Addr} {k0 k1 k2 k3 k5 : Option Value}
    (l : K.lookup C = some (excClassObj nm q C N bs bm true sn sub ab col dd k0 k1 k2 k3 k5 "ValueError.__new__")) (v : refsVE bm = true) : ExcObj K C := ⟨_, _, _, _, _, _, _, _, _, _, _, _, _, _, _, l, v⟩
theorem evTxt_of {C fI : Addr} {qi : Str} {oc doc pm cdv ct : Value} {od an : Option Addr} {osl : Array (Option Value)} {p1 p2 q1 q2 q3 q4 : Pos}
    (l : ExcObj K C) (h : evB K C fI = true)
    (lf : K.lookup fI = some ⟨oc, od, .func (PySem.W.fnOf "__init__" qi (evArgs p1 p2) (evBody q1 q2 q3 q4) evScope .none .none doc pm an cdv ct), osl⟩) (cf : PySem.W.codeIn K cdv qi = true) : EvTxt K C fI qi := by
  unfold evB at h
  simp only [Bool.and_eq_true, decide_eq_true_eq] at h
  obtain ⟨⟨⟨⟨⟨⟨⟨⟨⟨h1, h2⟩, h3⟩, h4⟩, h5⟩, h6⟩, h7⟩, h8⟩, h9⟩, h10⟩ := h
  exact { cls := l, sa := h1, ga := h2, gg := h3, noN := h4, iC := h5, tC := h6, kC := h7, exC := h8, tyC := h9, hdC := h10, fn := ⟨_, _, _, _, _, _, _, _, _, _, _, _, _, _, lf, cf⟩ }
end
def excB (K : PySem.W.Frag) (D : Addr) : Bool := (PySem.W.clsIn K D).isSome && decide (PySem.W.findIn K (.ref D) "__getattribute__" = some (some (.builtin "BaseException.__getattribute__"))) && decide (PySem.W.findIn K (.ref D) "__getattr__" = some none) && decide (PySem.W.subIn K (.ref D) (.type "BaseException") = some true) && PySem.W.hasDictIn K D
  && decide (PySem.W.findIn K (.ref D) "__class__" = some (some (.builtin "object.__class__"))) && decide (PySem.W.specialIn K (.builtin "object.__class__") "__get__" = some (some (.builtin "getset_descriptor.__get__"))) && decide (PySem.W.takesIn K (.builtin "object.__class__") = some true) && decide (PySem.W.mroIn K D (.type "object") = some true)
theorem excC_of {D : Addr} (h : excB K D = true) : ExcC K D := by
  unfold excB at h
  simp only [Bool.and_eq_true, decide_eq_true_eq] at h
  obtain ⟨⟨⟨⟨⟨⟨⟨⟨h1, h2⟩, h3⟩, h4⟩, h5⟩, h6⟩, h7⟩, h8⟩, h9⟩ := h
  exact ⟨h1, h2, h3, h4, h5, h6, h7, h8, h9⟩
def excQB (K : PySem.W.Frag) (C : Addr) : Bool := decide (PySem.W.findIn K (.ref C) "__eq__" = some (some (.builtin "object.__eq__"))) && decide (PySem.W.findIn K (.ref C) "__ne__" = some (some (.builtin "object.__ne__"))) && decide (PySem.W.mroIn K C (.type "object") = some true)
theorem excQ_of {C : Addr} (h : excQB K C = true) : ExcQ K C := by
  unfold excQB at h
  simp only [Bool.and_eq_true, decide_eq_true_eq] at h
  exact ⟨h.1.1, h.1.2, h.2⟩
end

/-! ### t[::-1] of a pair -/

section
variable {prog : Program} {w : World} {A : Around} {E : Value → Shared → Prop} {s : Shared}
theorem rev2_applied {sl : Addr} {u : Tok} {Q : Int × Int × Nat → Shared → Prop} (hs : s.heap.IsSliceOf sl .none .none (.int (-1) u)) (h : Q (1, -1, 2) s) :
    wpAny (model prog w) A (Builtin.Slice.sliceApplied (.ref sl) (pure ((2 : Nat) : Int))) Q E s := by
  obtain ⟨os, e1, e2, e3⟩ := id hs
  unfold Builtin.Slice.sliceApplied Builtin.Slice.sliceFields
  refine wpAny_bind (wpAny_bind (wpAny_field e1 e3 (x := .none) rfl (wpAny_bind (wpAny_field e1 e3 (x := .none) rfl (wpAny_bind (wpAny_field e1 e3 (x := .int (-1) u) rfl (wpAny_pure ?_)))))))
  refine wpAny_bind (slicePart_int ?_)
  show wpAny _ _ (if ((-1 : Int) == 0) = true then _ else _) _ _ s
  rw [if_neg (by decide)]
  refine wpAny_bind (slicePart_none (wpAny_bind (slicePart_none (wpAny_bind (wpAny_pure ?_)))))
  exact wpAny_pure h
theorem rev2_get {t sl : Addr} {a b : Value} {u : Tok} {Q : Value → Shared → Prop} (ht : IsTup s.heap t #[a, b]) (hs : s.heap.IsSliceOf sl .none .none (.int (-1) u))
    (h : Q (.ref s.heap.objs.size) { s with heap := s.heap.push { cls := .type "tuple", data := .seq #[b, a] } }) : wpAny (model prog w) A (getItem (.ref t) (.ref sl)) Q E s := by
  have fits : sizeOk (.seq #[b, a]) := by show (2 : Nat) ≤ sizeLine; rw [sizeLine_eq]; decide
  obtain ⟨os, hos, hcs, hds⟩ := id hs
  have tys : s.TypeIs (.ref sl) "slice" := ⟨os, hos, hcs⟩
  unfold getItem
  try with_reducible refine wpAny_holding ?_
  first | refine wpAny_bind (wpAny_pure ?_) | skip
  refine wpAny_bind (wpAny_sequenceKey ht.typeIs (by decide) ?_)
  refine wpAny_bind (wpAny_callSpecial?_slot (name := Str.ofString "__getitem__") ht.typeIs PyProof.Rows.slot_tuple_getitem (wpAny_call_entry PyProof.Rows.slot_tuple_getitem ht.typeIs entry_tuple_getitem ?_ (args_tuple_getitem _ _)))
  show wpAny _ _ (Builtin.Tuple.tupleItemsOf (.ref t) >>= _) _ _ s
  refine wpAny_bind (PyProof.Rows.tupleItemsOf_ ht ?_)
  refine wpAny_bind (wpAny_typeOf tys ?_)
  rw [if_pos (by decide)]
  refine wpAny_bind (rev2_applied hs ?_)
  show wpAny _ _ (if ((1 : Int) == 0 && (-1 : Int) == 1 && (2 : Nat) == 2) = true then _ else _) _ _ s
  rw [if_neg (by decide)]
  first
    | exact wpAny_bind (m := Builtin.Tuple.tupleExact _) (wpAny_newObj_type (wpAny_pure ⟨_, rfl, wpAny_pure h⟩) fits)
    | exact wpAny_bind (m := Builtin.Tuple.tupleExact _) (wpAny_newObj_type (wpAny_bind (wpAny_pure (wpAny_pure ⟨_, rfl, wpAny_pure h⟩))) fits)
    | exact wpAny_bind (wpAny_bind (m := Builtin.Tuple.tupleExact _) (wpAny_newObj_type (wpAny_pure (wpAny_pure ⟨_, rfl, wpAny_pure h⟩)) fits))
    | exact wpAny_bind (wpAny_bind (m := Builtin.Tuple.tupleExact _) (wpAny_newObj_type (wpAny_pure ⟨_, rfl, wpAny_pure h⟩) fits))
end
structure RRev2 (K : PySem.W.Frag) (x : V) (H : Hp) (Q : VK) : Prop where
  ex : ∃ a v w, x = .ref a ∧ SqT K H a [v, w] ∧ ∀ p, H p = none → Q (.ref p) (upd H p (.tup [w, v]))
def tRev2 (K : PySem.W.Frag) (te : TE) : TE := fun σ H Q => te σ H fun x H1 => RRev2 K x H1 Q
theorem pe_rev2 {X : Cx} {e : Expr} {te : TE} {k : Nat} {p1 p2 p3 pos : Pos} (he : PE X e te) : PE X (.Subscript e (.Slice none none (some (.UnaryOp .USub (.Constant (.int 1) k p1) p2)) p3) pos) (tRev2 X.K te) := by
  constructor
  intro pins s sl H Q inv want
  refine Subscript_ (thn (he.run pins s sl H _ inv want) ?_)
  rintro v s1 ⟨x, H1, inv1, rel, ⟨a, b, c, ex, hx, q⟩⟩
  subst ex
  cases rel
  have step := po_some (X := X) (pe_un (X := X) (pos := p2) un_neg (pe_int (X := X) (i := 1) (j := k) (pos := p1)))
  refine wpAny_Slice (thn (po_none.run pins s1 sl H1 (fun o H2 => o = none ∧ H2 = H1) inv1 ⟨rfl, rfl⟩) ?_)
  rintro vl s2 ⟨l, H2, inv2, pl, el, e2⟩
  subst el e2
  refine thn (po_none.run pins s2 sl H2 (fun o H3 => o = none ∧ H3 = H2) inv2 ⟨rfl, rfl⟩) ?_
  rintro vu s3 ⟨u, H3, inv3, pu, eu, e3⟩
  subst eu e3
  refine thn (step.run pins s3 sl H3 (fun o H4 => o = some (-1) ∧ H4 = H3) inv3 ⟨1, rfl, -1, rfl, rfl, rfl⟩) ?_
  rintro vs s4 ⟨o, H4, inv4, ps, eo, e4⟩
  subst eo e4
  cases pl
  cases pu
  cases ps with
  | int _ tk =>
    have inv5 : Inv X pins sl H4 { s4 with heap := s4.heap.push { cls := .type "slice", data := .fields #[.none, .none, .int (-1) tk] } } := inv4.kept (t' := s4.toks) fun b ob q => Heap.get?_push_of_some _ q
    obtain ⟨its, r, ht, hz⟩ := inv5.tuple hx
    obtain ⟨u1, u2, e5, r1, r2⟩ := vals2 r
    subst e5
    show wpAny (model X.prog X.w) X.A (subscriptTail e (.Slice none none (some (.UnaryOp .USub (.Constant (.int 1) k p1) p2)) p3) (.ref a) (.ref s4.heap.objs.size)) (EP X pins sl Q) X.xe _
    refine tail_any (ops := [.ref a, .ref s4.heap.objs.size]) ht.typeIs (PyProof.Rows.slot_tuple_getitem.lookup) ?_ (by with_unfolding_all rfl)
    refine rev2_get (u := tk) ht (Heap.IsSliceOf.new _ _ _ _) ?_
    refine ⟨.ref _, _, inv5.laid (t' := s4.toks) (o := .tup [c, b]) (fun b ob q => Heap.get?_push_of_some _ q) (Nat.le_refl _) ?_, rfl, q _ (inv5.hok.fresh (Nat.le_refl _))⟩
    refine ⟨by show 2 ≤ sizeLine; rw [sizeLine_eq]; decide, [u2, u1], .cons r2 (.cons r1 .nil), IsTup.new _ _⟩
/-- t[::-1] of a pair -/
def rRev2 (ra : TR) : TR := fun σ S R RE => ra σ S (fun x S1 => ∃ a b, x = .tup [a, b] ∧ R (.tup [b, a]) S1) RE
theorem et_rev2 {X : Cx} {E : XK} {e : Expr} {ra : TR} {k : Nat} {p1 p2 p3 pos : Pos} (ha : ET X E e ra) : ET X E (.Subscript e (.Slice none none (some (.UnaryOp .USub (.Constant (.int 1) k p1) p2)) p3) pos) (rRev2 ra) :=
  ⟨pe_weak (pe_rev2 ha.pe) fun sl H Q ⟨⟨Z, σ, S, R, RE, fr, ok, w, po, xo⟩⟩ => ⟨Z, σ, S, _, RE, fr, ok, w, fun x S1 v H1 k1 le1 ok1 rep => by
    obtain ⟨a, b, rfl, k1⟩ := k1
    cases rep with
    | tup h1 r1 =>
      cases r1 with
      | cons ra r1 => cases r1 with
        | cons rb r1 =>
          cases r1
          exact ⟨_, _, _, rfl, h1.sq, fun p hp => po _ _ _ _ k1 (le1.trans (le_new hp)) (ok1.new hp) (.tupN ok1 hp (.cons rb (.cons ra .nil)))⟩, xo⟩⟩

/-! the text -/
/-! numbers -/
def gcdI (a b : Int) : Int := (Int.gcd a b : Int)
theorem gcdI_step {a b : Int} (hb : 0 < b) : gcdI b (a % b) = gcdI a b := by
  unfold gcdI
  rw [Int.gcd_comm a b, Int.emod_def, Int.mul_comm b, Int.gcd_sub_mul_right_right]
theorem gcdI_zero {a : Int} (ha : 0 < a) : gcdI a 0 = a := by
  unfold gcdI
  rw [Int.gcd_zero_right]
  omega
theorem gcdI_pos {a b : Int} (ha : 0 < a) : 0 < gcdI a b := by
  unfold gcdI
  have := Int.gcd_pos_of_ne_zero_left b (show a ≠ 0 by omega)
  omega
theorem gcdI_le {a b : Int} (ha : 0 < a) : gcdI a b ≤ a := by
  unfold gcdI
  exact Int.le_of_dvd ha (Int.gcd_dvd_left ..)
theorem gcdI_comm (a b : Int) : gcdI a b = gcdI b a := by unfold gcdI; rw [Int.gcd_comm]
theorem gcdI_one {a : Int} : gcdI a 1 = 1 := by
  unfold gcdI
  rw [Int.gcd_one_right]
  rfl
theorem emod_lt {a b : Int} (hb : 0 < b) : 0 ≤ a % b ∧ a % b < b := ⟨Int.emod_nonneg _ (by omega), Int.emod_lt_of_pos _ hb⟩
/-- within n bits, above 0 -/
structure Pn (n : Nat) (a : Int) : Prop where
  pos : 0 < a
  lt : a.natAbs < 2 ^ n
theorem Pn.up {n m : Nat} {a : Int} (h : Pn n a) (le : n ≤ m) : Pn m a := ⟨h.pos, Nat.lt_of_lt_of_le h.lt (Nat.pow_le_pow_right (by decide) le)⟩
theorem Pn.of {n : Nat} {a : Int} (h : 0 < a) (l : a < 2 ^ n) : Pn n a := ⟨h, by
  have e : ((2 ^ n : Nat) : Int) = (2 : Int) ^ n := by norm_cast
  omega⟩
theorem Pn.le {n : Nat} {a b : Int} (h : Pn n b) (p : 0 < a) (l : a ≤ b) : Pn n a := ⟨p, wide_le (by omega) l h.lt⟩
theorem Pn.mul {n m : Nat} {a b : Int} (h : Pn n a) (k : Pn m b) : Pn (n + m) (a * b) := ⟨Int.mul_pos h.pos k.pos, wide_lt h.lt k.lt⟩
theorem Pn.mulW {n m : Nat} {a b : Int} (h : Pn n a) (k : Pn m b) (l : n + m ≤ 1000000 := by decide) (hn : 0 < n := by decide) (hm : 0 < m := by decide) : IntMulOk a b := (wide_mul h.lt k.lt hn hm l).ok
theorem mulW_of {a b : Int} {n m : Nat} (h : a.natAbs < 2 ^ n) (k : b.natAbs < 2 ^ m) (l : n + m ≤ 1000000 := by decide) (hn : 0 < n := by decide) (hm : 0 < m := by decide) : IntMulOk a b := (wide_mul h k hn hm l).ok
/-- the left one within 64 bits -/
theorem mulL {a b : Int} (h : -(2 ^ 64) < a ∧ a < 2 ^ 64) : IntMulOk a b := CMul.ok (.inl h)
theorem mulR {a b : Int} (h : -(2 ^ 64) < b ∧ b < 2 ^ 64) : IntMulOk a b := CMul.ok (.inr h)
theorem Pn.divW {n : Nat} {b : Int} (h : Pn n b) (x : Int) (l : n ≤ 9000 := by decide) (hn : 0 < n := by decide) : CDivP x b := ⟨h.pos, PyProof.noPylong_of_log2 (wide_div (i := x) h.pos h.lt hn l).2⟩
theorem div_small {b : Int} (h : 0 < b) (l : b < 2 ^ 64) (x : Int) : CDivP x b := (Pn.of (n := 64) h l).divW x
theorem Pn.gcd {n : Nat} {a b : Int} (h : Pn n a) : Pn n (gcdI a b) := h.le (gcdI_pos h.pos) (gcdI_le h.pos)
/-! lowest terms -/
def lwA (a b : Int) : Int := a / gcdI a b
def lwB (a b : Int) : Int := b / gcdI a b
theorem Pn.lwA {n : Nat} {a b : Int} (h : Pn n a) : Pn n (lwA a b) :=
  h.le (Int.ediv_pos_of_pos_of_dvd h.pos (by have := gcdI_pos (b := b) h.pos; omega) (Int.gcd_dvd_left ..)) (Int.ediv_le_self _ (by have := h.pos; omega))
theorem Pn.lwB {n : Nat} {a b : Int} (ha : 0 < a) (h : Pn n b) : Pn n (lwB a b) :=
  h.le (Int.ediv_pos_of_pos_of_dvd h.pos (by have := gcdI_pos (b := b) ha; omega) (Int.gcd_dvd_right ..)) (Int.ediv_le_self _ (by have := h.pos; omega))
theorem gcd_low {a b : Int} (ha : 0 < a) : gcdI (lwA a b) (lwB a b) = 1 := by
  have h := gcdI_pos (b := b) ha
  unfold lwA lwB
  unfold gcdI at h ⊢
  rw [Int.gcd_ediv_gcd_ediv_gcd (by omega)]
  rfl
theorem lwA_one {a : Int} : lwA a 1 = a := by unfold lwA; rw [gcdI_one, Int.ediv_one]
theorem lwB_one {a : Int} : lwB a 1 = 1 := by unfold lwB; rw [gcdI_one]; rfl
/-- a fraction in lowest terms, both parts within n bits -/
structure Fr (n : Nat) (x y : Int) : Prop where
  a : Pn n x
  b : Pn n y
  g : gcdI x y = 1
theorem Fr.up {n m : Nat} {a b : Int} (h : Fr n a b) (le : n ≤ m) : Fr m a b := ⟨h.a.up le, h.b.up le, h.g⟩
theorem Fr.low {n : Nat} {a b : Int} (ha : Pn n a) (hb : Pn n b) : Fr n (lwA a b) (lwB a b) := ⟨ha.lwA, hb.lwB ha.pos, gcd_low ha.pos⟩
theorem Fr.lwA {n : Nat} {a b : Int} (h : Fr n a b) : lwA a b = a := by unfold Gd.lwA; rw [h.g, Int.ediv_one]
theorem Fr.lwB {n : Nat} {a b : Int} (h : Fr n a b) : lwB a b = b := by unfold Gd.lwB; rw [h.g, Int.ediv_one]
/-- a tree of it -/
def frT (a b : Int) : T := .tup [.int a, .int b]
/-! while, by an invariant and a measure -/
theorem while_inv {tc : TRB} {rb : TRS} {D : EnT} {σ : Fm} {S : Store} (I : Fm → Store → Prop) (μ : Fm → Store → Nat) (h0 : I σ S)
    (turn : ∀ σ S, I σ S → ∀ N : Fm → Store → Prop, (∀ σ' S', I σ' S' → μ σ' S' < μ σ S → N σ' S') → tc σ S (fun c S1 => if c = true then rb { D with nx := N, ct := N, bk := D.nx } σ S1 else D.nx σ S1) D.ex) : sWhile tc rb D σ S :=
  ⟨fun m σ S => I σ S ∧ μ σ S = m, ⟨_, h0, rfl⟩, fun m σ S ⟨i, e⟩ => turn σ S i _ fun σ' S' i' l => ⟨μ σ' S', by omega, i', rfl⟩⟩
theorem ite_d {c : Prop} [Decidable c] {A B : Prop} (h : c → A) (h' : ¬ c → B) : if (decide c) = true then A else B := by
  by_cases e : c
  · rw [if_pos (decide_eq_true e)]; exact h e
  · rw [if_neg (by simp [e])]; exact h' e
/-- one statement, then the rest -/
theorem sSeq_i {ra rb : TRS} {D : EnT} {σ : Fm} {S : Store} (h : ∀ N : Fm → Store → Prop, (∀ σ' S', rb D σ' S' → N σ' S') → ra { D with nx := N } σ S) : sSeq ra rb D σ S := h _ fun _ _ q => q
theorem sc_common_divisor : FnScope ["one", "other"] ["one", "other"] (defScope s_common_divisor) := ⟨rfl, rfl, rfl, by decide +kernel, rfl, by decide +kernel, by decide +kernel⟩
def sp_common_divisor : SpT := fun ts S R _ => match ts with
  | [.int a, .int b] => 0 < a ∧ 0 ≤ b ∧ R (.int (gcdI a b)) S
  | _ => False
theorem ok_common_divisor {P : Program} {w : World} {K : PySem.W.Frag} {mg : Str → Option Value} {base : Heap} {f : Addr} {fd : FuncData}   (F : Fun K "common_divisor" "common_divisor" s_common_divisor f fd)
    : FnT P w K mg base 1 f fd ["one", "other"] sp_common_divisor := by
  refine okT F sc_common_divisor (by intro ts S R RE h; unfold sp_common_divisor at h; split at h <;> first | rfl | exact h.elim) (fun cdv A out s H E hg hr => (bs_cons (ss_while (passes_of rfl) (tt_cmp op_gt cv_B2n (et_var (pv 1)) et_int (nomark _)) (bs_one (ss_par (i := 0) (j := 1) (by rfl) sc_common_divisor.nd rfl rfl (by decide) rfl rfl (at_cons (et_var (pv 1)) (at_cons (et_op op_mod cv_I2 (et_var (pv 0)) (et_var (pv 1))) at_nil)) (by rfl))))
    (bs_one (ss_ret (et_var (pv 0)))))) ?_
  intro ts S R RE h
  unfold sp_common_divisor at h
  split at h
  · rename_i a b
    obtain ⟨ha, hb, q⟩ := h
    refine while_inv (fun σ S' => S' = S ∧ ∃ x y : Int, σ = [some (.int x), some (.int y)] ∧ 0 < x ∧ 0 ≤ y ∧ gcdI x y = gcdI a b) (fun σ _ => match σ with | [_, some (.int y)] => y.toNat | _ => 0) ⟨rfl, a, b, rfl, ha, hb, rfl⟩ ?_
    rintro σ S' ⟨rfl, x, y, rfl, hx, hy, g⟩ N hN
    simp only [sSeq, sAsg, sDrop, sRet, sRetN, sIf, sNext, sPar, sPar3, sFor, sRaise, sFldT, sNo, rNo, rVar, rFrz, rC, rBin, rTest, bAnd, bOr, bNot, bIf, vAnd, vOr, vNot, rIf, rNeg, aNil, aCons, rTup, rLst, rLstC, rArgs, gNameT, gNilT, gConsT, gTupT, gSubT, iSeq, iRng1T, iRng2T, rLc, rCall, rCallN, rCallS, rFld, rCon, rMake, rMakeN, rMakeP, rMeth, rMethK, rProp, rClsFn, rOpOwn, rSl, oNone, oSome, rFmt, kFmt, rJs, rLidx, rChain, rTru, truT, rStr0, rPart, rSplit, kIntS, gStarT, kStrOwn, kAddC, rDct, kInt1, iEnumT, rMakeStar, rJoin, iZipM, rLcP, kLenOwn, kBoolOwn, rCMeth, rClsStar, rClsMake, rLz, rRevL, rRev2, rCMethK, rExcV, rMut, kAdd, kI2, kI2n, kMul, kIx, kIn, kLen, kU, kA2, kDm, kStrI, kAll, kSl, kAppend, kExtend, kTuple, kList, lenT, seqOf, bYes, startT, one, pickG, selG, insOf, putT, flatT, Bool.false_xor, Bool.true_xor, List.all_cons, List.all_nil, Bool.and_self, T.int.injEq, T.bl.injEq, T.str.injEq, T.lst.injEq, T.tup.injEq, T.cell.injEq, T.ins.injEq, Cell.lst.injEq, Cell.ins.injEq, Prod.mk.injEq, List.cons.injEq, Option.some.injEq, List.map_cons, List.map_nil, List.length_cons, List.length_nil, List.cons_append, List.nil_append, List.append_nil, List.getElem?_cons_zero, List.getElem?_cons_succ, List.set_cons_zero, List.set_cons_succ, List.replicate_succ, List.replicate_zero, exists_eq_left, exists_eq_left', exists_and_left, and_true, true_and, and_self, and_assoc, Nat.sub_self, Nat.reduceAdd, Nat.reduceSub, Nat.zero_add, put_put, put_same, reduceIte, Bool.false_eq_true, Bool.true_eq_false, Bool.not_true, Bool.not_false, at_0, at_1, at_2, at_3, at_4, at_5, at_6, at_7, ix_1_0, ix_2_0, ix_2_1, ix_3_0, ix_3_1, ix_3_2, ix_4_0, ix_4_1, ix_4_2, ix_4_3]
    refine ite_d (fun c => ?_) (fun c => ?_)
    · have := emod_lt (a := x) c
      exact ⟨c, hN _ _ ⟨rfl, y, _, rfl, c, this.1, (gcdI_step c).trans g⟩ (by show (x % y).toNat < y.toNat; omega)⟩
    · have e : y = 0 := by omega
      subst e
      rw [gcdI_zero hx] at g
      subst g
      exact q
  · exact h.elim
theorem sc_lowest_terms : FnScope ["top", "bottom", "divisor"] ["top", "bottom"] (defScope s_lowest_terms) := ⟨rfl, rfl, rfl, by decide +kernel, rfl, by decide +kernel, by decide +kernel⟩
def sp_lowest_terms : SpT := fun ts S R _ => match ts with
  | [.int a, .int b] => Pn 8000 a ∧ 0 < b ∧ R (frT (lwA a b) (lwB a b)) S
  | _ => False
theorem ok_lowest_terms {P : Program} {w : World} {K : PySem.W.Frag} {mg : Str → Option Value} {base : Heap} {f : Addr} {fd : FuncData} {g_common_divisor : Addr} {gd_common_divisor : FuncData} (F : Fun K "lowest_terms" "lowest_terms" s_lowest_terms f fd)
    (G_common_divisor : FnT P w K mg base 1 g_common_divisor gd_common_divisor ["one", "other"] sp_common_divisor)
    (m_common_divisor : mg "common_divisor" = some (.ref g_common_divisor))
    (k_common_divisor : PySem.W.keepIn K (.ref g_common_divisor) = true)
    (b_common_divisor : Binds K gd_common_divisor ["one", "other"] [])
    : FnT P w K mg base 2 f fd ["top", "bottom"] sp_lowest_terms := by
  refine okT F sc_lowest_terms (by intro ts S R RE h; unfold sp_lowest_terms at h; split at h <;> first | rfl | exact h.elim) (fun cdv A out s H E hg hr => (bs_cons (ss_set (i := 2) sc_lowest_terms.nd rfl (by first | exact Or.inl rfl | exact Or.inr rfl) (et_callD G_common_divisor hg (hr.mono (by decide)) (by rfl) m_common_divisor k_common_divisor (CallD.all b_common_divisor) (passL2N (L2N.takes_of rfl rfl rfl rfl)) (at_cons (et_var (pv 0)) (at_cons (et_var (pv 1)) at_nil))))
    (bs_one (ss_ret (et_tup (at_cons (et_op op_fdivP cv_I2 (et_var (pv 0)) (et_var (pv 2))) (at_cons (et_op op_fdivP cv_I2 (et_var (pv 1)) (et_var (pv 2))) at_nil))))))) ?_
  intro ts S R RE h
  unfold sp_lowest_terms at h
  split at h
  · rename_i a b
    obtain ⟨ha, hb, q⟩ := h
    simp only [sSeq, sAsg, sDrop, sRet, sRetN, sIf, sNext, sPar, sPar3, sFor, sRaise, sFldT, sNo, rNo, rVar, rFrz, rC, rBin, rTest, bAnd, bOr, bNot, bIf, vAnd, vOr, vNot, rIf, rNeg, aNil, aCons, rTup, rLst, rLstC, rArgs, gNameT, gNilT, gConsT, gTupT, gSubT, iSeq, iRng1T, iRng2T, rLc, rCall, rCallN, rCallS, rFld, rCon, rMake, rMakeN, rMakeP, rMeth, rMethK, rProp, rClsFn, rOpOwn, rSl, oNone, oSome, rFmt, kFmt, rJs, rLidx, rChain, rTru, truT, rStr0, rPart, rSplit, kIntS, gStarT, kStrOwn, kAddC, rDct, kInt1, iEnumT, rMakeStar, rJoin, iZipM, rLcP, kLenOwn, kBoolOwn, rCMeth, rClsStar, rClsMake, rLz, rRevL, rRev2, rCMethK, rExcV, rMut, kAdd, kI2, kI2n, kMul, kIx, kIn, kLen, kU, kA2, kDm, kStrI, kAll, kSl, kAppend, kExtend, kTuple, kList, lenT, seqOf, bYes, startT, one, pickG, selG, insOf, putT, flatT, Bool.false_xor, Bool.true_xor, List.all_cons, List.all_nil, Bool.and_self, T.int.injEq, T.bl.injEq, T.str.injEq, T.lst.injEq, T.tup.injEq, T.cell.injEq, T.ins.injEq, Cell.lst.injEq, Cell.ins.injEq, Prod.mk.injEq, List.cons.injEq, Option.some.injEq, List.map_cons, List.map_nil, List.length_cons, List.length_nil, List.cons_append, List.nil_append, List.append_nil, List.getElem?_cons_zero, List.getElem?_cons_succ, List.set_cons_zero, List.set_cons_succ, List.replicate_succ, List.replicate_zero, exists_eq_left, exists_eq_left', exists_and_left, and_true, true_and, and_self, and_assoc, Nat.sub_self, Nat.reduceAdd, Nat.reduceSub, Nat.zero_add, put_put, put_same, reduceIte, Bool.false_eq_true, Bool.true_eq_false, Bool.not_true, Bool.not_false, at_0, at_1, at_2, at_3, at_4, at_5, at_6, at_7, ix_1_0, ix_2_0, ix_2_1, ix_3_0, ix_3_1, ix_3_2, ix_4_0, ix_4_1, ix_4_2, ix_4_3]
    refine ⟨ha.pos, by omega, ?_⟩
    simp only [sSeq, sAsg, sDrop, sRet, sRetN, sIf, sNext, sPar, sPar3, sFor, sRaise, sFldT, sNo, rNo, rVar, rFrz, rC, rBin, rTest, bAnd, bOr, bNot, bIf, vAnd, vOr, vNot, rIf, rNeg, aNil, aCons, rTup, rLst, rLstC, rArgs, gNameT, gNilT, gConsT, gTupT, gSubT, iSeq, iRng1T, iRng2T, rLc, rCall, rCallN, rCallS, rFld, rCon, rMake, rMakeN, rMakeP, rMeth, rMethK, rProp, rClsFn, rOpOwn, rSl, oNone, oSome, rFmt, kFmt, rJs, rLidx, rChain, rTru, truT, rStr0, rPart, rSplit, kIntS, gStarT, kStrOwn, kAddC, rDct, kInt1, iEnumT, rMakeStar, rJoin, iZipM, rLcP, kLenOwn, kBoolOwn, rCMeth, rClsStar, rClsMake, rLz, rRevL, rRev2, rCMethK, rExcV, rMut, kAdd, kI2, kI2n, kMul, kIx, kIn, kLen, kU, kA2, kDm, kStrI, kAll, kSl, kAppend, kExtend, kTuple, kList, lenT, seqOf, bYes, startT, one, pickG, selG, insOf, putT, flatT, Bool.false_xor, Bool.true_xor, List.all_cons, List.all_nil, Bool.and_self, T.int.injEq, T.bl.injEq, T.str.injEq, T.lst.injEq, T.tup.injEq, T.cell.injEq, T.ins.injEq, Cell.lst.injEq, Cell.ins.injEq, Prod.mk.injEq, List.cons.injEq, Option.some.injEq, List.map_cons, List.map_nil, List.length_cons, List.length_nil, List.cons_append, List.nil_append, List.append_nil, List.getElem?_cons_zero, List.getElem?_cons_succ, List.set_cons_zero, List.set_cons_succ, List.replicate_succ, List.replicate_zero, exists_eq_left, exists_eq_left', exists_and_left, and_true, true_and, and_self, and_assoc, Nat.sub_self, Nat.reduceAdd, Nat.reduceSub, Nat.zero_add, put_put, put_same, reduceIte, Bool.false_eq_true, Bool.true_eq_false, Bool.not_true, Bool.not_false, at_0, at_1, at_2, at_3, at_4, at_5, at_6, at_7, ix_1_0, ix_2_0, ix_2_1, ix_3_0, ix_3_1, ix_3_2, ix_4_0, ix_4_1, ix_4_2, ix_4_3]
    exact ⟨ha.gcd.divW _, ha.gcd.divW _, by decide, q⟩
  · exact h.elim
/-! of what kind a value is -/
def kindsT : List String := ["int", "bool", "str", "tuple", "list"]
def isK : T → String → Bool
  | .int _, n => n == "int"
  | .bl _, n => n == "bool" || n == "int"
  | .str _, n => n == "str"
  | .tup _, n => n == "tuple"
  | .lst _, n => n == "list"
  | .scr _, n => n == "list"
  | .cell _, n => n == "list"
  | _, _ => false
/-- a value of which the kind is known -/
def ValT (K : PySem.W.Frag) (S : Store) (x : T) : Prop := ∃ t, TyT K S x t ∧ ∀ n ∈ kindsT, PySem.W.kitOne K t (.type n) = some (isK x n)
theorem kind_of {K : PySem.W.Frag} {S : Store} {x : T} {ty : String} (h : TyT K S x (.type ty)) (e : kindsT.all (fun n => kitB ty n == some (isK x n)) = true) : ValT K S x :=
  ⟨_, h, fun n m => kit_ty (by have := List.all_eq_true.mp e n m; simpa using this)⟩
section
variable {K : PySem.W.Frag} {S : Store}
theorem ValT.non : ValT K S .non := kind_of .non (by decide +kernel)
theorem ValT.bl {b : Bool} : ValT K S (.bl b) := kind_of (.bl b) (by show (kindsT.all fun n => kitB "bool" n == some (isK (.bl true) n)) = true; decide +kernel)
theorem ValT.int {i : Int} : ValT K S (.int i) := kind_of (.int i) (by show (kindsT.all fun n => kitB "int" n == some (isK (.int 0) n)) = true; decide +kernel)
theorem ValT.str {z : Str} : ValT K S (.str z) := kind_of (.str z) (by show (kindsT.all fun n => kitB "str" n == some (isK (.str Str.empty) n)) = true; decide +kernel)
theorem ValT.tup {l : List T} : ValT K S (.tup l) := kind_of (.tup l) (by show (kindsT.all fun n => kitB "tuple" n == some (isK (.tup []) n)) = true; decide +kernel)
theorem ValT.lst {l : List T} : ValT K S (.lst l) := kind_of (.lst l) (by show (kindsT.all fun n => kitB "list" n == some (isK (.lst []) n)) = true; decide +kernel)
theorem ValT.is {x : T} {n : String} (h : ValT K S x) (m : n ∈ kindsT) {R : T → Store → Prop} {RE : XT} (q : R (.bl (isK x n)) S) : kIsi K [x, .ty n] S R RE := by
  obtain ⟨t, ty, k⟩ := h
  exact ⟨x, .ty n, t, .type n, _, rfl, .ty n, ty, k n m, q⟩
end
def isInt : T → Bool
  | .int _ => true
  | _ => false
def isPos : T → Bool
  | .int i => decide (0 < i)
  | _ => false
theorem sc_is_integer : FnScope ["value"] ["value"] (defScope s_is_integer) := ⟨rfl, rfl, rfl, by decide +kernel, rfl, by decide +kernel, by decide +kernel⟩
def sp_is_integer (K : PySem.W.Frag) : SpT := fun ts S R _ => match ts with
  | [x] => ValT K S x ∧ R (.bl (isInt x)) S
  | _ => False
theorem ok_is_integer {P : Program} {w : World} {K : PySem.W.Frag} {mg : Str → Option Value} {base : Heap} {f : Addr} {fd : FuncData}   (F : Fun K "is_integer" "is_integer" s_is_integer f fd)
    (n_isinstance : mg "isinstance" = none)
    (n_bool : mg "bool" = none)
    (n_int : mg "int" = none)
    : FnT P w K mg base 1 f fd ["value"] (sp_is_integer K) := by
  refine okT F sc_is_integer (by intro ts S R RE h; unfold sp_is_integer at h; split at h <;> first | rfl | exact h.elim) (fun cdv A out s H E hg hr => (bs_one (ss_ret (et_and (et_blt call_isiY (cv_isi (K := K)) (by rfl) n_isinstance PyProof.Rows.boot_isinstance (at_cons (et_var (pv 0)) (at_cons (et_blty (by rfl) n_int PyProof.Rows.boot_int) at_nil))) (et_one (et_not (et_blt call_isiY (cv_isi (K := K)) (by rfl) n_isinstance PyProof.Rows.boot_isinstance (at_cons (et_var (pv 0)) (at_cons (et_blty (by rfl) n_bool PyProof.Rows.boot_bool) at_nil))))))))) ?_
  intro ts S R RE h
  unfold sp_is_integer at h
  split at h
  · rename_i x
    obtain ⟨hv, q⟩ := h
    simp only [sSeq, sAsg, sDrop, sRet, sRetN, sIf, sNext, sPar, sPar3, sFor, sRaise, sFldT, sNo, rNo, rVar, rFrz, rC, rBin, rTest, bAnd, bOr, bNot, bIf, vAnd, vOr, vNot, rIf, rNeg, aNil, aCons, rTup, rLst, rLstC, rArgs, gNameT, gNilT, gConsT, gTupT, gSubT, iSeq, iRng1T, iRng2T, rLc, rCall, rCallN, rCallS, rFld, rCon, rMake, rMakeN, rMakeP, rMeth, rMethK, rProp, rClsFn, rOpOwn, rSl, oNone, oSome, rFmt, kFmt, rJs, rLidx, rChain, rTru, truT, rStr0, rPart, rSplit, kIntS, gStarT, kStrOwn, kAddC, rDct, kInt1, iEnumT, rMakeStar, rJoin, iZipM, rLcP, kLenOwn, kBoolOwn, rCMeth, rClsStar, rClsMake, rLz, rRevL, rRev2, rCMethK, rExcV, rMut, kAdd, kI2, kI2n, kMul, kIx, kIn, kLen, kU, kA2, kDm, kStrI, kAll, kSl, kAppend, kExtend, kTuple, kList, lenT, seqOf, bYes, startT, one, pickG, selG, insOf, putT, flatT, Bool.false_xor, Bool.true_xor, List.all_cons, List.all_nil, Bool.and_self, T.int.injEq, T.bl.injEq, T.str.injEq, T.lst.injEq, T.tup.injEq, T.cell.injEq, T.ins.injEq, Cell.lst.injEq, Cell.ins.injEq, Prod.mk.injEq, List.cons.injEq, Option.some.injEq, List.map_cons, List.map_nil, List.length_cons, List.length_nil, List.cons_append, List.nil_append, List.append_nil, List.getElem?_cons_zero, List.getElem?_cons_succ, List.set_cons_zero, List.set_cons_succ, List.replicate_succ, List.replicate_zero, exists_eq_left, exists_eq_left', exists_and_left, and_true, true_and, and_self, and_assoc, Nat.sub_self, Nat.reduceAdd, Nat.reduceSub, Nat.zero_add, put_put, put_same, reduceIte, Bool.false_eq_true, Bool.true_eq_false, Bool.not_true, Bool.not_false, at_0, at_1, at_2, at_3, at_4, at_5, at_6, at_7, ix_1_0, ix_2_0, ix_2_1, ix_3_0, ix_3_1, ix_3_2, ix_4_0, ix_4_1, ix_4_2, ix_4_3]
    refine hv.is (n := "int") (by decide) ?_
    refine ⟨_, rfl, ?_⟩
    cases e : isK x "int" with
    | true =>
      rw [if_pos rfl]
      refine hv.is (n := "bool") (by decide) ?_
      refine ⟨_, rfl, ?_⟩
      have : (!isK x "bool") = isInt x := by cases x <;> first | rfl | (cases e; done)
      rw [this]
      exact q
    | false =>
      have : isInt x = false := by cases x <;> first | rfl | (cases e; done)
      rw [this] at q
      exact q
  · exact h.elim
theorem sc_is_positive : FnScope ["value"] ["value"] (defScope s_is_positive) := ⟨rfl, rfl, rfl, by decide +kernel, rfl, by decide +kernel, by decide +kernel⟩
def sp_is_positive (K : PySem.W.Frag) : SpT := fun ts S R _ => match ts with
  | [x] => ValT K S x ∧ R (.bl (isPos x)) S
  | _ => False
theorem ok_is_positive {P : Program} {w : World} {K : PySem.W.Frag} {mg : Str → Option Value} {base : Heap} {f : Addr} {fd : FuncData} {g_is_integer : Addr} {gd_is_integer : FuncData} (F : Fun K "is_positive" "is_positive" s_is_positive f fd)
    (G_is_integer : FnT P w K mg base 1 g_is_integer gd_is_integer ["value"] (sp_is_integer K))
    (m_is_integer : mg "is_integer" = some (.ref g_is_integer))
    (k_is_integer : PySem.W.keepIn K (.ref g_is_integer) = true)
    (b_is_integer : Binds K gd_is_integer ["value"] [])
    : FnT P w K mg base 2 f fd ["value"] (sp_is_positive K) := by
  refine okT F sc_is_positive (by intro ts S R RE h; unfold sp_is_positive at h; split at h <;> first | rfl | exact h.elim) (fun cdv A out s H E hg hr => (bs_one (ss_ret (et_and (et_callD G_is_integer hg (hr.mono (by decide)) (by rfl) m_is_integer k_is_integer (CallD.all b_is_integer) (passL2N (L2N.takes_of rfl rfl rfl rfl)) (at_cons (et_var (pv 0)) at_nil)) (et_one (et_cmp op_gt cv_B2n (et_var (pv 0)) et_int (nomark _))))))) ?_
  intro ts S R RE h
  unfold sp_is_positive at h
  split at h
  · rename_i x
    obtain ⟨hv, q⟩ := h
    simp only [sp_is_integer, sSeq, sAsg, sDrop, sRet, sRetN, sIf, sNext, sPar, sPar3, sFor, sRaise, sFldT, sNo, rNo, rVar, rFrz, rC, rBin, rTest, bAnd, bOr, bNot, bIf, vAnd, vOr, vNot, rIf, rNeg, aNil, aCons, rTup, rLst, rLstC, rArgs, gNameT, gNilT, gConsT, gTupT, gSubT, iSeq, iRng1T, iRng2T, rLc, rCall, rCallN, rCallS, rFld, rCon, rMake, rMakeN, rMakeP, rMeth, rMethK, rProp, rClsFn, rOpOwn, rSl, oNone, oSome, rFmt, kFmt, rJs, rLidx, rChain, rTru, truT, rStr0, rPart, rSplit, kIntS, gStarT, kStrOwn, kAddC, rDct, kInt1, iEnumT, rMakeStar, rJoin, iZipM, rLcP, kLenOwn, kBoolOwn, rCMeth, rClsStar, rClsMake, rLz, rRevL, rRev2, rCMethK, rExcV, rMut, kAdd, kI2, kI2n, kMul, kIx, kIn, kLen, kU, kA2, kDm, kStrI, kAll, kSl, kAppend, kExtend, kTuple, kList, lenT, seqOf, bYes, startT, one, pickG, selG, insOf, putT, flatT, Bool.false_xor, Bool.true_xor, List.all_cons, List.all_nil, Bool.and_self, T.int.injEq, T.bl.injEq, T.str.injEq, T.lst.injEq, T.tup.injEq, T.cell.injEq, T.ins.injEq, Cell.lst.injEq, Cell.ins.injEq, Prod.mk.injEq, List.cons.injEq, Option.some.injEq, List.map_cons, List.map_nil, List.length_cons, List.length_nil, List.cons_append, List.nil_append, List.append_nil, List.getElem?_cons_zero, List.getElem?_cons_succ, List.set_cons_zero, List.set_cons_succ, List.replicate_succ, List.replicate_zero, exists_eq_left, exists_eq_left', exists_and_left, and_true, true_and, and_self, and_assoc, Nat.sub_self, Nat.reduceAdd, Nat.reduceSub, Nat.zero_add, put_put, put_same, reduceIte, Bool.false_eq_true, Bool.true_eq_false, Bool.not_true, Bool.not_false, at_0, at_1, at_2, at_3, at_4, at_5, at_6, at_7, ix_1_0, ix_2_0, ix_2_1, ix_3_0, ix_3_1, ix_3_2, ix_4_0, ix_4_1, ix_4_2, ix_4_3]
    refine ⟨hv, ?_⟩
    cases x <;> first | exact q | (simp only [isInt, isPos, sSeq, sAsg, sDrop, sRet, sRetN, sIf, sNext, sPar, sPar3, sFor, sRaise, sFldT, sNo, rNo, rVar, rFrz, rC, rBin, rTest, bAnd, bOr, bNot, bIf, vAnd, vOr, vNot, rIf, rNeg, aNil, aCons, rTup, rLst, rLstC, rArgs, gNameT, gNilT, gConsT, gTupT, gSubT, iSeq, iRng1T, iRng2T, rLc, rCall, rCallN, rCallS, rFld, rCon, rMake, rMakeN, rMakeP, rMeth, rMethK, rProp, rClsFn, rOpOwn, rSl, oNone, oSome, rFmt, kFmt, rJs, rLidx, rChain, rTru, truT, rStr0, rPart, rSplit, kIntS, gStarT, kStrOwn, kAddC, rDct, kInt1, iEnumT, rMakeStar, rJoin, iZipM, rLcP, kLenOwn, kBoolOwn, rCMeth, rClsStar, rClsMake, rLz, rRevL, rRev2, rCMethK, rExcV, rMut, kAdd, kI2, kI2n, kMul, kIx, kIn, kLen, kU, kA2, kDm, kStrI, kAll, kSl, kAppend, kExtend, kTuple, kList, lenT, seqOf, bYes, startT, one, pickG, selG, insOf, putT, flatT, Bool.false_xor, Bool.true_xor, List.all_cons, List.all_nil, Bool.and_self, T.int.injEq, T.bl.injEq, T.str.injEq, T.lst.injEq, T.tup.injEq, T.cell.injEq, T.ins.injEq, Cell.lst.injEq, Cell.ins.injEq, Prod.mk.injEq, List.cons.injEq, Option.some.injEq, List.map_cons, List.map_nil, List.length_cons, List.length_nil, List.cons_append, List.nil_append, List.append_nil, List.getElem?_cons_zero, List.getElem?_cons_succ, List.set_cons_zero, List.set_cons_succ, List.replicate_succ, List.replicate_zero, exists_eq_left, exists_eq_left', exists_and_left, and_true, true_and, and_self, and_assoc, Nat.sub_self, Nat.reduceAdd, Nat.reduceSub, Nat.zero_add, put_put, put_same, reduceIte, Bool.false_eq_true, Bool.true_eq_false, Bool.not_true, Bool.not_false, at_0, at_1, at_2, at_3, at_4, at_5, at_6, at_7, ix_1_0, ix_2_0, ix_2_1, ix_3_0, ix_3_1, ix_3_2, ix_4_0, ix_4_1, ix_4_2, ix_4_3] at q ⊢; exact q)
  · exact h.elim
theorem sc_fraction : FnScope ["top", "bottom", "part"] ["top", "bottom"] (defScope s_fraction) := ⟨rfl, rfl, rfl, by decide +kernel, rfl, by decide +kernel, by decide +kernel⟩
def sp_fraction : SpT := fun ts S R _ => match ts with
  | [.int a, .int b] => Pn 8000 a ∧ Pn 8000 b ∧ R (frT (lwA a b) (lwB a b)) S
  | _ => False
theorem ok_fraction {P : Program} {w : World} {K : PySem.W.Frag} {mg : Str → Option Value} {base : Heap} {f : Addr} {fd : FuncData} {g_lowest_terms g_is_positive : Addr} {gd_lowest_terms : FuncData} {gd_is_positive : FuncData} (F : FunD K "fraction" "fraction" (defArgs s_fraction) (defBody s_fraction) (defScope s_fraction) [.int 1] [] f fd)
    (G_lowest_terms : FnT P w K mg base 2 g_lowest_terms gd_lowest_terms ["top", "bottom"] sp_lowest_terms)
    (m_lowest_terms : mg "lowest_terms" = some (.ref g_lowest_terms))
    (k_lowest_terms : PySem.W.keepIn K (.ref g_lowest_terms) = true)
    (b_lowest_terms : Binds K gd_lowest_terms ["top", "bottom"] [])
    (G_is_positive : FnT P w K mg base 2 g_is_positive gd_is_positive ["value"] (sp_is_positive K))
    (m_is_positive : mg "is_positive" = some (.ref g_is_positive))
    (k_is_positive : PySem.W.keepIn K (.ref g_is_positive) = true)
    (b_is_positive : Binds K gd_is_positive ["value"] [])
    : FnT P w K mg base 3 f fd ["top", "bottom"] sp_fraction := by
  refine okTK F sc_fraction (by intro ts S R RE h; unfold sp_fraction at h; split at h <;> first | rfl | exact h.elim) (fun cdv A out s H E hg hr => (bs_cons (ss_for (passes_of rfl) rfl (it_seq (et_tup (at_cons (et_var (pv 0)) (at_cons (et_var (pv 1)) at_nil)))) (gt_name (pg_name (i := 2) sc_fraction.nd rfl (by first | exact Or.inl rfl | exact Or.inr rfl))) (bs_one (ss_if (tt_not (tt_val (et_callD G_is_positive hg (hr.mono (by decide)) (by rfl) m_is_positive k_is_positive (CallD.all b_is_positive) (passL2N (L2N.takes_of rfl rfl rfl rfl)) (at_cons (et_var (pv 2)) at_nil)))) (bs_one ss_never) bs_nil)))
    (bs_one (ss_ret (et_callD G_lowest_terms hg (hr.mono (by decide)) (by rfl) m_lowest_terms k_lowest_terms (CallD.all b_lowest_terms) (passL2N (L2N.takes_of rfl rfl rfl rfl)) (at_cons (et_var (pv 0)) (at_cons (et_var (pv 1)) at_nil))))))) ?_
  intro ts S R RE h
  unfold sp_fraction at h
  split at h
  · rename_i a b
    obtain ⟨ha, hb, q⟩ := h
    have ea : isPos (.int a) = true := decide_eq_true ha.pos
    have eb : isPos (.int b) = true := decide_eq_true hb.pos
    refine sSeq_i fun N hN => ?_
    simp only [sp_is_positive, rLoop, ea, eb, sSeq, sAsg, sDrop, sRet, sRetN, sIf, sNext, sPar, sPar3, sFor, sRaise, sFldT, sNo, rNo, rVar, rFrz, rC, rBin, rTest, bAnd, bOr, bNot, bIf, vAnd, vOr, vNot, rIf, rNeg, aNil, aCons, rTup, rLst, rLstC, rArgs, gNameT, gNilT, gConsT, gTupT, gSubT, iSeq, iRng1T, iRng2T, rLc, rCall, rCallN, rCallS, rFld, rCon, rMake, rMakeN, rMakeP, rMeth, rMethK, rProp, rClsFn, rOpOwn, rSl, oNone, oSome, rFmt, kFmt, rJs, rLidx, rChain, rTru, truT, rStr0, rPart, rSplit, kIntS, gStarT, kStrOwn, kAddC, rDct, kInt1, iEnumT, rMakeStar, rJoin, iZipM, rLcP, kLenOwn, kBoolOwn, rCMeth, rClsStar, rClsMake, rLz, rRevL, rRev2, rCMethK, rExcV, rMut, kAdd, kI2, kI2n, kMul, kIx, kIn, kLen, kU, kA2, kDm, kStrI, kAll, kSl, kAppend, kExtend, kTuple, kList, lenT, seqOf, bYes, startT, one, pickG, selG, insOf, putT, flatT, Bool.false_xor, Bool.true_xor, List.all_cons, List.all_nil, Bool.and_self, T.int.injEq, T.bl.injEq, T.str.injEq, T.lst.injEq, T.tup.injEq, T.cell.injEq, T.ins.injEq, Cell.lst.injEq, Cell.ins.injEq, Prod.mk.injEq, List.cons.injEq, Option.some.injEq, List.map_cons, List.map_nil, List.length_cons, List.length_nil, List.cons_append, List.nil_append, List.append_nil, List.getElem?_cons_zero, List.getElem?_cons_succ, List.set_cons_zero, List.set_cons_succ, List.replicate_succ, List.replicate_zero, exists_eq_left, exists_eq_left', exists_and_left, and_true, true_and, and_self, and_assoc, Nat.sub_self, Nat.reduceAdd, Nat.reduceSub, Nat.zero_add, put_put, put_same, reduceIte, Bool.false_eq_true, Bool.true_eq_false, Bool.not_true, Bool.not_false, at_0, at_1, at_2, at_3, at_4, at_5, at_6, at_7, ix_1_0, ix_2_0, ix_2_1, ix_3_0, ix_3_1, ix_3_2, ix_4_0, ix_4_1, ix_4_2, ix_4_3]
    refine ⟨by decide, .int, .int, hN _ _ ?_⟩
    simp only [sp_lowest_terms, sSeq, sAsg, sDrop, sRet, sRetN, sIf, sNext, sPar, sPar3, sFor, sRaise, sFldT, sNo, rNo, rVar, rFrz, rC, rBin, rTest, bAnd, bOr, bNot, bIf, vAnd, vOr, vNot, rIf, rNeg, aNil, aCons, rTup, rLst, rLstC, rArgs, gNameT, gNilT, gConsT, gTupT, gSubT, iSeq, iRng1T, iRng2T, rLc, rCall, rCallN, rCallS, rFld, rCon, rMake, rMakeN, rMakeP, rMeth, rMethK, rProp, rClsFn, rOpOwn, rSl, oNone, oSome, rFmt, kFmt, rJs, rLidx, rChain, rTru, truT, rStr0, rPart, rSplit, kIntS, gStarT, kStrOwn, kAddC, rDct, kInt1, iEnumT, rMakeStar, rJoin, iZipM, rLcP, kLenOwn, kBoolOwn, rCMeth, rClsStar, rClsMake, rLz, rRevL, rRev2, rCMethK, rExcV, rMut, kAdd, kI2, kI2n, kMul, kIx, kIn, kLen, kU, kA2, kDm, kStrI, kAll, kSl, kAppend, kExtend, kTuple, kList, lenT, seqOf, bYes, startT, one, pickG, selG, insOf, putT, flatT, Bool.false_xor, Bool.true_xor, List.all_cons, List.all_nil, Bool.and_self, T.int.injEq, T.bl.injEq, T.str.injEq, T.lst.injEq, T.tup.injEq, T.cell.injEq, T.ins.injEq, Cell.lst.injEq, Cell.ins.injEq, Prod.mk.injEq, List.cons.injEq, Option.some.injEq, List.map_cons, List.map_nil, List.length_cons, List.length_nil, List.cons_append, List.nil_append, List.append_nil, List.getElem?_cons_zero, List.getElem?_cons_succ, List.set_cons_zero, List.set_cons_succ, List.replicate_succ, List.replicate_zero, exists_eq_left, exists_eq_left', exists_and_left, and_true, true_and, and_self, and_assoc, Nat.sub_self, Nat.reduceAdd, Nat.reduceSub, Nat.zero_add, put_put, put_same, reduceIte, Bool.false_eq_true, Bool.true_eq_false, Bool.not_true, Bool.not_false, at_0, at_1, at_2, at_3, at_4, at_5, at_6, at_7, ix_1_0, ix_2_0, ix_2_1, ix_3_0, ix_3_1, ix_3_2, ix_4_0, ix_4_1, ix_4_2, ix_4_3]
    exact ⟨ha, hb.pos, q⟩
  · exact h.elim
/-! the pool -/
def PoolT (S : Store) (p : Addr) : Prop := ∃ x d c : Int, S p = some (.lst [.int x, .int d, .int c]) ∧ 0 ≤ x ∧ x < 2147483137 ∧ 0 ≤ d
theorem cutT_ints (ns : List Int) (lo hi : Option Int) : ∃ ms : List Int, cutT (ns.map T.int) lo hi = ms.map T.int := by
  refine ⟨(ns.drop (HT.sIx (ns.map T.int).length 0 lo)).take (HT.sIx (ns.map T.int).length (ns.map T.int).length hi - HT.sIx (ns.map T.int).length 0 lo), ?_⟩
  unfold cutT
  rw [List.map_take, List.map_drop]
theorem at_ints {ns : List Int} {k : Int} (h0 : 0 ≤ k) (c : k < (ns.length : Int)) : ∃ z, atI (ns.map T.int) k = some (.int z) := by
  have hn : k.toNat < ns.length := by omega
  have := atI_nat (xs := ns.map T.int) (j := k.toNat) (v := .int ns[k.toNat]) (by rw [List.getElem?_map, List.getElem?_eq_getElem hn]; rfl)
  rw [show ((k.toNat : Nat) : Int) = k by omega] at this
  exact ⟨_, this⟩
/-- the pool at p goes on -/
def PS (S : Store) (p : Addr) (S' : Store) : Prop := ∃ x d c : Int, 0 ≤ x ∧ x < 2147483137 ∧ 0 ≤ d ∧ S' = S.put p (.lst [.int x, .int d, .int c])
theorem PS.pool {S S' : Store} {p : Addr} (h : PS S p S') : PoolT S' p := by
  obtain ⟨x, d, c, h1, h2, h3, rfl⟩ := h
  exact ⟨x, d, c, put_same, h1, h2, h3⟩
theorem PS.trans {S S' S2 : Store} {p : Addr} (h : PS S p S') (k : PS S' p S2) : PS S p S2 := by
  obtain ⟨x, d, c, h1, h2, h3, rfl⟩ := h
  obtain ⟨x', d', c', h1, h2, h3, rfl⟩ := k
  exact ⟨x', d', c', h1, h2, h3, put_put⟩
theorem sc_l_cell : FnScope ["_law_script", "_law_k", "_law_state", "_law_figure"] ["_law_script", "_law_k"] (defScope s_l_cell) := ⟨rfl, rfl, rfl, by decide +kernel, rfl, by decide +kernel, by decide +kernel⟩
def sp_l_cell : SpT := fun ts S R _ => match ts with
  | [.scr ts, .int k] => (∃ ns : List Int, ts = ns.map T.int ∧ ns.length ≤ 63) ∧ 0 ≤ k ∧ k < 2 ^ 60 ∧ ∀ z : Int, R (.int z) S
  | _ => False
theorem ok_l_cell {P : Program} {w : World} {K : PySem.W.Frag} {mg : Str → Option Value} {base : Heap} {f : Addr} {fd : FuncData}   (F : Fun K "_law_cell" "_law_cell" s_l_cell f fd)
    (n_len : mg "len" = none)
    : FnT P w K mg base 1 f fd ["_law_script", "_law_k"] sp_l_cell := by
  refine okT F sc_l_cell (by intro ts S R RE h; unfold sp_l_cell at h; split at h <;> first | rfl | exact h.elim) (fun cdv A out s H E hg hr => (bs_cons (ss_if (tt_cmp op_lt cv_B2n (et_var (pv 1)) (et_blt call_len cv_len (by rfl) n_len PySem.boot_len (at_cons (et_var (pv 0)) at_nil)) (nomark _)) (bs_one (ss_ret (et_ix ix_seq cv_ix (et_var (pv 0)) (et_var (pv 1)) (fun _ _ => rfl)))) bs_nil)
    (bs_cons (ss_set (i := 2) sc_l_cell.nd rfl (by first | exact Or.inl rfl | exact Or.inr rfl) (et_op op_mod cv_I2 (et_op op_mulG cv_mul et_int (et_op op_addG cv_add (et_op op_addG cv_add (et_op op_mulG cv_mul (et_var (pv 1)) (et_var (pv 1))) (et_op op_mulG cv_mul et_int (et_var (pv 1)))) et_int)) et_int))
    (bs_cons (ss_for (passes_of rfl) rfl (it_seq (et_slice (et_var (pv 0)) ot_none (ot_some et_int))) (gt_name (pg_name (i := 3) sc_l_cell.nd rfl (by first | exact Or.inl rfl | exact Or.inr rfl))) (bs_one (ss_set (i := 2) sc_l_cell.nd rfl (by first | exact Or.inl rfl | exact Or.inr rfl) (et_op op_mod cv_I2 (et_op op_addG cv_add (et_op op_mulG cv_mul (et_var (pv 2)) et_int) (et_var (pv 3))) et_int))))
    (bs_one (ss_ret (et_var (pv 2)))))))) ?_
  intro ts S R RE h
  unfold sp_l_cell at h
  split at h
  · rename_i ts k
    obtain ⟨⟨ns, rfl, h63⟩, h0, hk, q⟩ := h
    simp only [sSeq, sAsg, sDrop, sRet, sRetN, sIf, sNext, sPar, sPar3, sFor, sRaise, sFldT, sNo, rNo, rVar, rFrz, rC, rBin, rTest, bAnd, bOr, bNot, bIf, vAnd, vOr, vNot, rIf, rNeg, aNil, aCons, rTup, rLst, rLstC, rArgs, gNameT, gNilT, gConsT, gTupT, gSubT, iSeq, iRng1T, iRng2T, rLc, rCall, rCallN, rCallS, rFld, rCon, rMake, rMakeN, rMakeP, rMeth, rMethK, rProp, rClsFn, rOpOwn, rSl, oNone, oSome, rFmt, kFmt, rJs, rLidx, rChain, rTru, truT, rStr0, rPart, rSplit, kIntS, gStarT, kStrOwn, kAddC, rDct, kInt1, iEnumT, rMakeStar, rJoin, iZipM, rLcP, kLenOwn, kBoolOwn, rCMeth, rClsStar, rClsMake, rLz, rRevL, rRev2, rCMethK, rExcV, rMut, kAdd, kI2, kI2n, kMul, kIx, kIn, kLen, kU, kA2, kDm, kStrI, kAll, kSl, kAppend, kExtend, kTuple, kList, lenT, seqOf, bYes, startT, one, pickG, selG, insOf, putT, flatT, Bool.false_xor, Bool.true_xor, List.all_cons, List.all_nil, Bool.and_self, T.int.injEq, T.bl.injEq, T.str.injEq, T.lst.injEq, T.tup.injEq, T.cell.injEq, T.ins.injEq, Cell.lst.injEq, Cell.ins.injEq, Prod.mk.injEq, List.cons.injEq, Option.some.injEq, List.map_cons, List.map_nil, List.length_cons, List.length_nil, List.cons_append, List.nil_append, List.append_nil, List.getElem?_cons_zero, List.getElem?_cons_succ, List.set_cons_zero, List.set_cons_succ, List.replicate_succ, List.replicate_zero, exists_eq_left, exists_eq_left', exists_and_left, and_true, true_and, and_self, and_assoc, Nat.sub_self, Nat.reduceAdd, Nat.reduceSub, Nat.zero_add, put_put, put_same, reduceIte, Bool.false_eq_true, Bool.true_eq_false, Bool.not_true, Bool.not_false, at_0, at_1, at_2, at_3, at_4, at_5, at_6, at_7, ix_1_0, ix_2_0, ix_2_1, ix_3_0, ix_3_1, ix_3_2, ix_4_0, ix_4_1, ix_4_2, ix_4_3]
    refine ite_d (fun c => ?_) (fun c => ?_)
    · rw [List.length_map] at c
      obtain ⟨z, hz⟩ := at_ints h0 c
      exact ⟨_, hz, q z⟩
    · refine ⟨mulL (by omega), mulL (by decide), mulL (by decide), by decide, ?_⟩
      obtain ⟨ms, em⟩ := cutT_ints ns none (some 3)
      rw [em]
      refine rLoop_inv (fun _ σ S' => S' = S ∧ ∃ (z : Int) (v : Option T), σ = [some (.scr (ns.map T.int)), some (.int k), some (.int z), v] ∧ 0 ≤ z ∧ z < 2147483137) ⟨rfl, _, none, rfl, (emod_lt (by decide)).1, (emod_lt (by decide)).2⟩ ?_ ?_
      · rintro i t σ S' hi ⟨rfl, z, v, rfl, z0, z1⟩ N hN
        rw [List.getElem?_map] at hi
        obtain ⟨y, _, rfl⟩ := Option.map_eq_some_iff.mp hi
        simp only [sSeq, sAsg, sDrop, sRet, sRetN, sIf, sNext, sPar, sPar3, sFor, sRaise, sFldT, sNo, rNo, rVar, rFrz, rC, rBin, rTest, bAnd, bOr, bNot, bIf, vAnd, vOr, vNot, rIf, rNeg, aNil, aCons, rTup, rLst, rLstC, rArgs, gNameT, gNilT, gConsT, gTupT, gSubT, iSeq, iRng1T, iRng2T, rLc, rCall, rCallN, rCallS, rFld, rCon, rMake, rMakeN, rMakeP, rMeth, rMethK, rProp, rClsFn, rOpOwn, rSl, oNone, oSome, rFmt, kFmt, rJs, rLidx, rChain, rTru, truT, rStr0, rPart, rSplit, kIntS, gStarT, kStrOwn, kAddC, rDct, kInt1, iEnumT, rMakeStar, rJoin, iZipM, rLcP, kLenOwn, kBoolOwn, rCMeth, rClsStar, rClsMake, rLz, rRevL, rRev2, rCMethK, rExcV, rMut, kAdd, kI2, kI2n, kMul, kIx, kIn, kLen, kU, kA2, kDm, kStrI, kAll, kSl, kAppend, kExtend, kTuple, kList, lenT, seqOf, bYes, startT, one, pickG, selG, insOf, putT, flatT, Bool.false_xor, Bool.true_xor, List.all_cons, List.all_nil, Bool.and_self, T.int.injEq, T.bl.injEq, T.str.injEq, T.lst.injEq, T.tup.injEq, T.cell.injEq, T.ins.injEq, Cell.lst.injEq, Cell.ins.injEq, Prod.mk.injEq, List.cons.injEq, Option.some.injEq, List.map_cons, List.map_nil, List.length_cons, List.length_nil, List.cons_append, List.nil_append, List.append_nil, List.getElem?_cons_zero, List.getElem?_cons_succ, List.set_cons_zero, List.set_cons_succ, List.replicate_succ, List.replicate_zero, exists_eq_left, exists_eq_left', exists_and_left, and_true, true_and, and_self, and_assoc, Nat.sub_self, Nat.reduceAdd, Nat.reduceSub, Nat.zero_add, put_put, put_same, reduceIte, Bool.false_eq_true, Bool.true_eq_false, Bool.not_true, Bool.not_false, at_0, at_1, at_2, at_3, at_4, at_5, at_6, at_7, ix_1_0, ix_2_0, ix_2_1, ix_3_0, ix_3_1, ix_3_2, ix_4_0, ix_4_1, ix_4_2, ix_4_3]
        exact ⟨mulL (by omega), by decide, hN _ _ ⟨rfl, _, _, rfl, (emod_lt (by decide)).1, (emod_lt (by decide)).2⟩⟩
      · rintro σ S' ⟨rfl, z, v, rfl, _⟩
        simp only [sSeq, sAsg, sDrop, sRet, sRetN, sIf, sNext, sPar, sPar3, sFor, sRaise, sFldT, sNo, rNo, rVar, rFrz, rC, rBin, rTest, bAnd, bOr, bNot, bIf, vAnd, vOr, vNot, rIf, rNeg, aNil, aCons, rTup, rLst, rLstC, rArgs, gNameT, gNilT, gConsT, gTupT, gSubT, iSeq, iRng1T, iRng2T, rLc, rCall, rCallN, rCallS, rFld, rCon, rMake, rMakeN, rMakeP, rMeth, rMethK, rProp, rClsFn, rOpOwn, rSl, oNone, oSome, rFmt, kFmt, rJs, rLidx, rChain, rTru, truT, rStr0, rPart, rSplit, kIntS, gStarT, kStrOwn, kAddC, rDct, kInt1, iEnumT, rMakeStar, rJoin, iZipM, rLcP, kLenOwn, kBoolOwn, rCMeth, rClsStar, rClsMake, rLz, rRevL, rRev2, rCMethK, rExcV, rMut, kAdd, kI2, kI2n, kMul, kIx, kIn, kLen, kU, kA2, kDm, kStrI, kAll, kSl, kAppend, kExtend, kTuple, kList, lenT, seqOf, bYes, startT, one, pickG, selG, insOf, putT, flatT, Bool.false_xor, Bool.true_xor, List.all_cons, List.all_nil, Bool.and_self, T.int.injEq, T.bl.injEq, T.str.injEq, T.lst.injEq, T.tup.injEq, T.cell.injEq, T.ins.injEq, Cell.lst.injEq, Cell.ins.injEq, Prod.mk.injEq, List.cons.injEq, Option.some.injEq, List.map_cons, List.map_nil, List.length_cons, List.length_nil, List.cons_append, List.nil_append, List.append_nil, List.getElem?_cons_zero, List.getElem?_cons_succ, List.set_cons_zero, List.set_cons_succ, List.replicate_succ, List.replicate_zero, exists_eq_left, exists_eq_left', exists_and_left, and_true, true_and, and_self, and_assoc, Nat.sub_self, Nat.reduceAdd, Nat.reduceSub, Nat.zero_add, put_put, put_same, reduceIte, Bool.false_eq_true, Bool.true_eq_false, Bool.not_true, Bool.not_false, at_0, at_1, at_2, at_3, at_4, at_5, at_6, at_7, ix_1_0, ix_2_0, ix_2_1, ix_3_0, ix_3_1, ix_3_2, ix_4_0, ix_4_1, ix_4_2, ix_4_3]
        exact q z
  · exact h.elim
theorem sc_l_pool : FnScope ["_law_figure", "_law_digits"] ["_law_figure"] (defScope s_l_pool) := ⟨rfl, rfl, rfl, by decide +kernel, rfl, by decide +kernel, by decide +kernel⟩
def sp_l_pool : SpT := fun ts S R _ => match ts with
  | [.int z] => ∀ p S', S p = none → PS S p S' → R (.cell p) S'
  | _ => False
theorem ok_l_pool {P : Program} {w : World} {K : PySem.W.Frag} {mg : Str → Option Value} {base : Heap} {f : Addr} {fd : FuncData}   (F : Fun K "_law_pool" "_law_pool" s_l_pool f fd)
    (n_abs : mg "abs" = none)
    : FnT P w K mg base 1 f fd ["_law_figure"] sp_l_pool := by
  refine okT F sc_l_pool (by intro ts S R RE h; unfold sp_l_pool at h; split at h <;> first | rfl | exact h.elim) (fun cdv A out s H E hg hr => (bs_cons (ss_set (i := 1) sc_l_pool.nd rfl (by first | exact Or.inl rfl | exact Or.inr rfl) (et_if (tt_w (tw_or (tt_cmp op_lt cv_B2n (et_var (pv 0)) et_int (nomark _)) (tw_or1 (tt_cmp op_ge cv_B2n (et_var (pv 0)) (et_op op_pow cv_I2 et_int et_int) (nomark _))))) (et_blt call_abs cv_U (by rfl) n_abs PyProof.Rows.boot_abs (at_cons (et_var (pv 0)) at_nil)) et_int))
    (bs_one (ss_ret (et_lstC (at_cons (et_op op_mod cv_I2 (et_var (pv 0)) et_int) (at_cons (et_var (pv 1)) (at_cons et_int at_nil)))))))) ?_
  intro ts S R RE h
  unfold sp_l_pool at h
  split at h
  · rename_i z
    have m := emod_lt (a := z) (b := 2147483137) (by decide)
    simp only [sSeq, sAsg, sDrop, sRet, sRetN, sIf, sNext, sPar, sPar3, sFor, sRaise, sFldT, sNo, rNo, rVar, rFrz, rC, rBin, rTest, bAnd, bOr, bNot, bIf, vAnd, vOr, vNot, rIf, rNeg, aNil, aCons, rTup, rLst, rLstC, rArgs, gNameT, gNilT, gConsT, gTupT, gSubT, iSeq, iRng1T, iRng2T, rLc, rCall, rCallN, rCallS, rFld, rCon, rMake, rMakeN, rMakeP, rMeth, rMethK, rProp, rClsFn, rOpOwn, rSl, oNone, oSome, rFmt, kFmt, rJs, rLidx, rChain, rTru, truT, rStr0, rPart, rSplit, kIntS, gStarT, kStrOwn, kAddC, rDct, kInt1, iEnumT, rMakeStar, rJoin, iZipM, rLcP, kLenOwn, kBoolOwn, rCMeth, rClsStar, rClsMake, rLz, rRevL, rRev2, rCMethK, rExcV, rMut, kAdd, kI2, kI2n, kMul, kIx, kIn, kLen, kU, kA2, kDm, kStrI, kAll, kSl, kAppend, kExtend, kTuple, kList, lenT, seqOf, bYes, startT, one, pickG, selG, insOf, putT, flatT, Bool.false_xor, Bool.true_xor, List.all_cons, List.all_nil, Bool.and_self, T.int.injEq, T.bl.injEq, T.str.injEq, T.lst.injEq, T.tup.injEq, T.cell.injEq, T.ins.injEq, Cell.lst.injEq, Cell.ins.injEq, Prod.mk.injEq, List.cons.injEq, Option.some.injEq, List.map_cons, List.map_nil, List.length_cons, List.length_nil, List.cons_append, List.nil_append, List.append_nil, List.getElem?_cons_zero, List.getElem?_cons_succ, List.set_cons_zero, List.set_cons_succ, List.replicate_succ, List.replicate_zero, exists_eq_left, exists_eq_left', exists_and_left, and_true, true_and, and_self, and_assoc, Nat.sub_self, Nat.reduceAdd, Nat.reduceSub, Nat.zero_add, put_put, put_same, reduceIte, Bool.false_eq_true, Bool.true_eq_false, Bool.not_true, Bool.not_false, at_0, at_1, at_2, at_3, at_4, at_5, at_6, at_7, ix_1_0, ix_2_0, ix_2_1, ix_3_0, ix_3_1, ix_3_2, ix_4_0, ix_4_1, ix_4_2, ix_4_3]
    refine ite_d (fun c => ⟨by decide, by decide, fun p hp => h p _ hp ⟨_, _, _, m.1, m.2, by split <;> omega, rfl⟩⟩) (fun c => ⟨⟨by decide, by decide, by decide⟩, ite_d (fun c => ⟨by decide, by decide, fun p hp => h p _ hp ⟨_, _, _, m.1, m.2, by split <;> omega, rfl⟩⟩) (fun c => ⟨by decide, by decide, fun p hp => h p _ hp ⟨_, _, _, m.1, m.2, by omega, rfl⟩⟩)⟩)
  · exact h.elim
theorem sc_l_draw : FnScope ["_law_pool_here", "_law_most", "_law_state", "_law_digit"] ["_law_pool_here", "_law_most"] (defScope s_l_draw) := ⟨rfl, rfl, rfl, by decide +kernel, rfl, by decide +kernel, by decide +kernel⟩
def sp_l_draw : SpT := fun ts S R _ => match ts with
  | [.cell p, .int m] => PoolT S p ∧ Pn 8000 m ∧ ∀ r S', 0 ≤ r → r < m → PS S p S' → R (.int r) S'
  | _ => False
theorem ok_l_draw {P : Program} {w : World} {K : PySem.W.Frag} {mg : Str → Option Value} {base : Heap} {f : Addr} {fd : FuncData}   (F : Fun K "_law_draw" "_law_draw" s_l_draw f fd)
    (n_divmod : mg "divmod" = none)
    : FnT P w K mg base 1 f fd ["_law_pool_here", "_law_most"] sp_l_draw := by
  refine okT F sc_l_draw (by intro ts S R RE h; unfold sp_l_draw at h; split at h <;> first | rfl | exact h.elim) (fun cdv A out s H E hg hr => (bs_cons (ss_asg (et_op op_addG cv_add (et_ix ix_seq cv_ix (et_var (pv 0)) et_int (fun _ _ => rfl)) et_int) (gt_sub (et_var (pv 0)) et_int))
    (bs_cons (ss_set (i := 2) sc_l_draw.nd rfl (by first | exact Or.inl rfl | exact Or.inr rfl) (et_ix ix_seq cv_ix (et_var (pv 0)) et_int (fun _ _ => rfl)))
    (bs_cons (ss_asg (et_op op_mod cv_I2 (et_op op_addG cv_add (et_op op_mulG cv_mul (et_var (pv 2)) (et_op op_addG cv_add (et_op op_mod cv_I2 (et_var (pv 2)) et_int) et_int)) (et_op op_mulG cv_mul et_int (et_ix ix_seq cv_ix (et_var (pv 0)) et_int (fun _ _ => rfl)))) et_int) (gt_sub (et_var (pv 0)) et_int))
    (bs_cons (ss_if (tt_cmp op_gt cv_B2n (et_ix ix_seq cv_ix (et_var (pv 0)) et_int (fun _ _ => rfl)) et_int (nomark _)) (bs_cons (ss_asg (et_blt call_divmodW cv_dm (by rfl) n_divmod PyProof.Rows.boot_divmod (at_cons (et_ix ix_seq cv_ix (et_var (pv 0)) et_int (fun _ _ => rfl)) (at_cons (et_var (pv 1)) at_nil))) (gt_tup (n := 2) (by rfl) (gts_cons (gt_sub (et_var (pv 0)) et_int) (gts_cons (gt_name (pg_name (i := 3) sc_l_draw.nd rfl (by first | exact Or.inl rfl | exact Or.inr rfl))) gts_nil))))
    (bs_one (ss_ret (et_var (pv 3))))) bs_nil)
    (bs_one (ss_ret (et_op op_mod cv_I2 (et_op op_fdivP cv_I2 (et_ix ix_seq cv_ix (et_var (pv 0)) et_int (fun _ _ => rfl)) et_int) (et_var (pv 1)))))))))) ?_
  intro ts S R RE h
  unfold sp_l_draw at h
  split at h
  · rename_i p m
    obtain ⟨⟨x, d, c, hp, x0, x1, d0⟩, hm, q⟩ := h
    refine sSeq_i fun N hN => ?_
    simp only [hp, sSeq, sAsg, sDrop, sRet, sRetN, sIf, sNext, sPar, sPar3, sFor, sRaise, sFldT, sNo, rNo, rVar, rFrz, rC, rBin, rTest, bAnd, bOr, bNot, bIf, vAnd, vOr, vNot, rIf, rNeg, aNil, aCons, rTup, rLst, rLstC, rArgs, gNameT, gNilT, gConsT, gTupT, gSubT, iSeq, iRng1T, iRng2T, rLc, rCall, rCallN, rCallS, rFld, rCon, rMake, rMakeN, rMakeP, rMeth, rMethK, rProp, rClsFn, rOpOwn, rSl, oNone, oSome, rFmt, kFmt, rJs, rLidx, rChain, rTru, truT, rStr0, rPart, rSplit, kIntS, gStarT, kStrOwn, kAddC, rDct, kInt1, iEnumT, rMakeStar, rJoin, iZipM, rLcP, kLenOwn, kBoolOwn, rCMeth, rClsStar, rClsMake, rLz, rRevL, rRev2, rCMethK, rExcV, rMut, kAdd, kI2, kI2n, kMul, kIx, kIn, kLen, kU, kA2, kDm, kStrI, kAll, kSl, kAppend, kExtend, kTuple, kList, lenT, seqOf, bYes, startT, one, pickG, selG, insOf, putT, flatT, Bool.false_xor, Bool.true_xor, List.all_cons, List.all_nil, Bool.and_self, T.int.injEq, T.bl.injEq, T.str.injEq, T.lst.injEq, T.tup.injEq, T.cell.injEq, T.ins.injEq, Cell.lst.injEq, Cell.ins.injEq, Prod.mk.injEq, List.cons.injEq, Option.some.injEq, List.map_cons, List.map_nil, List.length_cons, List.length_nil, List.cons_append, List.nil_append, List.append_nil, List.getElem?_cons_zero, List.getElem?_cons_succ, List.set_cons_zero, List.set_cons_succ, List.replicate_succ, List.replicate_zero, exists_eq_left, exists_eq_left', exists_and_left, and_true, true_and, and_self, and_assoc, Nat.sub_self, Nat.reduceAdd, Nat.reduceSub, Nat.zero_add, put_put, put_same, reduceIte, Bool.false_eq_true, Bool.true_eq_false, Bool.not_true, Bool.not_false, at_0, at_1, at_2, at_3, at_4, at_5, at_6, at_7, ix_1_0, ix_2_0, ix_2_1, ix_3_0, ix_3_1, ix_3_2, ix_4_0, ix_4_1, ix_4_2, ix_4_3]
    refine hN _ _ ?_
    refine sSeq_i fun N hN => ?_
    simp only [hp, sSeq, sAsg, sDrop, sRet, sRetN, sIf, sNext, sPar, sPar3, sFor, sRaise, sFldT, sNo, rNo, rVar, rFrz, rC, rBin, rTest, bAnd, bOr, bNot, bIf, vAnd, vOr, vNot, rIf, rNeg, aNil, aCons, rTup, rLst, rLstC, rArgs, gNameT, gNilT, gConsT, gTupT, gSubT, iSeq, iRng1T, iRng2T, rLc, rCall, rCallN, rCallS, rFld, rCon, rMake, rMakeN, rMakeP, rMeth, rMethK, rProp, rClsFn, rOpOwn, rSl, oNone, oSome, rFmt, kFmt, rJs, rLidx, rChain, rTru, truT, rStr0, rPart, rSplit, kIntS, gStarT, kStrOwn, kAddC, rDct, kInt1, iEnumT, rMakeStar, rJoin, iZipM, rLcP, kLenOwn, kBoolOwn, rCMeth, rClsStar, rClsMake, rLz, rRevL, rRev2, rCMethK, rExcV, rMut, kAdd, kI2, kI2n, kMul, kIx, kIn, kLen, kU, kA2, kDm, kStrI, kAll, kSl, kAppend, kExtend, kTuple, kList, lenT, seqOf, bYes, startT, one, pickG, selG, insOf, putT, flatT, Bool.false_xor, Bool.true_xor, List.all_cons, List.all_nil, Bool.and_self, T.int.injEq, T.bl.injEq, T.str.injEq, T.lst.injEq, T.tup.injEq, T.cell.injEq, T.ins.injEq, Cell.lst.injEq, Cell.ins.injEq, Prod.mk.injEq, List.cons.injEq, Option.some.injEq, List.map_cons, List.map_nil, List.length_cons, List.length_nil, List.cons_append, List.nil_append, List.append_nil, List.getElem?_cons_zero, List.getElem?_cons_succ, List.set_cons_zero, List.set_cons_succ, List.replicate_succ, List.replicate_zero, exists_eq_left, exists_eq_left', exists_and_left, and_true, true_and, and_self, and_assoc, Nat.sub_self, Nat.reduceAdd, Nat.reduceSub, Nat.zero_add, put_put, put_same, reduceIte, Bool.false_eq_true, Bool.true_eq_false, Bool.not_true, Bool.not_false, at_0, at_1, at_2, at_3, at_4, at_5, at_6, at_7, ix_1_0, ix_2_0, ix_2_1, ix_3_0, ix_3_1, ix_3_2, ix_4_0, ix_4_1, ix_4_2, ix_4_3]
    refine hN _ _ ?_
    refine sSeq_i fun N hN => ?_
    simp only [hp, sSeq, sAsg, sDrop, sRet, sRetN, sIf, sNext, sPar, sPar3, sFor, sRaise, sFldT, sNo, rNo, rVar, rFrz, rC, rBin, rTest, bAnd, bOr, bNot, bIf, vAnd, vOr, vNot, rIf, rNeg, aNil, aCons, rTup, rLst, rLstC, rArgs, gNameT, gNilT, gConsT, gTupT, gSubT, iSeq, iRng1T, iRng2T, rLc, rCall, rCallN, rCallS, rFld, rCon, rMake, rMakeN, rMakeP, rMeth, rMethK, rProp, rClsFn, rOpOwn, rSl, oNone, oSome, rFmt, kFmt, rJs, rLidx, rChain, rTru, truT, rStr0, rPart, rSplit, kIntS, gStarT, kStrOwn, kAddC, rDct, kInt1, iEnumT, rMakeStar, rJoin, iZipM, rLcP, kLenOwn, kBoolOwn, rCMeth, rClsStar, rClsMake, rLz, rRevL, rRev2, rCMethK, rExcV, rMut, kAdd, kI2, kI2n, kMul, kIx, kIn, kLen, kU, kA2, kDm, kStrI, kAll, kSl, kAppend, kExtend, kTuple, kList, lenT, seqOf, bYes, startT, one, pickG, selG, insOf, putT, flatT, Bool.false_xor, Bool.true_xor, List.all_cons, List.all_nil, Bool.and_self, T.int.injEq, T.bl.injEq, T.str.injEq, T.lst.injEq, T.tup.injEq, T.cell.injEq, T.ins.injEq, Cell.lst.injEq, Cell.ins.injEq, Prod.mk.injEq, List.cons.injEq, Option.some.injEq, List.map_cons, List.map_nil, List.length_cons, List.length_nil, List.cons_append, List.nil_append, List.append_nil, List.getElem?_cons_zero, List.getElem?_cons_succ, List.set_cons_zero, List.set_cons_succ, List.replicate_succ, List.replicate_zero, exists_eq_left, exists_eq_left', exists_and_left, and_true, true_and, and_self, and_assoc, Nat.sub_self, Nat.reduceAdd, Nat.reduceSub, Nat.zero_add, put_put, put_same, reduceIte, Bool.false_eq_true, Bool.true_eq_false, Bool.not_true, Bool.not_false, at_0, at_1, at_2, at_3, at_4, at_5, at_6, at_7, ix_1_0, ix_2_0, ix_2_1, ix_3_0, ix_3_1, ix_3_2, ix_4_0, ix_4_1, ix_4_2, ix_4_3]
    have hx2 := emod_lt (a := x) (b := 50023) (by decide)
    have hy := emod_lt (a := x * (x % 50023 + 30013) + 80029 * (c + 1)) (b := 2147483137) (by decide)
    refine ⟨by decide, mulL (by omega), mulL (by decide), by decide, hN _ _ ?_⟩
    generalize (x * (x % 50023 + 30013) + 80029 * (c + 1)) % 2147483137 = y at hy ⊢
    refine sSeq_i fun N hN => ?_
    simp only [sSeq, sAsg, sDrop, sRet, sRetN, sIf, sNext, sPar, sPar3, sFor, sRaise, sFldT, sNo, rNo, rVar, rFrz, rC, rBin, rTest, bAnd, bOr, bNot, bIf, vAnd, vOr, vNot, rIf, rNeg, aNil, aCons, rTup, rLst, rLstC, rArgs, gNameT, gNilT, gConsT, gTupT, gSubT, iSeq, iRng1T, iRng2T, rLc, rCall, rCallN, rCallS, rFld, rCon, rMake, rMakeN, rMakeP, rMeth, rMethK, rProp, rClsFn, rOpOwn, rSl, oNone, oSome, rFmt, kFmt, rJs, rLidx, rChain, rTru, truT, rStr0, rPart, rSplit, kIntS, gStarT, kStrOwn, kAddC, rDct, kInt1, iEnumT, rMakeStar, rJoin, iZipM, rLcP, kLenOwn, kBoolOwn, rCMeth, rClsStar, rClsMake, rLz, rRevL, rRev2, rCMethK, rExcV, rMut, kAdd, kI2, kI2n, kMul, kIx, kIn, kLen, kU, kA2, kDm, kStrI, kAll, kSl, kAppend, kExtend, kTuple, kList, lenT, seqOf, bYes, startT, one, pickG, selG, insOf, putT, flatT, Bool.false_xor, Bool.true_xor, List.all_cons, List.all_nil, Bool.and_self, T.int.injEq, T.bl.injEq, T.str.injEq, T.lst.injEq, T.tup.injEq, T.cell.injEq, T.ins.injEq, Cell.lst.injEq, Cell.ins.injEq, Prod.mk.injEq, List.cons.injEq, Option.some.injEq, List.map_cons, List.map_nil, List.length_cons, List.length_nil, List.cons_append, List.nil_append, List.append_nil, List.getElem?_cons_zero, List.getElem?_cons_succ, List.set_cons_zero, List.set_cons_succ, List.replicate_succ, List.replicate_zero, exists_eq_left, exists_eq_left', exists_and_left, and_true, true_and, and_self, and_assoc, Nat.sub_self, Nat.reduceAdd, Nat.reduceSub, Nat.zero_add, put_put, put_same, reduceIte, Bool.false_eq_true, Bool.true_eq_false, Bool.not_true, Bool.not_false, at_0, at_1, at_2, at_3, at_4, at_5, at_6, at_7, ix_1_0, ix_2_0, ix_2_1, ix_3_0, ix_3_1, ix_3_2, ix_4_0, ix_4_1, ix_4_2, ix_4_3]
    refine ite_d (fun cc => ⟨hm.divW _, ?_⟩) (fun cc => hN _ _ ?_)
    · exact q _ _ (emod_lt hm.pos).1 (emod_lt hm.pos).2 ⟨_, _, _, hy.1, hy.2, Int.ediv_nonneg d0 (by have := hm.pos; omega), rfl⟩
    · simp only [sSeq, sAsg, sDrop, sRet, sRetN, sIf, sNext, sPar, sPar3, sFor, sRaise, sFldT, sNo, rNo, rVar, rFrz, rC, rBin, rTest, bAnd, bOr, bNot, bIf, vAnd, vOr, vNot, rIf, rNeg, aNil, aCons, rTup, rLst, rLstC, rArgs, gNameT, gNilT, gConsT, gTupT, gSubT, iSeq, iRng1T, iRng2T, rLc, rCall, rCallN, rCallS, rFld, rCon, rMake, rMakeN, rMakeP, rMeth, rMethK, rProp, rClsFn, rOpOwn, rSl, oNone, oSome, rFmt, kFmt, rJs, rLidx, rChain, rTru, truT, rStr0, rPart, rSplit, kIntS, gStarT, kStrOwn, kAddC, rDct, kInt1, iEnumT, rMakeStar, rJoin, iZipM, rLcP, kLenOwn, kBoolOwn, rCMeth, rClsStar, rClsMake, rLz, rRevL, rRev2, rCMethK, rExcV, rMut, kAdd, kI2, kI2n, kMul, kIx, kIn, kLen, kU, kA2, kDm, kStrI, kAll, kSl, kAppend, kExtend, kTuple, kList, lenT, seqOf, bYes, startT, one, pickG, selG, insOf, putT, flatT, Bool.false_xor, Bool.true_xor, List.all_cons, List.all_nil, Bool.and_self, T.int.injEq, T.bl.injEq, T.str.injEq, T.lst.injEq, T.tup.injEq, T.cell.injEq, T.ins.injEq, Cell.lst.injEq, Cell.ins.injEq, Prod.mk.injEq, List.cons.injEq, Option.some.injEq, List.map_cons, List.map_nil, List.length_cons, List.length_nil, List.cons_append, List.nil_append, List.append_nil, List.getElem?_cons_zero, List.getElem?_cons_succ, List.set_cons_zero, List.set_cons_succ, List.replicate_succ, List.replicate_zero, exists_eq_left, exists_eq_left', exists_and_left, and_true, true_and, and_self, and_assoc, Nat.sub_self, Nat.reduceAdd, Nat.reduceSub, Nat.zero_add, put_put, put_same, reduceIte, Bool.false_eq_true, Bool.true_eq_false, Bool.not_true, Bool.not_false, at_0, at_1, at_2, at_3, at_4, at_5, at_6, at_7, ix_1_0, ix_2_0, ix_2_1, ix_3_0, ix_3_1, ix_3_2, ix_4_0, ix_4_1, ix_4_2, ix_4_3]
      exact ⟨div_small (by decide) (by decide) _, hm.pos, q _ _ (emod_lt hm.pos).1 (emod_lt hm.pos).2 ⟨_, _, _, hy.1, hy.2, d0, rfl⟩⟩
  · exact h.elim
theorem sc_l_low : FnScope ["_law_high_part", "_law_low_part", "_law_lead", "_law_rest"] ["_law_high_part", "_law_low_part"] (defScope s_l_low) := ⟨rfl, rfl, rfl, by decide +kernel, rfl, by decide +kernel, by decide +kernel⟩
def sp_l_low : SpT := fun ts S R _ => match ts with
  | [.int a, .int b] => Pn 8000 a ∧ 0 < b ∧ R (frT (lwA a b) (lwB a b)) S
  | _ => False
theorem ok_l_low {P : Program} {w : World} {K : PySem.W.Frag} {mg : Str → Option Value} {base : Heap} {f : Addr} {fd : FuncData}   (F : Fun K "_law_low" "_law_low" s_l_low f fd)
    : FnT P w K mg base 1 f fd ["_law_high_part", "_law_low_part"] sp_l_low := by
  refine okT F sc_l_low (by intro ts S R RE h; unfold sp_l_low at h; split at h <;> first | rfl | exact h.elim) (fun cdv A out s H E hg hr => (bs_cons (ss_par (i := 2) (j := 3) (by rfl) sc_l_low.nd rfl rfl (by decide) rfl rfl (at_cons (et_var (pv 0)) (at_cons (et_var (pv 1)) at_nil)) (by rfl))
    (bs_cons (ss_while (passes_of rfl) (tt_cmp op_gt cv_B2n (et_var (pv 3)) et_int (nomark _)) (bs_one (ss_par (i := 2) (j := 3) (by rfl) sc_l_low.nd rfl rfl (by decide) rfl rfl (at_cons (et_var (pv 3)) (at_cons (et_op op_mod cv_I2 (et_var (pv 2)) (et_var (pv 3))) at_nil)) (by rfl))))
    (bs_one (ss_ret (et_tup (at_cons (et_op op_fdivP cv_I2 (et_var (pv 0)) (et_var (pv 2))) (at_cons (et_op op_fdivP cv_I2 (et_var (pv 1)) (et_var (pv 2))) at_nil)))))))) ?_
  intro ts S R RE h
  unfold sp_l_low at h
  split at h
  · rename_i a b
    obtain ⟨ha, hb, q⟩ := h
    simp only [sSeq, sAsg, sDrop, sRet, sRetN, sIf, sNext, sPar, sPar3, sFor, sRaise, sFldT, sNo, rNo, rVar, rFrz, rC, rBin, rTest, bAnd, bOr, bNot, bIf, vAnd, vOr, vNot, rIf, rNeg, aNil, aCons, rTup, rLst, rLstC, rArgs, gNameT, gNilT, gConsT, gTupT, gSubT, iSeq, iRng1T, iRng2T, rLc, rCall, rCallN, rCallS, rFld, rCon, rMake, rMakeN, rMakeP, rMeth, rMethK, rProp, rClsFn, rOpOwn, rSl, oNone, oSome, rFmt, kFmt, rJs, rLidx, rChain, rTru, truT, rStr0, rPart, rSplit, kIntS, gStarT, kStrOwn, kAddC, rDct, kInt1, iEnumT, rMakeStar, rJoin, iZipM, rLcP, kLenOwn, kBoolOwn, rCMeth, rClsStar, rClsMake, rLz, rRevL, rRev2, rCMethK, rExcV, rMut, kAdd, kI2, kI2n, kMul, kIx, kIn, kLen, kU, kA2, kDm, kStrI, kAll, kSl, kAppend, kExtend, kTuple, kList, lenT, seqOf, bYes, startT, one, pickG, selG, insOf, putT, flatT, Bool.false_xor, Bool.true_xor, List.all_cons, List.all_nil, Bool.and_self, T.int.injEq, T.bl.injEq, T.str.injEq, T.lst.injEq, T.tup.injEq, T.cell.injEq, T.ins.injEq, Cell.lst.injEq, Cell.ins.injEq, Prod.mk.injEq, List.cons.injEq, Option.some.injEq, List.map_cons, List.map_nil, List.length_cons, List.length_nil, List.cons_append, List.nil_append, List.append_nil, List.getElem?_cons_zero, List.getElem?_cons_succ, List.set_cons_zero, List.set_cons_succ, List.replicate_succ, List.replicate_zero, exists_eq_left, exists_eq_left', exists_and_left, and_true, true_and, and_self, and_assoc, Nat.sub_self, Nat.reduceAdd, Nat.reduceSub, Nat.zero_add, put_put, put_same, reduceIte, Bool.false_eq_true, Bool.true_eq_false, Bool.not_true, Bool.not_false, at_0, at_1, at_2, at_3, at_4, at_5, at_6, at_7, ix_1_0, ix_2_0, ix_2_1, ix_3_0, ix_3_1, ix_3_2, ix_4_0, ix_4_1, ix_4_2, ix_4_3]
    refine while_inv (fun σ S' => S' = S ∧ ∃ x y : Int, σ = [some (.int a), some (.int b), some (.int x), some (.int y)] ∧ 0 < x ∧ 0 ≤ y ∧ gcdI x y = gcdI a b) (fun σ _ => match σ with | [_, _, _, some (.int y)] => y.toNat | _ => 0) ⟨rfl, a, b, rfl, ha.pos, by omega, rfl⟩ ?_
    rintro σ S' ⟨rfl, x, y, rfl, hx, hy, g⟩ N hN
    simp only [sSeq, sAsg, sDrop, sRet, sRetN, sIf, sNext, sPar, sPar3, sFor, sRaise, sFldT, sNo, rNo, rVar, rFrz, rC, rBin, rTest, bAnd, bOr, bNot, bIf, vAnd, vOr, vNot, rIf, rNeg, aNil, aCons, rTup, rLst, rLstC, rArgs, gNameT, gNilT, gConsT, gTupT, gSubT, iSeq, iRng1T, iRng2T, rLc, rCall, rCallN, rCallS, rFld, rCon, rMake, rMakeN, rMakeP, rMeth, rMethK, rProp, rClsFn, rOpOwn, rSl, oNone, oSome, rFmt, kFmt, rJs, rLidx, rChain, rTru, truT, rStr0, rPart, rSplit, kIntS, gStarT, kStrOwn, kAddC, rDct, kInt1, iEnumT, rMakeStar, rJoin, iZipM, rLcP, kLenOwn, kBoolOwn, rCMeth, rClsStar, rClsMake, rLz, rRevL, rRev2, rCMethK, rExcV, rMut, kAdd, kI2, kI2n, kMul, kIx, kIn, kLen, kU, kA2, kDm, kStrI, kAll, kSl, kAppend, kExtend, kTuple, kList, lenT, seqOf, bYes, startT, one, pickG, selG, insOf, putT, flatT, Bool.false_xor, Bool.true_xor, List.all_cons, List.all_nil, Bool.and_self, T.int.injEq, T.bl.injEq, T.str.injEq, T.lst.injEq, T.tup.injEq, T.cell.injEq, T.ins.injEq, Cell.lst.injEq, Cell.ins.injEq, Prod.mk.injEq, List.cons.injEq, Option.some.injEq, List.map_cons, List.map_nil, List.length_cons, List.length_nil, List.cons_append, List.nil_append, List.append_nil, List.getElem?_cons_zero, List.getElem?_cons_succ, List.set_cons_zero, List.set_cons_succ, List.replicate_succ, List.replicate_zero, exists_eq_left, exists_eq_left', exists_and_left, and_true, true_and, and_self, and_assoc, Nat.sub_self, Nat.reduceAdd, Nat.reduceSub, Nat.zero_add, put_put, put_same, reduceIte, Bool.false_eq_true, Bool.true_eq_false, Bool.not_true, Bool.not_false, at_0, at_1, at_2, at_3, at_4, at_5, at_6, at_7, ix_1_0, ix_2_0, ix_2_1, ix_3_0, ix_3_1, ix_3_2, ix_4_0, ix_4_1, ix_4_2, ix_4_3]
    refine ite_d (fun c => ?_) (fun c => ?_)
    · have := emod_lt (a := x) c
      exact ⟨c, hN _ _ ⟨rfl, y, _, rfl, c, this.1, (gcdI_step c).trans g⟩ (by show (x % y).toNat < y.toNat; omega)⟩
    · have e : y = 0 := by omega
      subst e
      rw [gcdI_zero hx] at g
      subst g
      exact ⟨ha.gcd.divW _, ha.gcd.divW _, by decide, q⟩
  · exact h.elim
/-! fractions, good arguments only -/
def sgn (l r : Int) : Int := if l < r then -1 else if r < l then 1 else 0
theorem sgn_lt {l r : Int} : decide (sgn l r < 0) = decide (l < r) := by
  unfold sgn
  by_cases h1 : l < r
  · simp [h1]
  · by_cases h2 : r < l
    · simp [h1, h2]
    · simp [h1, h2]
theorem sgn_gt {l r : Int} : decide (0 < sgn l r) = decide (r < l) := by
  unfold sgn
  by_cases h1 : l < r
  · have : ¬ r < l := by omega
    simp [h1, this]
  · by_cases h2 : r < l
    · simp [h1, h2]
    · simp [h1, h2]
theorem Pn.isPos {n : Nat} {a : Int} (h : Pn n a) : isPos (.int a) = true := decide_eq_true h.pos
theorem eqI {a b : Int} {S : Store} {R : T → Store → Prop} {RE : XT} {ng : Bool} (q : R (.bl (ng ^^ decide (a = b))) S) : kEqG ng (.int a) (.int b) S R RE := .inl ⟨rfl, q⟩
theorem eqI0 {a b : Int} {S : Store} {R : T → Store → Prop} {RE : XT} (q : R (.bl (decide (a = b))) S) : kEqG false (.int a) (.int b) S R RE := eqI (by simpa using q)
theorem eqI1 {a b : Int} {S : Store} {R : T → Store → Prop} {RE : XT} (q : R (.bl (!decide (a = b))) S) : kEqG true (.int a) (.int b) S R RE := eqI (by simpa using q)
/-- all are fractions -/
def FrL (n : Nat) (l : List T) : Prop := ∀ x ∈ l, ∃ a b, x = frT a b ∧ Fr n a b
theorem FrL.one {n : Nat} {a b : Int} (h : Fr n a b) : FrL n [frT a b] := fun x m => by
  rw [List.mem_singleton.mp m]; exact ⟨a, b, rfl, h⟩
theorem FrL.two {n : Nat} {a b c d : Int} (h : Fr n a b) (k : Fr n c d) : FrL n [frT a b, frT c d] := fun x m => by
  rcases List.mem_cons.mp m with rfl | m
  · exact ⟨a, b, rfl, h⟩
  · rw [List.mem_singleton.mp m]; exact ⟨c, d, rfl, k⟩
theorem sc_is_fraction : FnScope ["value", "top", "bottom"] ["value"] (defScope s_is_fraction) := ⟨rfl, rfl, rfl, by decide +kernel, rfl, by decide +kernel, by decide +kernel⟩
def sp_is_fraction (K : PySem.W.Frag) : SpT := fun ts S R _ => match ts with
  | [.tup [.int a, .int b]] => Fr 8000 a b ∧ R (.bl true) S
  | _ => False
theorem ok_is_fraction {P : Program} {w : World} {K : PySem.W.Frag} {mg : Str → Option Value} {base : Heap} {f : Addr} {fd : FuncData} {g_common_divisor g_is_positive : Addr} {gd_common_divisor : FuncData} {gd_is_positive : FuncData} (F : Fun K "is_fraction" "is_fraction" s_is_fraction f fd)
    (n_len : mg "len" = none)
    (n_isinstance : mg "isinstance" = none)
    (n_tuple : mg "tuple" = none)
    (G_common_divisor : FnT P w K mg base 1 g_common_divisor gd_common_divisor ["one", "other"] sp_common_divisor)
    (m_common_divisor : mg "common_divisor" = some (.ref g_common_divisor))
    (k_common_divisor : PySem.W.keepIn K (.ref g_common_divisor) = true)
    (b_common_divisor : Binds K gd_common_divisor ["one", "other"] [])
    (G_is_positive : FnT P w K mg base 2 g_is_positive gd_is_positive ["value"] (sp_is_positive K))
    (m_is_positive : mg "is_positive" = some (.ref g_is_positive))
    (k_is_positive : PySem.W.keepIn K (.ref g_is_positive) = true)
    (b_is_positive : Binds K gd_is_positive ["value"] [])
    : FnT P w K mg base 3 f fd ["value"] (sp_is_fraction K) := by
  refine okT F sc_is_fraction (by intro ts S R RE h; unfold sp_is_fraction at h; split at h <;> first | rfl | exact h.elim) (fun cdv A out s H E hg hr => (bs_cons (ss_if (tt_w (tw_or (tt_not (tt_val (et_blt call_isiY (cv_isi (K := K)) (by rfl) n_isinstance PyProof.Rows.boot_isinstance (at_cons (et_var (pv 0)) (at_cons (et_blty (by rfl) n_tuple PyProof.Rows.boot_tuple) at_nil))))) (tw_or1 (tt_cmp (op_neG hr.units) cv_ne (et_blt call_len cv_len (by rfl) n_len PySem.boot_len (at_cons (et_var (pv 0)) at_nil)) et_int (nomark _))))) (bs_one (ss_ret et_bl)) bs_nil)
    (bs_cons (ss_asg (et_var (pv 0)) (gt_tup (n := 2) (by rfl) (gts_cons (gt_name (pg_name (i := 1) sc_is_fraction.nd rfl (by first | exact Or.inl rfl | exact Or.inr rfl))) (gts_cons (gt_name (pg_name (i := 2) sc_is_fraction.nd rfl (by first | exact Or.inl rfl | exact Or.inr rfl))) gts_nil))))
    (bs_cons (ss_if (tt_w (tw_or (tt_not (tt_val (et_callD G_is_positive hg (hr.mono (by decide)) (by rfl) m_is_positive k_is_positive (CallD.all b_is_positive) (passL2N (L2N.takes_of rfl rfl rfl rfl)) (at_cons (et_var (pv 1)) at_nil)))) (tw_or1 (tt_not (tt_val (et_callD G_is_positive hg (hr.mono (by decide)) (by rfl) m_is_positive k_is_positive (CallD.all b_is_positive) (passL2N (L2N.takes_of rfl rfl rfl rfl)) (at_cons (et_var (pv 2)) at_nil))))))) (bs_one (ss_ret et_bl)) bs_nil)
    (bs_one (ss_ret (et_cmp (op_eqG hr.units) cv_eq (et_callD G_common_divisor hg (hr.mono (by decide)) (by rfl) m_common_divisor k_common_divisor (CallD.all b_common_divisor) (passL2N (L2N.takes_of rfl rfl rfl rfl)) (at_cons (et_var (pv 1)) (at_cons (et_var (pv 2)) at_nil))) et_int (nomark _)))))))) ?_
  intro ts S R RE h
  unfold sp_is_fraction at h
  split at h
  · rename_i a b
    obtain ⟨fr, q⟩ := h
    refine sSeq_i fun N hN => ?_
    simp only [sSeq, sAsg, sDrop, sRet, sRetN, sIf, sNext, sPar, sPar3, sFor, sRaise, sFldT, sNo, rNo, rVar, rFrz, rC, rBin, rTest, bAnd, bOr, bNot, bIf, vAnd, vOr, vNot, rIf, rNeg, aNil, aCons, rTup, rLst, rLstC, rArgs, gNameT, gNilT, gConsT, gTupT, gSubT, iSeq, iRng1T, iRng2T, rLc, rCall, rCallN, rCallS, rFld, rCon, rMake, rMakeN, rMakeP, rMeth, rMethK, rProp, rClsFn, rOpOwn, rSl, oNone, oSome, rFmt, kFmt, rJs, rLidx, rChain, rTru, truT, rStr0, rPart, rSplit, kIntS, gStarT, kStrOwn, kAddC, rDct, kInt1, iEnumT, rMakeStar, rJoin, iZipM, rLcP, kLenOwn, kBoolOwn, rCMeth, rClsStar, rClsMake, rLz, rRevL, rRev2, rCMethK, rExcV, rMut, kAdd, kI2, kI2n, kMul, kIx, kIn, kLen, kU, kA2, kDm, kStrI, kAll, kSl, kAppend, kExtend, kTuple, kList, lenT, seqOf, bYes, startT, one, pickG, selG, insOf, putT, flatT, Bool.false_xor, Bool.true_xor, List.all_cons, List.all_nil, Bool.and_self, T.int.injEq, T.bl.injEq, T.str.injEq, T.lst.injEq, T.tup.injEq, T.cell.injEq, T.ins.injEq, Cell.lst.injEq, Cell.ins.injEq, Prod.mk.injEq, List.cons.injEq, Option.some.injEq, List.map_cons, List.map_nil, List.length_cons, List.length_nil, List.cons_append, List.nil_append, List.append_nil, List.getElem?_cons_zero, List.getElem?_cons_succ, List.set_cons_zero, List.set_cons_succ, List.replicate_succ, List.replicate_zero, exists_eq_left, exists_eq_left', exists_and_left, and_true, true_and, and_self, and_assoc, Nat.sub_self, Nat.reduceAdd, Nat.reduceSub, Nat.zero_add, put_put, put_same, reduceIte, Bool.false_eq_true, Bool.true_eq_false, Bool.not_true, Bool.not_false, at_0, at_1, at_2, at_3, at_4, at_5, at_6, at_7, ix_1_0, ix_2_0, ix_2_1, ix_3_0, ix_3_1, ix_3_2, ix_4_0, ix_4_1, ix_4_2, ix_4_3]
    refine ValT.tup.is (n := "tuple") (by decide) ⟨true, rfl, ?_⟩
    simp only [sSeq, sAsg, sDrop, sRet, sRetN, sIf, sNext, sPar, sPar3, sFor, sRaise, sFldT, sNo, rNo, rVar, rFrz, rC, rBin, rTest, bAnd, bOr, bNot, bIf, vAnd, vOr, vNot, rIf, rNeg, aNil, aCons, rTup, rLst, rLstC, rArgs, gNameT, gNilT, gConsT, gTupT, gSubT, iSeq, iRng1T, iRng2T, rLc, rCall, rCallN, rCallS, rFld, rCon, rMake, rMakeN, rMakeP, rMeth, rMethK, rProp, rClsFn, rOpOwn, rSl, oNone, oSome, rFmt, kFmt, rJs, rLidx, rChain, rTru, truT, rStr0, rPart, rSplit, kIntS, gStarT, kStrOwn, kAddC, rDct, kInt1, iEnumT, rMakeStar, rJoin, iZipM, rLcP, kLenOwn, kBoolOwn, rCMeth, rClsStar, rClsMake, rLz, rRevL, rRev2, rCMethK, rExcV, rMut, kAdd, kI2, kI2n, kMul, kIx, kIn, kLen, kU, kA2, kDm, kStrI, kAll, kSl, kAppend, kExtend, kTuple, kList, lenT, seqOf, bYes, startT, one, pickG, selG, insOf, putT, flatT, Bool.false_xor, Bool.true_xor, List.all_cons, List.all_nil, Bool.and_self, T.int.injEq, T.bl.injEq, T.str.injEq, T.lst.injEq, T.tup.injEq, T.cell.injEq, T.ins.injEq, Cell.lst.injEq, Cell.ins.injEq, Prod.mk.injEq, List.cons.injEq, Option.some.injEq, List.map_cons, List.map_nil, List.length_cons, List.length_nil, List.cons_append, List.nil_append, List.append_nil, List.getElem?_cons_zero, List.getElem?_cons_succ, List.set_cons_zero, List.set_cons_succ, List.replicate_succ, List.replicate_zero, exists_eq_left, exists_eq_left', exists_and_left, and_true, true_and, and_self, and_assoc, Nat.sub_self, Nat.reduceAdd, Nat.reduceSub, Nat.zero_add, put_put, put_same, reduceIte, Bool.false_eq_true, Bool.true_eq_false, Bool.not_true, Bool.not_false, at_0, at_1, at_2, at_3, at_4, at_5, at_6, at_7, ix_1_0, ix_2_0, ix_2_1, ix_3_0, ix_3_1, ix_3_2, ix_4_0, ix_4_1, ix_4_2, ix_4_3]
    refine eqI ⟨false, rfl, ?_⟩
    simp only [sSeq, sAsg, sDrop, sRet, sRetN, sIf, sNext, sPar, sPar3, sFor, sRaise, sFldT, sNo, rNo, rVar, rFrz, rC, rBin, rTest, bAnd, bOr, bNot, bIf, vAnd, vOr, vNot, rIf, rNeg, aNil, aCons, rTup, rLst, rLstC, rArgs, gNameT, gNilT, gConsT, gTupT, gSubT, iSeq, iRng1T, iRng2T, rLc, rCall, rCallN, rCallS, rFld, rCon, rMake, rMakeN, rMakeP, rMeth, rMethK, rProp, rClsFn, rOpOwn, rSl, oNone, oSome, rFmt, kFmt, rJs, rLidx, rChain, rTru, truT, rStr0, rPart, rSplit, kIntS, gStarT, kStrOwn, kAddC, rDct, kInt1, iEnumT, rMakeStar, rJoin, iZipM, rLcP, kLenOwn, kBoolOwn, rCMeth, rClsStar, rClsMake, rLz, rRevL, rRev2, rCMethK, rExcV, rMut, kAdd, kI2, kI2n, kMul, kIx, kIn, kLen, kU, kA2, kDm, kStrI, kAll, kSl, kAppend, kExtend, kTuple, kList, lenT, seqOf, bYes, startT, one, pickG, selG, insOf, putT, flatT, Bool.false_xor, Bool.true_xor, List.all_cons, List.all_nil, Bool.and_self, T.int.injEq, T.bl.injEq, T.str.injEq, T.lst.injEq, T.tup.injEq, T.cell.injEq, T.ins.injEq, Cell.lst.injEq, Cell.ins.injEq, Prod.mk.injEq, List.cons.injEq, Option.some.injEq, List.map_cons, List.map_nil, List.length_cons, List.length_nil, List.cons_append, List.nil_append, List.append_nil, List.getElem?_cons_zero, List.getElem?_cons_succ, List.set_cons_zero, List.set_cons_succ, List.replicate_succ, List.replicate_zero, exists_eq_left, exists_eq_left', exists_and_left, and_true, true_and, and_self, and_assoc, Nat.sub_self, Nat.reduceAdd, Nat.reduceSub, Nat.zero_add, put_put, put_same, reduceIte, Bool.false_eq_true, Bool.true_eq_false, Bool.not_true, Bool.not_false, at_0, at_1, at_2, at_3, at_4, at_5, at_6, at_7, ix_1_0, ix_2_0, ix_2_1, ix_3_0, ix_3_1, ix_3_2, ix_4_0, ix_4_1, ix_4_2, ix_4_3]
    refine hN _ _ ?_
    refine sSeq_i fun N hN => ?_
    simp only [sSeq, sAsg, sDrop, sRet, sRetN, sIf, sNext, sPar, sPar3, sFor, sRaise, sFldT, sNo, rNo, rVar, rFrz, rC, rBin, rTest, bAnd, bOr, bNot, bIf, vAnd, vOr, vNot, rIf, rNeg, aNil, aCons, rTup, rLst, rLstC, rArgs, gNameT, gNilT, gConsT, gTupT, gSubT, iSeq, iRng1T, iRng2T, rLc, rCall, rCallN, rCallS, rFld, rCon, rMake, rMakeN, rMakeP, rMeth, rMethK, rProp, rClsFn, rOpOwn, rSl, oNone, oSome, rFmt, kFmt, rJs, rLidx, rChain, rTru, truT, rStr0, rPart, rSplit, kIntS, gStarT, kStrOwn, kAddC, rDct, kInt1, iEnumT, rMakeStar, rJoin, iZipM, rLcP, kLenOwn, kBoolOwn, rCMeth, rClsStar, rClsMake, rLz, rRevL, rRev2, rCMethK, rExcV, rMut, kAdd, kI2, kI2n, kMul, kIx, kIn, kLen, kU, kA2, kDm, kStrI, kAll, kSl, kAppend, kExtend, kTuple, kList, lenT, seqOf, bYes, startT, one, pickG, selG, insOf, putT, flatT, Bool.false_xor, Bool.true_xor, List.all_cons, List.all_nil, Bool.and_self, T.int.injEq, T.bl.injEq, T.str.injEq, T.lst.injEq, T.tup.injEq, T.cell.injEq, T.ins.injEq, Cell.lst.injEq, Cell.ins.injEq, Prod.mk.injEq, List.cons.injEq, Option.some.injEq, List.map_cons, List.map_nil, List.length_cons, List.length_nil, List.cons_append, List.nil_append, List.append_nil, List.getElem?_cons_zero, List.getElem?_cons_succ, List.set_cons_zero, List.set_cons_succ, List.replicate_succ, List.replicate_zero, exists_eq_left, exists_eq_left', exists_and_left, and_true, true_and, and_self, and_assoc, Nat.sub_self, Nat.reduceAdd, Nat.reduceSub, Nat.zero_add, put_put, put_same, reduceIte, Bool.false_eq_true, Bool.true_eq_false, Bool.not_true, Bool.not_false, at_0, at_1, at_2, at_3, at_4, at_5, at_6, at_7, ix_1_0, ix_2_0, ix_2_1, ix_3_0, ix_3_1, ix_3_2, ix_4_0, ix_4_1, ix_4_2, ix_4_3]
    refine hN _ _ ?_
    refine sSeq_i fun N hN => ?_
    simp only [sp_is_positive, fr.a.isPos, fr.b.isPos, sSeq, sAsg, sDrop, sRet, sRetN, sIf, sNext, sPar, sPar3, sFor, sRaise, sFldT, sNo, rNo, rVar, rFrz, rC, rBin, rTest, bAnd, bOr, bNot, bIf, vAnd, vOr, vNot, rIf, rNeg, aNil, aCons, rTup, rLst, rLstC, rArgs, gNameT, gNilT, gConsT, gTupT, gSubT, iSeq, iRng1T, iRng2T, rLc, rCall, rCallN, rCallS, rFld, rCon, rMake, rMakeN, rMakeP, rMeth, rMethK, rProp, rClsFn, rOpOwn, rSl, oNone, oSome, rFmt, kFmt, rJs, rLidx, rChain, rTru, truT, rStr0, rPart, rSplit, kIntS, gStarT, kStrOwn, kAddC, rDct, kInt1, iEnumT, rMakeStar, rJoin, iZipM, rLcP, kLenOwn, kBoolOwn, rCMeth, rClsStar, rClsMake, rLz, rRevL, rRev2, rCMethK, rExcV, rMut, kAdd, kI2, kI2n, kMul, kIx, kIn, kLen, kU, kA2, kDm, kStrI, kAll, kSl, kAppend, kExtend, kTuple, kList, lenT, seqOf, bYes, startT, one, pickG, selG, insOf, putT, flatT, Bool.false_xor, Bool.true_xor, List.all_cons, List.all_nil, Bool.and_self, T.int.injEq, T.bl.injEq, T.str.injEq, T.lst.injEq, T.tup.injEq, T.cell.injEq, T.ins.injEq, Cell.lst.injEq, Cell.ins.injEq, Prod.mk.injEq, List.cons.injEq, Option.some.injEq, List.map_cons, List.map_nil, List.length_cons, List.length_nil, List.cons_append, List.nil_append, List.append_nil, List.getElem?_cons_zero, List.getElem?_cons_succ, List.set_cons_zero, List.set_cons_succ, List.replicate_succ, List.replicate_zero, exists_eq_left, exists_eq_left', exists_and_left, and_true, true_and, and_self, and_assoc, Nat.sub_self, Nat.reduceAdd, Nat.reduceSub, Nat.zero_add, put_put, put_same, reduceIte, Bool.false_eq_true, Bool.true_eq_false, Bool.not_true, Bool.not_false, at_0, at_1, at_2, at_3, at_4, at_5, at_6, at_7, ix_1_0, ix_2_0, ix_2_1, ix_3_0, ix_3_1, ix_3_2, ix_4_0, ix_4_1, ix_4_2, ix_4_3]
    refine ⟨.int, .int, hN _ _ ?_⟩
    simp only [sp_common_divisor, fr.g, sSeq, sAsg, sDrop, sRet, sRetN, sIf, sNext, sPar, sPar3, sFor, sRaise, sFldT, sNo, rNo, rVar, rFrz, rC, rBin, rTest, bAnd, bOr, bNot, bIf, vAnd, vOr, vNot, rIf, rNeg, aNil, aCons, rTup, rLst, rLstC, rArgs, gNameT, gNilT, gConsT, gTupT, gSubT, iSeq, iRng1T, iRng2T, rLc, rCall, rCallN, rCallS, rFld, rCon, rMake, rMakeN, rMakeP, rMeth, rMethK, rProp, rClsFn, rOpOwn, rSl, oNone, oSome, rFmt, kFmt, rJs, rLidx, rChain, rTru, truT, rStr0, rPart, rSplit, kIntS, gStarT, kStrOwn, kAddC, rDct, kInt1, iEnumT, rMakeStar, rJoin, iZipM, rLcP, kLenOwn, kBoolOwn, rCMeth, rClsStar, rClsMake, rLz, rRevL, rRev2, rCMethK, rExcV, rMut, kAdd, kI2, kI2n, kMul, kIx, kIn, kLen, kU, kA2, kDm, kStrI, kAll, kSl, kAppend, kExtend, kTuple, kList, lenT, seqOf, bYes, startT, one, pickG, selG, insOf, putT, flatT, Bool.false_xor, Bool.true_xor, List.all_cons, List.all_nil, Bool.and_self, T.int.injEq, T.bl.injEq, T.str.injEq, T.lst.injEq, T.tup.injEq, T.cell.injEq, T.ins.injEq, Cell.lst.injEq, Cell.ins.injEq, Prod.mk.injEq, List.cons.injEq, Option.some.injEq, List.map_cons, List.map_nil, List.length_cons, List.length_nil, List.cons_append, List.nil_append, List.append_nil, List.getElem?_cons_zero, List.getElem?_cons_succ, List.set_cons_zero, List.set_cons_succ, List.replicate_succ, List.replicate_zero, exists_eq_left, exists_eq_left', exists_and_left, and_true, true_and, and_self, and_assoc, Nat.sub_self, Nat.reduceAdd, Nat.reduceSub, Nat.zero_add, put_put, put_same, reduceIte, Bool.false_eq_true, Bool.true_eq_false, Bool.not_true, Bool.not_false, at_0, at_1, at_2, at_3, at_4, at_5, at_6, at_7, ix_1_0, ix_2_0, ix_2_1, ix_3_0, ix_3_1, ix_3_2, ix_4_0, ix_4_1, ix_4_2, ix_4_3]
    exact ⟨fr.a.pos, Int.le_of_lt fr.b.pos, eqI q⟩
  · exact h.elim
theorem sc_check_fractions : FnScope ["values", "value"] ["values"] (defScope s_check_fractions) := ⟨rfl, rfl, rfl, by decide +kernel, rfl, by decide +kernel, by decide +kernel⟩
def sp_check_fractions : SpT := fun ts S R _ => match ts with
  | [.tup l] => FrL 8000 l ∧ R .non S
  | _ => False
theorem ok_check_fractions {P : Program} {w : World} {K : PySem.W.Frag} {mg : Str → Option Value} {base : Heap} {f : Addr} {fd : FuncData} {g_is_fraction : Addr} {gd_is_fraction : FuncData} (F : Fun K "check_fractions" "check_fractions" s_check_fractions f fd)
    (G_is_fraction : FnT P w K mg base 3 g_is_fraction gd_is_fraction ["value"] (sp_is_fraction K))
    (m_is_fraction : mg "is_fraction" = some (.ref g_is_fraction))
    (k_is_fraction : PySem.W.keepIn K (.ref g_is_fraction) = true)
    (b_is_fraction : Binds K gd_is_fraction ["value"] [])
    : FnT P w K mg base 4 f fd ["values"] sp_check_fractions := by
  refine okT F sc_check_fractions (by intro ts S R RE h; unfold sp_check_fractions at h; split at h <;> first | rfl | exact h.elim) (fun cdv A out s H E hg hr => (bs_one (ss_for (passes_of rfl) rfl (it_seq (et_var (pv 0))) (gt_name (pg_name (i := 1) sc_check_fractions.nd rfl (by first | exact Or.inl rfl | exact Or.inr rfl))) (bs_one (ss_if (tt_not (tt_val (et_callD G_is_fraction hg (hr.mono (by decide)) (by rfl) m_is_fraction k_is_fraction (CallD.all b_is_fraction) (passL2N (L2N.takes_of rfl rfl rfl rfl)) (at_cons (et_var (pv 1)) at_nil)))) (bs_one ss_never) bs_nil))))) ?_
  intro ts S R RE h
  unfold sp_check_fractions at h
  split at h
  · rename_i l
    obtain ⟨fr, q⟩ := h
    simp only [sSeq, sAsg, sDrop, sRet, sRetN, sIf, sNext, sPar, sPar3, sFor, sRaise, sFldT, sNo, rNo, rVar, rFrz, rC, rBin, rTest, bAnd, bOr, bNot, bIf, vAnd, vOr, vNot, rIf, rNeg, aNil, aCons, rTup, rLst, rLstC, rArgs, gNameT, gNilT, gConsT, gTupT, gSubT, iSeq, iRng1T, iRng2T, rLc, rCall, rCallN, rCallS, rFld, rCon, rMake, rMakeN, rMakeP, rMeth, rMethK, rProp, rClsFn, rOpOwn, rSl, oNone, oSome, rFmt, kFmt, rJs, rLidx, rChain, rTru, truT, rStr0, rPart, rSplit, kIntS, gStarT, kStrOwn, kAddC, rDct, kInt1, iEnumT, rMakeStar, rJoin, iZipM, rLcP, kLenOwn, kBoolOwn, rCMeth, rClsStar, rClsMake, rLz, rRevL, rRev2, rCMethK, rExcV, rMut, kAdd, kI2, kI2n, kMul, kIx, kIn, kLen, kU, kA2, kDm, kStrI, kAll, kSl, kAppend, kExtend, kTuple, kList, lenT, seqOf, bYes, startT, one, pickG, selG, insOf, putT, flatT, Bool.false_xor, Bool.true_xor, List.all_cons, List.all_nil, Bool.and_self, T.int.injEq, T.bl.injEq, T.str.injEq, T.lst.injEq, T.tup.injEq, T.cell.injEq, T.ins.injEq, Cell.lst.injEq, Cell.ins.injEq, Prod.mk.injEq, List.cons.injEq, Option.some.injEq, List.map_cons, List.map_nil, List.length_cons, List.length_nil, List.cons_append, List.nil_append, List.append_nil, List.getElem?_cons_zero, List.getElem?_cons_succ, List.set_cons_zero, List.set_cons_succ, List.replicate_succ, List.replicate_zero, exists_eq_left, exists_eq_left', exists_and_left, and_true, true_and, and_self, and_assoc, Nat.sub_self, Nat.reduceAdd, Nat.reduceSub, Nat.zero_add, put_put, put_same, reduceIte, Bool.false_eq_true, Bool.true_eq_false, Bool.not_true, Bool.not_false, at_0, at_1, at_2, at_3, at_4, at_5, at_6, at_7, ix_1_0, ix_2_0, ix_2_1, ix_3_0, ix_3_1, ix_3_2, ix_4_0, ix_4_1, ix_4_2, ix_4_3]
    refine rLoop_inv (fun _ σ S' => S' = S ∧ ∃ v, σ = [some (.tup l), v]) ⟨rfl, none, rfl⟩ ?_ ?_
    · rintro i t σ S' hi ⟨rfl, v, rfl⟩ N hN
      obtain ⟨a, b, rfl, f⟩ := fr t (List.mem_of_getElem? hi)
      simp only [sp_is_fraction, frT, sSeq, sAsg, sDrop, sRet, sRetN, sIf, sNext, sPar, sPar3, sFor, sRaise, sFldT, sNo, rNo, rVar, rFrz, rC, rBin, rTest, bAnd, bOr, bNot, bIf, vAnd, vOr, vNot, rIf, rNeg, aNil, aCons, rTup, rLst, rLstC, rArgs, gNameT, gNilT, gConsT, gTupT, gSubT, iSeq, iRng1T, iRng2T, rLc, rCall, rCallN, rCallS, rFld, rCon, rMake, rMakeN, rMakeP, rMeth, rMethK, rProp, rClsFn, rOpOwn, rSl, oNone, oSome, rFmt, kFmt, rJs, rLidx, rChain, rTru, truT, rStr0, rPart, rSplit, kIntS, gStarT, kStrOwn, kAddC, rDct, kInt1, iEnumT, rMakeStar, rJoin, iZipM, rLcP, kLenOwn, kBoolOwn, rCMeth, rClsStar, rClsMake, rLz, rRevL, rRev2, rCMethK, rExcV, rMut, kAdd, kI2, kI2n, kMul, kIx, kIn, kLen, kU, kA2, kDm, kStrI, kAll, kSl, kAppend, kExtend, kTuple, kList, lenT, seqOf, bYes, startT, one, pickG, selG, insOf, putT, flatT, Bool.false_xor, Bool.true_xor, List.all_cons, List.all_nil, Bool.and_self, T.int.injEq, T.bl.injEq, T.str.injEq, T.lst.injEq, T.tup.injEq, T.cell.injEq, T.ins.injEq, Cell.lst.injEq, Cell.ins.injEq, Prod.mk.injEq, List.cons.injEq, Option.some.injEq, List.map_cons, List.map_nil, List.length_cons, List.length_nil, List.cons_append, List.nil_append, List.append_nil, List.getElem?_cons_zero, List.getElem?_cons_succ, List.set_cons_zero, List.set_cons_succ, List.replicate_succ, List.replicate_zero, exists_eq_left, exists_eq_left', exists_and_left, and_true, true_and, and_self, and_assoc, Nat.sub_self, Nat.reduceAdd, Nat.reduceSub, Nat.zero_add, put_put, put_same, reduceIte, Bool.false_eq_true, Bool.true_eq_false, Bool.not_true, Bool.not_false, at_0, at_1, at_2, at_3, at_4, at_5, at_6, at_7, ix_1_0, ix_2_0, ix_2_1, ix_3_0, ix_3_1, ix_3_2, ix_4_0, ix_4_1, ix_4_2, ix_4_3]
      exact ⟨f, hN _ _ ⟨rfl, _, rfl⟩⟩
    · rintro σ S' ⟨rfl, v, rfl⟩
      exact q
  · exact h.elim
theorem sc_quotient : FnScope ["one", "other"] ["one", "other"] (defScope s_quotient) := ⟨rfl, rfl, rfl, by decide +kernel, rfl, by decide +kernel, by decide +kernel⟩
def sp_quotient : SpT := fun ts S R _ => match ts with
  | [.tup [.int a, .int b], .tup [.int c, .int d]] => Fr 3900 a b ∧ Fr 3900 c d ∧ R (frT (lwA (a * d) (b * c)) (lwB (a * d) (b * c))) S
  | _ => False
theorem ok_quotient {P : Program} {w : World} {K : PySem.W.Frag} {mg : Str → Option Value} {base : Heap} {f : Addr} {fd : FuncData} {g_lowest_terms g_check_fractions : Addr} {gd_lowest_terms : FuncData} {gd_check_fractions : FuncData} (F : Fun K "quotient" "quotient" s_quotient f fd)
    (G_lowest_terms : FnT P w K mg base 2 g_lowest_terms gd_lowest_terms ["top", "bottom"] sp_lowest_terms)
    (m_lowest_terms : mg "lowest_terms" = some (.ref g_lowest_terms))
    (k_lowest_terms : PySem.W.keepIn K (.ref g_lowest_terms) = true)
    (b_lowest_terms : Binds K gd_lowest_terms ["top", "bottom"] [])
    (G_check_fractions : FnT P w K mg base 4 g_check_fractions gd_check_fractions ["values"] sp_check_fractions)
    (m_check_fractions : mg "check_fractions" = some (.ref g_check_fractions))
    (k_check_fractions : PySem.W.keepIn K (.ref g_check_fractions) = true)
    (b_check_fractions : Binds K gd_check_fractions ["values"] [])
    : FnT P w K mg base 5 f fd ["one", "other"] sp_quotient := by
  refine okT F sc_quotient (by intro ts S R RE h; unfold sp_quotient at h; split at h <;> first | rfl | exact h.elim) (fun cdv A out s H E hg hr => (bs_cons (ss_expr (et_callD G_check_fractions hg (hr.mono (by decide)) (by rfl) m_check_fractions k_check_fractions (CallD.all b_check_fractions) (passL2N (L2N.takes_of rfl rfl rfl rfl)) (at_cons (et_tup (at_cons (et_var (pv 0)) (at_cons (et_var (pv 1)) at_nil))) at_nil)))
    (bs_one (ss_ret (et_callD G_lowest_terms hg (hr.mono (by decide)) (by rfl) m_lowest_terms k_lowest_terms (CallD.all b_lowest_terms) (passL2N (L2N.takes_of rfl rfl rfl rfl)) (at_cons (et_op op_mulG cv_mul (et_ix ix_seq cv_ix (et_var (pv 0)) et_int (fun _ _ => rfl)) (et_ix ix_seq cv_ix (et_var (pv 1)) et_int (fun _ _ => rfl))) (at_cons (et_op op_mulG cv_mul (et_ix ix_seq cv_ix (et_var (pv 0)) et_int (fun _ _ => rfl)) (et_ix ix_seq cv_ix (et_var (pv 1)) et_int (fun _ _ => rfl))) at_nil))))))) ?_
  intro ts S R RE h
  unfold sp_quotient at h
  split at h
  · rename_i a b c d
    obtain ⟨f, g, q⟩ := h
    have f8 := f.up (m := 8000) (by decide)
    have g8 := g.up (m := 8000) (by decide)
    refine sSeq_i fun N hN => ?_
    simp only [sp_check_fractions, sSeq, sAsg, sDrop, sRet, sRetN, sIf, sNext, sPar, sPar3, sFor, sRaise, sFldT, sNo, rNo, rVar, rFrz, rC, rBin, rTest, bAnd, bOr, bNot, bIf, vAnd, vOr, vNot, rIf, rNeg, aNil, aCons, rTup, rLst, rLstC, rArgs, gNameT, gNilT, gConsT, gTupT, gSubT, iSeq, iRng1T, iRng2T, rLc, rCall, rCallN, rCallS, rFld, rCon, rMake, rMakeN, rMakeP, rMeth, rMethK, rProp, rClsFn, rOpOwn, rSl, oNone, oSome, rFmt, kFmt, rJs, rLidx, rChain, rTru, truT, rStr0, rPart, rSplit, kIntS, gStarT, kStrOwn, kAddC, rDct, kInt1, iEnumT, rMakeStar, rJoin, iZipM, rLcP, kLenOwn, kBoolOwn, rCMeth, rClsStar, rClsMake, rLz, rRevL, rRev2, rCMethK, rExcV, rMut, kAdd, kI2, kI2n, kMul, kIx, kIn, kLen, kU, kA2, kDm, kStrI, kAll, kSl, kAppend, kExtend, kTuple, kList, lenT, seqOf, bYes, startT, one, pickG, selG, insOf, putT, flatT, Bool.false_xor, Bool.true_xor, List.all_cons, List.all_nil, Bool.and_self, T.int.injEq, T.bl.injEq, T.str.injEq, T.lst.injEq, T.tup.injEq, T.cell.injEq, T.ins.injEq, Cell.lst.injEq, Cell.ins.injEq, Prod.mk.injEq, List.cons.injEq, Option.some.injEq, List.map_cons, List.map_nil, List.length_cons, List.length_nil, List.cons_append, List.nil_append, List.append_nil, List.getElem?_cons_zero, List.getElem?_cons_succ, List.set_cons_zero, List.set_cons_succ, List.replicate_succ, List.replicate_zero, exists_eq_left, exists_eq_left', exists_and_left, and_true, true_and, and_self, and_assoc, Nat.sub_self, Nat.reduceAdd, Nat.reduceSub, Nat.zero_add, put_put, put_same, reduceIte, Bool.false_eq_true, Bool.true_eq_false, Bool.not_true, Bool.not_false, at_0, at_1, at_2, at_3, at_4, at_5, at_6, at_7, ix_1_0, ix_2_0, ix_2_1, ix_3_0, ix_3_1, ix_3_2, ix_4_0, ix_4_1, ix_4_2, ix_4_3]
    refine ⟨by decide, FrL.two f8 g8, hN _ _ ?_⟩
    simp only [sp_lowest_terms, sSeq, sAsg, sDrop, sRet, sRetN, sIf, sNext, sPar, sPar3, sFor, sRaise, sFldT, sNo, rNo, rVar, rFrz, rC, rBin, rTest, bAnd, bOr, bNot, bIf, vAnd, vOr, vNot, rIf, rNeg, aNil, aCons, rTup, rLst, rLstC, rArgs, gNameT, gNilT, gConsT, gTupT, gSubT, iSeq, iRng1T, iRng2T, rLc, rCall, rCallN, rCallS, rFld, rCon, rMake, rMakeN, rMakeP, rMeth, rMethK, rProp, rClsFn, rOpOwn, rSl, oNone, oSome, rFmt, kFmt, rJs, rLidx, rChain, rTru, truT, rStr0, rPart, rSplit, kIntS, gStarT, kStrOwn, kAddC, rDct, kInt1, iEnumT, rMakeStar, rJoin, iZipM, rLcP, kLenOwn, kBoolOwn, rCMeth, rClsStar, rClsMake, rLz, rRevL, rRev2, rCMethK, rExcV, rMut, kAdd, kI2, kI2n, kMul, kIx, kIn, kLen, kU, kA2, kDm, kStrI, kAll, kSl, kAppend, kExtend, kTuple, kList, lenT, seqOf, bYes, startT, one, pickG, selG, insOf, putT, flatT, Bool.false_xor, Bool.true_xor, List.all_cons, List.all_nil, Bool.and_self, T.int.injEq, T.bl.injEq, T.str.injEq, T.lst.injEq, T.tup.injEq, T.cell.injEq, T.ins.injEq, Cell.lst.injEq, Cell.ins.injEq, Prod.mk.injEq, List.cons.injEq, Option.some.injEq, List.map_cons, List.map_nil, List.length_cons, List.length_nil, List.cons_append, List.nil_append, List.append_nil, List.getElem?_cons_zero, List.getElem?_cons_succ, List.set_cons_zero, List.set_cons_succ, List.replicate_succ, List.replicate_zero, exists_eq_left, exists_eq_left', exists_and_left, and_true, true_and, and_self, and_assoc, Nat.sub_self, Nat.reduceAdd, Nat.reduceSub, Nat.zero_add, put_put, put_same, reduceIte, Bool.false_eq_true, Bool.true_eq_false, Bool.not_true, Bool.not_false, at_0, at_1, at_2, at_3, at_4, at_5, at_6, at_7, ix_1_0, ix_2_0, ix_2_1, ix_3_0, ix_3_1, ix_3_2, ix_4_0, ix_4_1, ix_4_2, ix_4_3]
    exact ⟨f.a.mulW g.b, f.b.mulW g.a, (f.a.mul g.b).up (by decide), (f.b.mul g.a).pos, q⟩
  · exact h.elim
theorem sc_order : FnScope ["left", "right"] ["left", "right"] (defScope s_order) := ⟨rfl, rfl, rfl, by decide +kernel, rfl, by decide +kernel, by decide +kernel⟩
def sp_order : SpT := fun ts S R _ => match ts with
  | [.int l, .int r] => R (.int (sgn l r)) S
  | _ => False
theorem ok_order {P : Program} {w : World} {K : PySem.W.Frag} {mg : Str → Option Value} {base : Heap} {f : Addr} {fd : FuncData}   (F : Fun K "order" "order" s_order f fd)
    : FnT P w K mg base 1 f fd ["left", "right"] sp_order := by
  refine okT F sc_order (by intro ts S R RE h; unfold sp_order at h; split at h <;> first | rfl | exact h.elim) (fun cdv A out s H E hg hr => (bs_cons (ss_if (tt_cmp op_lt cv_B2n (et_var (pv 0)) (et_var (pv 1)) (nomark _)) (bs_one (ss_ret (et_neg et_int))) bs_nil)
    (bs_cons (ss_if (tt_cmp op_gt cv_B2n (et_var (pv 0)) (et_var (pv 1)) (nomark _)) (bs_one (ss_ret et_int)) bs_nil)
    (bs_one (ss_ret et_int))))) ?_
  intro ts S R RE h
  unfold sp_order at h
  split at h
  · rename_i l r
    unfold sgn at h
    refine sSeq_i fun N hN => ?_
    simp only [sSeq, sAsg, sDrop, sRet, sRetN, sIf, sNext, sPar, sPar3, sFor, sRaise, sFldT, sNo, rNo, rVar, rFrz, rC, rBin, rTest, bAnd, bOr, bNot, bIf, vAnd, vOr, vNot, rIf, rNeg, aNil, aCons, rTup, rLst, rLstC, rArgs, gNameT, gNilT, gConsT, gTupT, gSubT, iSeq, iRng1T, iRng2T, rLc, rCall, rCallN, rCallS, rFld, rCon, rMake, rMakeN, rMakeP, rMeth, rMethK, rProp, rClsFn, rOpOwn, rSl, oNone, oSome, rFmt, kFmt, rJs, rLidx, rChain, rTru, truT, rStr0, rPart, rSplit, kIntS, gStarT, kStrOwn, kAddC, rDct, kInt1, iEnumT, rMakeStar, rJoin, iZipM, rLcP, kLenOwn, kBoolOwn, rCMeth, rClsStar, rClsMake, rLz, rRevL, rRev2, rCMethK, rExcV, rMut, kAdd, kI2, kI2n, kMul, kIx, kIn, kLen, kU, kA2, kDm, kStrI, kAll, kSl, kAppend, kExtend, kTuple, kList, lenT, seqOf, bYes, startT, one, pickG, selG, insOf, putT, flatT, Bool.false_xor, Bool.true_xor, List.all_cons, List.all_nil, Bool.and_self, T.int.injEq, T.bl.injEq, T.str.injEq, T.lst.injEq, T.tup.injEq, T.cell.injEq, T.ins.injEq, Cell.lst.injEq, Cell.ins.injEq, Prod.mk.injEq, List.cons.injEq, Option.some.injEq, List.map_cons, List.map_nil, List.length_cons, List.length_nil, List.cons_append, List.nil_append, List.append_nil, List.getElem?_cons_zero, List.getElem?_cons_succ, List.set_cons_zero, List.set_cons_succ, List.replicate_succ, List.replicate_zero, exists_eq_left, exists_eq_left', exists_and_left, and_true, true_and, and_self, and_assoc, Nat.sub_self, Nat.reduceAdd, Nat.reduceSub, Nat.zero_add, put_put, put_same, reduceIte, Bool.false_eq_true, Bool.true_eq_false, Bool.not_true, Bool.not_false, at_0, at_1, at_2, at_3, at_4, at_5, at_6, at_7, ix_1_0, ix_2_0, ix_2_1, ix_3_0, ix_3_1, ix_3_2, ix_4_0, ix_4_1, ix_4_2, ix_4_3]
    refine ite_d (fun c => ?_) (fun c => hN _ _ ?_)
    · rw [if_pos c] at h
      exact h
    · rw [if_neg c] at h
      refine sSeq_i fun N hN => ?_
      simp only [sSeq, sAsg, sDrop, sRet, sRetN, sIf, sNext, sPar, sPar3, sFor, sRaise, sFldT, sNo, rNo, rVar, rFrz, rC, rBin, rTest, bAnd, bOr, bNot, bIf, vAnd, vOr, vNot, rIf, rNeg, aNil, aCons, rTup, rLst, rLstC, rArgs, gNameT, gNilT, gConsT, gTupT, gSubT, iSeq, iRng1T, iRng2T, rLc, rCall, rCallN, rCallS, rFld, rCon, rMake, rMakeN, rMakeP, rMeth, rMethK, rProp, rClsFn, rOpOwn, rSl, oNone, oSome, rFmt, kFmt, rJs, rLidx, rChain, rTru, truT, rStr0, rPart, rSplit, kIntS, gStarT, kStrOwn, kAddC, rDct, kInt1, iEnumT, rMakeStar, rJoin, iZipM, rLcP, kLenOwn, kBoolOwn, rCMeth, rClsStar, rClsMake, rLz, rRevL, rRev2, rCMethK, rExcV, rMut, kAdd, kI2, kI2n, kMul, kIx, kIn, kLen, kU, kA2, kDm, kStrI, kAll, kSl, kAppend, kExtend, kTuple, kList, lenT, seqOf, bYes, startT, one, pickG, selG, insOf, putT, flatT, Bool.false_xor, Bool.true_xor, List.all_cons, List.all_nil, Bool.and_self, T.int.injEq, T.bl.injEq, T.str.injEq, T.lst.injEq, T.tup.injEq, T.cell.injEq, T.ins.injEq, Cell.lst.injEq, Cell.ins.injEq, Prod.mk.injEq, List.cons.injEq, Option.some.injEq, List.map_cons, List.map_nil, List.length_cons, List.length_nil, List.cons_append, List.nil_append, List.append_nil, List.getElem?_cons_zero, List.getElem?_cons_succ, List.set_cons_zero, List.set_cons_succ, List.replicate_succ, List.replicate_zero, exists_eq_left, exists_eq_left', exists_and_left, and_true, true_and, and_self, and_assoc, Nat.sub_self, Nat.reduceAdd, Nat.reduceSub, Nat.zero_add, put_put, put_same, reduceIte, Bool.false_eq_true, Bool.true_eq_false, Bool.not_true, Bool.not_false, at_0, at_1, at_2, at_3, at_4, at_5, at_6, at_7, ix_1_0, ix_2_0, ix_2_1, ix_3_0, ix_3_1, ix_3_2, ix_4_0, ix_4_1, ix_4_2, ix_4_3]
      refine ite_d (fun c => ?_) (fun c => hN _ _ ?_)
      · rw [if_pos c] at h
        exact h
      · rw [if_neg c] at h
        simp only [sSeq, sAsg, sDrop, sRet, sRetN, sIf, sNext, sPar, sPar3, sFor, sRaise, sFldT, sNo, rNo, rVar, rFrz, rC, rBin, rTest, bAnd, bOr, bNot, bIf, vAnd, vOr, vNot, rIf, rNeg, aNil, aCons, rTup, rLst, rLstC, rArgs, gNameT, gNilT, gConsT, gTupT, gSubT, iSeq, iRng1T, iRng2T, rLc, rCall, rCallN, rCallS, rFld, rCon, rMake, rMakeN, rMakeP, rMeth, rMethK, rProp, rClsFn, rOpOwn, rSl, oNone, oSome, rFmt, kFmt, rJs, rLidx, rChain, rTru, truT, rStr0, rPart, rSplit, kIntS, gStarT, kStrOwn, kAddC, rDct, kInt1, iEnumT, rMakeStar, rJoin, iZipM, rLcP, kLenOwn, kBoolOwn, rCMeth, rClsStar, rClsMake, rLz, rRevL, rRev2, rCMethK, rExcV, rMut, kAdd, kI2, kI2n, kMul, kIx, kIn, kLen, kU, kA2, kDm, kStrI, kAll, kSl, kAppend, kExtend, kTuple, kList, lenT, seqOf, bYes, startT, one, pickG, selG, insOf, putT, flatT, Bool.false_xor, Bool.true_xor, List.all_cons, List.all_nil, Bool.and_self, T.int.injEq, T.bl.injEq, T.str.injEq, T.lst.injEq, T.tup.injEq, T.cell.injEq, T.ins.injEq, Cell.lst.injEq, Cell.ins.injEq, Prod.mk.injEq, List.cons.injEq, Option.some.injEq, List.map_cons, List.map_nil, List.length_cons, List.length_nil, List.cons_append, List.nil_append, List.append_nil, List.getElem?_cons_zero, List.getElem?_cons_succ, List.set_cons_zero, List.set_cons_succ, List.replicate_succ, List.replicate_zero, exists_eq_left, exists_eq_left', exists_and_left, and_true, true_and, and_self, and_assoc, Nat.sub_self, Nat.reduceAdd, Nat.reduceSub, Nat.zero_add, put_put, put_same, reduceIte, Bool.false_eq_true, Bool.true_eq_false, Bool.not_true, Bool.not_false, at_0, at_1, at_2, at_3, at_4, at_5, at_6, at_7, ix_1_0, ix_2_0, ix_2_1, ix_3_0, ix_3_1, ix_3_2, ix_4_0, ix_4_1, ix_4_2, ix_4_3]
        exact h
  · exact h.elim
theorem sc_compare : FnScope ["one", "other"] ["one", "other"] (defScope s_compare) := ⟨rfl, rfl, rfl, by decide +kernel, rfl, by decide +kernel, by decide +kernel⟩
def sp_compare : SpT := fun ts S R _ => match ts with
  | [.tup [.int a, .int b], .tup [.int c, .int d]] => Fr 3900 a b ∧ Fr 3900 c d ∧ R (.int (sgn (a * d) (c * b))) S
  | _ => False
theorem ok_compare {P : Program} {w : World} {K : PySem.W.Frag} {mg : Str → Option Value} {base : Heap} {f : Addr} {fd : FuncData} {g_order g_check_fractions : Addr} {gd_order : FuncData} {gd_check_fractions : FuncData} (F : Fun K "compare" "compare" s_compare f fd)
    (G_order : FnT P w K mg base 1 g_order gd_order ["left", "right"] sp_order)
    (m_order : mg "order" = some (.ref g_order))
    (k_order : PySem.W.keepIn K (.ref g_order) = true)
    (b_order : Binds K gd_order ["left", "right"] [])
    (G_check_fractions : FnT P w K mg base 4 g_check_fractions gd_check_fractions ["values"] sp_check_fractions)
    (m_check_fractions : mg "check_fractions" = some (.ref g_check_fractions))
    (k_check_fractions : PySem.W.keepIn K (.ref g_check_fractions) = true)
    (b_check_fractions : Binds K gd_check_fractions ["values"] [])
    : FnT P w K mg base 5 f fd ["one", "other"] sp_compare := by
  refine okT F sc_compare (by intro ts S R RE h; unfold sp_compare at h; split at h <;> first | rfl | exact h.elim) (fun cdv A out s H E hg hr => (bs_cons (ss_expr (et_callD G_check_fractions hg (hr.mono (by decide)) (by rfl) m_check_fractions k_check_fractions (CallD.all b_check_fractions) (passL2N (L2N.takes_of rfl rfl rfl rfl)) (at_cons (et_tup (at_cons (et_var (pv 0)) (at_cons (et_var (pv 1)) at_nil))) at_nil)))
    (bs_one (ss_ret (et_callD G_order hg (hr.mono (by decide)) (by rfl) m_order k_order (CallD.all b_order) (passL2N (L2N.takes_of rfl rfl rfl rfl)) (at_cons (et_op op_mulG cv_mul (et_ix ix_seq cv_ix (et_var (pv 0)) et_int (fun _ _ => rfl)) (et_ix ix_seq cv_ix (et_var (pv 1)) et_int (fun _ _ => rfl))) (at_cons (et_op op_mulG cv_mul (et_ix ix_seq cv_ix (et_var (pv 1)) et_int (fun _ _ => rfl)) (et_ix ix_seq cv_ix (et_var (pv 0)) et_int (fun _ _ => rfl))) at_nil))))))) ?_
  intro ts S R RE h
  unfold sp_compare at h
  split at h
  · rename_i a b c d
    obtain ⟨f, g, q⟩ := h
    have f8 := f.up (m := 8000) (by decide)
    have g8 := g.up (m := 8000) (by decide)
    refine sSeq_i fun N hN => ?_
    simp only [sp_check_fractions, sSeq, sAsg, sDrop, sRet, sRetN, sIf, sNext, sPar, sPar3, sFor, sRaise, sFldT, sNo, rNo, rVar, rFrz, rC, rBin, rTest, bAnd, bOr, bNot, bIf, vAnd, vOr, vNot, rIf, rNeg, aNil, aCons, rTup, rLst, rLstC, rArgs, gNameT, gNilT, gConsT, gTupT, gSubT, iSeq, iRng1T, iRng2T, rLc, rCall, rCallN, rCallS, rFld, rCon, rMake, rMakeN, rMakeP, rMeth, rMethK, rProp, rClsFn, rOpOwn, rSl, oNone, oSome, rFmt, kFmt, rJs, rLidx, rChain, rTru, truT, rStr0, rPart, rSplit, kIntS, gStarT, kStrOwn, kAddC, rDct, kInt1, iEnumT, rMakeStar, rJoin, iZipM, rLcP, kLenOwn, kBoolOwn, rCMeth, rClsStar, rClsMake, rLz, rRevL, rRev2, rCMethK, rExcV, rMut, kAdd, kI2, kI2n, kMul, kIx, kIn, kLen, kU, kA2, kDm, kStrI, kAll, kSl, kAppend, kExtend, kTuple, kList, lenT, seqOf, bYes, startT, one, pickG, selG, insOf, putT, flatT, Bool.false_xor, Bool.true_xor, List.all_cons, List.all_nil, Bool.and_self, T.int.injEq, T.bl.injEq, T.str.injEq, T.lst.injEq, T.tup.injEq, T.cell.injEq, T.ins.injEq, Cell.lst.injEq, Cell.ins.injEq, Prod.mk.injEq, List.cons.injEq, Option.some.injEq, List.map_cons, List.map_nil, List.length_cons, List.length_nil, List.cons_append, List.nil_append, List.append_nil, List.getElem?_cons_zero, List.getElem?_cons_succ, List.set_cons_zero, List.set_cons_succ, List.replicate_succ, List.replicate_zero, exists_eq_left, exists_eq_left', exists_and_left, and_true, true_and, and_self, and_assoc, Nat.sub_self, Nat.reduceAdd, Nat.reduceSub, Nat.zero_add, put_put, put_same, reduceIte, Bool.false_eq_true, Bool.true_eq_false, Bool.not_true, Bool.not_false, at_0, at_1, at_2, at_3, at_4, at_5, at_6, at_7, ix_1_0, ix_2_0, ix_2_1, ix_3_0, ix_3_1, ix_3_2, ix_4_0, ix_4_1, ix_4_2, ix_4_3]
    refine ⟨by decide, FrL.two f8 g8, hN _ _ ?_⟩
    simp only [sp_order, sSeq, sAsg, sDrop, sRet, sRetN, sIf, sNext, sPar, sPar3, sFor, sRaise, sFldT, sNo, rNo, rVar, rFrz, rC, rBin, rTest, bAnd, bOr, bNot, bIf, vAnd, vOr, vNot, rIf, rNeg, aNil, aCons, rTup, rLst, rLstC, rArgs, gNameT, gNilT, gConsT, gTupT, gSubT, iSeq, iRng1T, iRng2T, rLc, rCall, rCallN, rCallS, rFld, rCon, rMake, rMakeN, rMakeP, rMeth, rMethK, rProp, rClsFn, rOpOwn, rSl, oNone, oSome, rFmt, kFmt, rJs, rLidx, rChain, rTru, truT, rStr0, rPart, rSplit, kIntS, gStarT, kStrOwn, kAddC, rDct, kInt1, iEnumT, rMakeStar, rJoin, iZipM, rLcP, kLenOwn, kBoolOwn, rCMeth, rClsStar, rClsMake, rLz, rRevL, rRev2, rCMethK, rExcV, rMut, kAdd, kI2, kI2n, kMul, kIx, kIn, kLen, kU, kA2, kDm, kStrI, kAll, kSl, kAppend, kExtend, kTuple, kList, lenT, seqOf, bYes, startT, one, pickG, selG, insOf, putT, flatT, Bool.false_xor, Bool.true_xor, List.all_cons, List.all_nil, Bool.and_self, T.int.injEq, T.bl.injEq, T.str.injEq, T.lst.injEq, T.tup.injEq, T.cell.injEq, T.ins.injEq, Cell.lst.injEq, Cell.ins.injEq, Prod.mk.injEq, List.cons.injEq, Option.some.injEq, List.map_cons, List.map_nil, List.length_cons, List.length_nil, List.cons_append, List.nil_append, List.append_nil, List.getElem?_cons_zero, List.getElem?_cons_succ, List.set_cons_zero, List.set_cons_succ, List.replicate_succ, List.replicate_zero, exists_eq_left, exists_eq_left', exists_and_left, and_true, true_and, and_self, and_assoc, Nat.sub_self, Nat.reduceAdd, Nat.reduceSub, Nat.zero_add, put_put, put_same, reduceIte, Bool.false_eq_true, Bool.true_eq_false, Bool.not_true, Bool.not_false, at_0, at_1, at_2, at_3, at_4, at_5, at_6, at_7, ix_1_0, ix_2_0, ix_2_1, ix_3_0, ix_3_1, ix_3_2, ix_4_0, ix_4_1, ix_4_2, ix_4_3]
    exact ⟨f.a.mulW g.b, g.a.mulW f.b, q⟩
  · exact h.elim
/-- a law's last row: all([_law_right(_law_pool(_law_cell(script, k))) for k in range(m)]) -/
theorem law_cells {fr : T → Fm} {spR : SpT} {i j : Nat} {ns : List Int} {m : Int} {S : Store} {R : T → Store → Prop} (h63 : ns.length ≤ 63) (hm : 0 ≤ m ∧ m ≤ 100) (hi : ∀ t, (fr t)[i]? = some (some (.scr (ns.map T.int)))) (hj : ∀ t, (fr t)[j]? = some (some t))
    (hR : ∀ p S, PoolT S p → ∀ N : T → Store → Prop, (∀ S', N (.bl true) S') → spR [.cell p] S N XF) (q : ∀ S, R (.bl true) S) :
    rComp fr bYes (rCall spR [] (aCons (rCall sp_l_pool [] (aCons (rCall sp_l_cell [] (aCons (rVar i) (aCons (rVar j) aNil))) aNil)) aNil)) (rangeT 0 m) [] S (fun ys S2 => ∃ bs, ys = List.map T.bl bs ∧ R (.bl (bs.all id)) S2) := by
  have ln : (rangeT 0 m).length = m.toNat := by simp [rangeT]
  refine rComp_all (fun _ _ => True) (fun _ _ y => y = .bl true) trivial (by rw [ln, sizeLine_eq]; omega) ?_ ?_
  · intro k t S' hk _ N hN
    unfold rangeT at hk
    rw [List.getElem?_map] at hk
    obtain ⟨z, hz, rfl⟩ := Option.map_eq_some_iff.mp hk
    obtain ⟨lz, ez⟩ := List.getElem?_eq_some_iff.mp hz
    rw [List.getElem_range] at ez
    rw [List.length_range] at lz
    subst ez
    refine ⟨_, hi _, _, hj _, ?_⟩
    simp only [aNil, List.nil_append, List.append_nil, List.cons_append]
    refine ⟨⟨ns, rfl, h63⟩, by omega, by omega, fun v => ?_⟩
    intro p S2 hp ps
    exact hR p S2 ps.pool _ fun S3 => hN _ _ rfl trivial
  · intro ys S2 hl hF _
    refine ⟨List.replicate ys.length true, ?_, ?_⟩
    · refine List.ext_getElem? fun k => ?_
      rw [List.getElem?_map, List.getElem?_replicate]
      by_cases hk : k < ys.length
      · have := hF k ((rangeT 0 m)[k]'(by omega)) ys[k] (List.getElem?_eq_getElem (by omega)) (List.getElem?_eq_getElem hk)
        rw [List.getElem?_eq_getElem hk, this, if_pos hk]
        rfl
      · rw [List.getElem?_eq_none (by omega), if_neg hk]
        rfl
    · rw [show (List.replicate ys.length true).all id = true by rw [List.all_replicate]; split <;> rfl]
      exact q _
/-- max(2, min(k, len(script))), as the two ways of writing it give it -/
theorem range_le {n k : Int} (h : 0 ≤ n ∧ n ≤ 63) (hk : 0 ≤ k ∧ k ≤ 63) : 0 ≤ (if (if n < k then n else k) > 2 then (if n < k then n else k) else 2) ∧ (if (if n < k then n else k) > 2 then (if n < k then n else k) else 2) ≤ 100 := by
  split <;> split <;> omega
/-! small data: what repr shows of it is short -/
theorem two_ten : (2 : Nat) ^ 1900 < 10 ^ 600 := by decide +kernel
theorem intlen {i : Int} (h : i.natAbs < 2 ^ 1900) : (Str.ofString (toString i)).length ≤ 601 := by
  rw [PySem.ofString_length]
  exact PySem.int_text_length_le10 (k := 600) (by decide) (Nat.lt_trans h two_ten)
structure SmL (k n : Nat) (ts : List T) : Prop where
  ex : ∃ ds, T.datL ts = some ds ∧ PyData.showableAll ds = true ∧ PyData.hasDictAll ds = false ∧ PyData.depthAll ds ≤ k ∧ ((PyData.shownAll ds).map (·.length)).sum + 2 * ds.length ≤ n
theorem SmT.up {j k n m : Nat} {d : T} (h : SmT j n d) (le2 : j ≤ k) (le : n ≤ m) : SmT k m d := let ⟨d, a, b, c, e, f⟩ := h.ex; ⟨d, a, b, c, Nat.le_trans e le2, Nat.le_trans f le⟩
theorem SmL.nil {k : Nat} : SmL k 0 [] := ⟨[], by rw [T.datL], by simp only [PyData.showableAll], by simp only [PyData.hasDictAll], by simp only [PyData.depthAll]; omega, by rw [PyData.shownAll_nil]; exact Nat.le_refl _⟩
theorem SmL.cons {k n m : Nat} {t : T} {ts : List T} (h : SmT k n t) (q : SmL k m ts) : SmL k (n + m + 2) (t :: ts) := by
  obtain ⟨d, e1, sh, nd, dp, ln⟩ := h.ex
  obtain ⟨ds, e2, sh2, nd2, dp2, ln2⟩ := q.ex
  refine ⟨d :: ds, by rw [T.datL, e1, e2], by simp only [PyData.showableAll, sh, sh2, Bool.and_self], by simp only [PyData.hasDictAll, nd, nd2, Bool.or_self], ?_, ?_⟩
  · simp only [PyData.depthAll]
    omega
  · rw [PyData.shownAll_cons]
    simp only [List.map_cons, List.sum_cons, List.length_cons]
    omega
theorem SmT.lst {k n : Nat} {ts : List T} (h : SmL k n ts) : SmT (k + 1) (n + 3) (.lst ts) := by
  obtain ⟨ds, e, sh, nd, dp, ln⟩ := h.ex
  refine ⟨.list ds, by rw [T.dat, e]; rfl, by simp only [PyData.showable, sh], by simp only [PyData.hasDict, nd], ?_, ?_⟩
  · simp only [PyData.depth]
    omega
  · have h2 := listText_len_le (PyData.shownAll ds)
    rw [PyData.shownAll_length] at h2
    simp only [PyData.shown]
    omega
theorem SmT.tup {k n : Nat} {ts : List T} (h : SmL k n ts) : SmT (k + 1) (n + 3) (.tup ts) := by
  obtain ⟨ds, e, sh, nd, dp, ln⟩ := h.ex
  refine ⟨.tuple ds, by rw [T.dat, e]; rfl, by simp only [PyData.showable, sh], by simp only [PyData.hasDict, nd], ?_, ?_⟩
  · simp only [PyData.depth]
    omega
  · have h2 := tupleText_len_le (PyData.shownAll ds)
    rw [PyData.shownAll_length] at h2
    simp only [PyData.shown]
    omega
theorem SmT.int {i : Int} (h : i.natAbs < 2 ^ 1900) : SmT 1 601 (.int i) := by
  have l : i.natAbs.log2 < 1900 := PySem.Flt.log2_lt_of (by decide) h
  refine ⟨.int i, by rw [T.dat], ?_, by simp only [PyData.hasDict], by simp only [PyData.depth]; omega, ?_⟩
  · have := PyData.showableAll_ints [i] (fun n m => by rw [List.mem_singleton.mp m]; omega)
    simpa only [List.map_cons, List.map_nil, PyData.showableAll, Bool.and_true] using this
  · rw [PyData.shown_int]
    exact intlen h
theorem SmT.bool (b : Bool) : SmT 1 5 (.bl b) := by
  refine ⟨.bool b, by rw [T.dat], by simp only [PyData.showable], by simp only [PyData.hasDict], by simp only [PyData.depth]; omega, ?_⟩
  rw [PyData.shown_bool]
  cases b <;> decide
theorem SmT.fr {a b : Int} (h : Pn 1900 a) (k : Pn 1900 b) : SmT 2 1300 (frT a b) := (SmT.tup ((SmL.cons (SmT.int h.lt) (SmL.cons (SmT.int k.lt) SmL.nil)))).up (by decide) (by decide)
/-- repr of one thing -/
theorem repr_one {x : T} {k n : Nat} {S : Store} {R : T → Store → Prop} {RE : XT} (d : isDispT x = true) (s : SmT k n x) (hk : k ≤ 64) (hn : n ≤ 16777216) (q : R (.str (shownT x)) S) : kRepr [x] S R RE := ⟨x, k, n, rfl, d, s, hk, hn, q⟩
theorem eq_str {a b : Str} {S : Store} {R : T → Store → Prop} {RE : XT} {ng : Bool} (q : R (.bl (ng ^^ decide (a = b))) S) : kEqG ng (.str a) (.str b) S R RE := .inl ⟨rfl, q⟩
open TL (numL tl tl_append tl_num joinL numL_free numL_digits numL_ne)
/-! texts of numbers (for laws without c/show18.tl, c/parse.tl) -/
abbrev nS (i : Int) : Str := Str.ofString (toString i)
theorem nS_tl {w : Int} (h : 0 ≤ w) : tl (nS w) = numL w.toNat := by
  obtain ⟨n, rfl⟩ := Int.eq_ofNat_of_zero_le h
  exact tl_num n
theorem nS_S {w : Int} (h : 0 ≤ w) : nS w = SX.S (numL w.toNat) := by
  rw [← nS_tl h]
theorem sEmp (a : Str) : Str.empty ++ a = a := by
  show (⟨#[] ++ a.cps⟩ : Str) = a
  rw [Array.empty_append]
theorem num_free {n s : Nat} (h : s < 48 ∨ 57 < s) : s ∉ numL n := numL_free h
theorem dig_is : ∀ c, c < 58 → 48 ≤ c → Unicode.isDigit c = true := by decide +kernel
theorem numL_ok (n : Nat) : Txt.isascii (SX.S (numL n)) = true ∧ Txt.isdigit (SX.S (numL n)) = true := by
  have r : ∀ c ∈ numL n, 48 ≤ c ∧ c ≤ 57 := fun c m => numL_digits n c m
  have ne := numL_ne n
  have all : ∀ (p : Nat → Bool), (∀ c, 48 ≤ c → c ≤ 57 → p c = true) → (SX.S (numL n)).cps.all p = true := fun p hp => by
    rw [← Array.all_toList]
    exact List.all_eq_true.mpr fun c m => hp c (r c m).1 (r c m).2
  refine ⟨?_, ?_⟩
  · exact all _ fun c _ h => decide_eq_true (by omega)
  · show (decide ((SX.S (numL n)).length > 0) && (SX.S (numL n)).cps.all Unicode.isDigit) = true
    rw [all _ fun c a b => dig_is c (by omega) a, SX.S_len, Bool.and_true]
    exact decide_eq_true (List.length_pos_iff.mpr ne)
theorem pn_num {a : Int} (h : Pn 1900 a) : ∃ z, nS a = z ∧ z = SX.S (numL a.toNat) ∧ Txt.isascii z = true ∧ Txt.isdigit z = true ∧ z.length ≤ 601 ∧ PySem.intText? z = some a := by
  have hp := h.pos
  have hl : (nS a).length ≤ 601 := by
    rw [PySem.ofString_length]
    exact PySem.int_text_length_le10 (k := 600) (by decide) (Nat.lt_trans h.lt two_ten)
  have e := nS_S (w := a) (by omega)
  obtain ⟨n, rfl⟩ := Int.eq_ofNat_of_zero_le (show 0 ≤ a by omega)
  refine ⟨_, rfl, e, ?_, ?_, hl, ?_⟩
  · rw [e]; exact (numL_ok _).1
  · rw [e]; exact (numL_ok _).2
  · refine TL.int_num (n := n) ?_
    rw [e, SX.S_len] at hl
    exact Nat.le_trans hl (by decide)
/-- a fraction's text -/
def frS (a b : Int) : Str := if b = 1 then nS a else (nS a ++ "/") ++ nS b
theorem frS_1 {a : Int} : frS a 1 = nS a := if_pos rfl
theorem frS_n {a b : Int} (h : b ≠ 1) : frS a b = (nS a ++ "/") ++ nS b := if_neg h
theorem fr_part1 {a : Int} (h : 0 ≤ a) : Txt.partition (nS a) "/" = (nS a, Str.empty, Str.empty) := by
  have e2 : ("/" : Str) = SX.S [47] := by decide +kernel
  rw [nS_S h, e2]
  exact SX.partition_none (by simp) (SX.par_head_none (num_free (.inl (by decide))))
theorem fr_part2 {a b : Int} (h : 0 ≤ a) (k : 0 ≤ b) : Txt.partition ((nS a ++ "/") ++ nS b) "/" = (nS a, ("/" : Str), nS b) := by
  have e2 : ("/" : Str) = SX.S [47] := by decide +kernel
  rw [nS_S h, nS_S k, e2, SX.S_cat, SX.S_cat, List.append_assoc]
  exact SX.partition_some (by simp) (SX.par_head (numL b.toNat) (num_free (.inl (by decide))))
theorem frS_len {a b : Int} (f : Fr 1900 a b) : (frS a b).length ≤ sizeLine := by
  obtain ⟨z1, n1, e1, a1, d1, l1, i1⟩ := pn_num f.a
  obtain ⟨z2, n2, e2, a2, d2, l2, i2⟩ := pn_num f.b
  rw [sizeLine_eq]
  unfold frS
  rw [n1, n2]
  have ls : ("/" : Str).length = 1 := by decide
  have lA : ∀ a b : Str, (a ++ b).length = a.length + b.length := fun a b => by
    show (a.cps ++ b.cps).size = _
    rw [Array.size_append]; rfl
  split
  · omega
  · rw [lA, lA, ls]; omega
theorem isStr0 {K : PySem.W.Frag} {z : Str} {S : Store} {R : T → Store → Prop} {RE : XT} (q : R (.bl true) S) : kIsi K [.str z, .ty "str"] S R RE := by
  have := ValT.str (K := K) (S := S) (z := z) |>.is (n := "str") (by decide) (R := R) (RE := RE) (by show R (.bl true) S; exact q)
  exact this
theorem eqSt0 {a b : Str} {v ng : Bool} {S : Store} {R : T → Store → Prop} {RE : XT} (e : (ng ^^ decide (a = b)) = v) (q : R (.bl v) S) : kEqG ng (.str a) (.str b) S R RE := .inl ⟨rfl, by show R (.bl (ng ^^ decide (a = b))) S; rw [e]; exact q⟩
theorem sLen0 (a b : Str) : (a ++ b).length = a.length + b.length := by
  show (a.cps ++ b.cps).size = _
  rw [Array.size_append]; rfl
theorem sc_format_fraction : FnScope ["number", "top", "bottom"] ["number"] (defScope s_format_fraction) := ⟨rfl, rfl, rfl, by decide +kernel, rfl, by decide +kernel, by decide +kernel⟩
def sp_format_fraction (K : PySem.W.Frag) : SpT := fun ts S R _ => match ts with
  | [x] => ∃ a b, x = frT a b ∧ Fr 1900 a b ∧ R (.str (frS a b)) S
  | _ => False
theorem ok_format_fraction {P : Program} {w : World} {K : PySem.W.Frag} {mg : Str → Option Value} {base : Heap} {f : Addr} {fd : FuncData} {g_check_fractions : Addr} {gd_check_fractions : FuncData} (F : Fun K "format_fraction" "format_fraction" s_format_fraction f fd)
    (G_check_fractions : FnT P w K mg base 4 g_check_fractions gd_check_fractions ["values"] sp_check_fractions)
    (m_check_fractions : mg "check_fractions" = some (.ref g_check_fractions))
    (k_check_fractions : PySem.W.keepIn K (.ref g_check_fractions) = true)
    (b_check_fractions : Binds K gd_check_fractions ["values"] [])
    : FnT P w K mg base 5 f fd ["number"] (sp_format_fraction K) := by
  refine okT F sc_format_fraction (by intro ts S R RE h; unfold sp_format_fraction at h; split at h <;> first | rfl | exact h.elim) (fun cdv A out s H E hg hr => (bs_cons (ss_expr (et_callD G_check_fractions hg (hr.mono (by decide)) (by rfl) m_check_fractions k_check_fractions (CallD.all b_check_fractions) (passL2N (L2N.takes_of rfl rfl rfl rfl)) (at_cons (et_tup (at_cons (et_var (pv 0)) at_nil)) at_nil)))
    (bs_cons (ss_asg (et_var (pv 0)) (gt_tup (n := 2) (by rfl) (gts_cons (gt_name (pg_name (i := 1) sc_format_fraction.nd rfl (by first | exact Or.inl rfl | exact Or.inr rfl))) (gts_cons (gt_name (pg_name (i := 2) sc_format_fraction.nd rfl (by first | exact Or.inl rfl | exact Or.inr rfl))) gts_nil))))
    (bs_cons (ss_if (tt_cmp (op_eqG hr.units) cv_eq (et_var (pv 2)) et_int (nomark _)) (bs_one (ss_ret (et_joined1 (et_fmt (et_var (pv 1)))))) bs_nil)
    (bs_one (ss_ret (et_joined (EJ.cons (et_fmt (et_var (pv 1))) (EJ.cons et_str (EJ.cons (et_fmt (et_var (pv 2))) EJ.nil)))))))))) ?_
  intro ts S R RE h
  unfold sp_format_fraction at h
  split at h
  · obtain ⟨a, b, rfl, f, q⟩ := h
    refine sSeq_i fun N hN => ?_
    simp only [frT, sp_check_fractions, sSeq, sAsg, sDrop, sRet, sRetN, sIf, sNext, sPar, sPar3, sFor, sRaise, sFldT, sNo, rNo, rVar, rFrz, rC, rBin, rTest, bAnd, bOr, bNot, bIf, vAnd, vOr, vNot, rIf, rNeg, aNil, aCons, rTup, rLst, rLstC, rArgs, gNameT, gNilT, gConsT, gTupT, gSubT, iSeq, iRng1T, iRng2T, rLc, rCall, rCallN, rCallS, rFld, rCon, rMake, rMakeN, rMakeP, rMeth, rMethK, rProp, rClsFn, rOpOwn, rSl, oNone, oSome, rFmt, kFmt, rJs, rLidx, rChain, rTru, truT, rStr0, rPart, rSplit, kIntS, gStarT, kStrOwn, kAddC, rDct, kInt1, iEnumT, rMakeStar, rJoin, iZipM, rLcP, kLenOwn, kBoolOwn, rCMeth, rClsStar, rClsMake, rLz, rRevL, rRev2, rCMethK, rExcV, rMut, kAdd, kI2, kI2n, kMul, kIx, kIn, kLen, kU, kA2, kDm, kStrI, kAll, kSl, kAppend, kExtend, kTuple, kList, lenT, seqOf, bYes, startT, one, pickG, selG, insOf, putT, flatT, Bool.false_xor, Bool.true_xor, List.all_cons, List.all_nil, Bool.and_self, T.int.injEq, T.bl.injEq, T.str.injEq, T.lst.injEq, T.tup.injEq, T.cell.injEq, T.ins.injEq, Cell.lst.injEq, Cell.ins.injEq, Prod.mk.injEq, List.cons.injEq, Option.some.injEq, List.map_cons, List.map_nil, List.length_cons, List.length_nil, List.cons_append, List.nil_append, List.append_nil, List.getElem?_cons_zero, List.getElem?_cons_succ, List.set_cons_zero, List.set_cons_succ, List.replicate_succ, List.replicate_zero, exists_eq_left, exists_eq_left', exists_and_left, and_true, true_and, and_self, and_assoc, Nat.sub_self, Nat.reduceAdd, Nat.reduceSub, Nat.zero_add, put_put, put_same, reduceIte, Bool.false_eq_true, Bool.true_eq_false, Bool.not_true, Bool.not_false, at_0, at_1, at_2, at_3, at_4, at_5, at_6, at_7, ix_1_0, ix_2_0, ix_2_1, ix_3_0, ix_3_1, ix_3_2, ix_4_0, ix_4_1, ix_4_2, ix_4_3]
    refine ⟨by decide, FrL.one (f.up (by decide)), hN _ _ ?_⟩
    refine sSeq_i fun N hN => ?_
    simp only [sSeq, sAsg, sDrop, sRet, sRetN, sIf, sNext, sPar, sPar3, sFor, sRaise, sFldT, sNo, rNo, rVar, rFrz, rC, rBin, rTest, bAnd, bOr, bNot, bIf, vAnd, vOr, vNot, rIf, rNeg, aNil, aCons, rTup, rLst, rLstC, rArgs, gNameT, gNilT, gConsT, gTupT, gSubT, iSeq, iRng1T, iRng2T, rLc, rCall, rCallN, rCallS, rFld, rCon, rMake, rMakeN, rMakeP, rMeth, rMethK, rProp, rClsFn, rOpOwn, rSl, oNone, oSome, rFmt, kFmt, rJs, rLidx, rChain, rTru, truT, rStr0, rPart, rSplit, kIntS, gStarT, kStrOwn, kAddC, rDct, kInt1, iEnumT, rMakeStar, rJoin, iZipM, rLcP, kLenOwn, kBoolOwn, rCMeth, rClsStar, rClsMake, rLz, rRevL, rRev2, rCMethK, rExcV, rMut, kAdd, kI2, kI2n, kMul, kIx, kIn, kLen, kU, kA2, kDm, kStrI, kAll, kSl, kAppend, kExtend, kTuple, kList, lenT, seqOf, bYes, startT, one, pickG, selG, insOf, putT, flatT, Bool.false_xor, Bool.true_xor, List.all_cons, List.all_nil, Bool.and_self, T.int.injEq, T.bl.injEq, T.str.injEq, T.lst.injEq, T.tup.injEq, T.cell.injEq, T.ins.injEq, Cell.lst.injEq, Cell.ins.injEq, Prod.mk.injEq, List.cons.injEq, Option.some.injEq, List.map_cons, List.map_nil, List.length_cons, List.length_nil, List.cons_append, List.nil_append, List.append_nil, List.getElem?_cons_zero, List.getElem?_cons_succ, List.set_cons_zero, List.set_cons_succ, List.replicate_succ, List.replicate_zero, exists_eq_left, exists_eq_left', exists_and_left, and_true, true_and, and_self, and_assoc, Nat.sub_self, Nat.reduceAdd, Nat.reduceSub, Nat.zero_add, put_put, put_same, reduceIte, Bool.false_eq_true, Bool.true_eq_false, Bool.not_true, Bool.not_false, at_0, at_1, at_2, at_3, at_4, at_5, at_6, at_7, ix_1_0, ix_2_0, ix_2_1, ix_3_0, ix_3_1, ix_3_2, ix_4_0, ix_4_1, ix_4_2, ix_4_3]
    refine hN _ _ ?_
    refine sSeq_i fun N hN => ?_
    simp only [sSeq, sAsg, sDrop, sRet, sRetN, sIf, sNext, sPar, sPar3, sFor, sRaise, sFldT, sNo, rNo, rVar, rFrz, rC, rBin, rTest, bAnd, bOr, bNot, bIf, vAnd, vOr, vNot, rIf, rNeg, aNil, aCons, rTup, rLst, rLstC, rArgs, gNameT, gNilT, gConsT, gTupT, gSubT, iSeq, iRng1T, iRng2T, rLc, rCall, rCallN, rCallS, rFld, rCon, rMake, rMakeN, rMakeP, rMeth, rMethK, rProp, rClsFn, rOpOwn, rSl, oNone, oSome, rFmt, kFmt, rJs, rLidx, rChain, rTru, truT, rStr0, rPart, rSplit, kIntS, gStarT, kStrOwn, kAddC, rDct, kInt1, iEnumT, rMakeStar, rJoin, iZipM, rLcP, kLenOwn, kBoolOwn, rCMeth, rClsStar, rClsMake, rLz, rRevL, rRev2, rCMethK, rExcV, rMut, kAdd, kI2, kI2n, kMul, kIx, kIn, kLen, kU, kA2, kDm, kStrI, kAll, kSl, kAppend, kExtend, kTuple, kList, lenT, seqOf, bYes, startT, one, pickG, selG, insOf, putT, flatT, Bool.false_xor, Bool.true_xor, List.all_cons, List.all_nil, Bool.and_self, T.int.injEq, T.bl.injEq, T.str.injEq, T.lst.injEq, T.tup.injEq, T.cell.injEq, T.ins.injEq, Cell.lst.injEq, Cell.ins.injEq, Prod.mk.injEq, List.cons.injEq, Option.some.injEq, List.map_cons, List.map_nil, List.length_cons, List.length_nil, List.cons_append, List.nil_append, List.append_nil, List.getElem?_cons_zero, List.getElem?_cons_succ, List.set_cons_zero, List.set_cons_succ, List.replicate_succ, List.replicate_zero, exists_eq_left, exists_eq_left', exists_and_left, and_true, true_and, and_self, and_assoc, Nat.sub_self, Nat.reduceAdd, Nat.reduceSub, Nat.zero_add, put_put, put_same, reduceIte, Bool.false_eq_true, Bool.true_eq_false, Bool.not_true, Bool.not_false, at_0, at_1, at_2, at_3, at_4, at_5, at_6, at_7, ix_1_0, ix_2_0, ix_2_1, ix_3_0, ix_3_1, ix_3_2, ix_4_0, ix_4_1, ix_4_2, ix_4_3]
    have lga : a.natAbs.log2 < 1920 := PySem.Flt.log2_lt_of (by decide) (f.a.up (m := 1920) (by decide)).lt
    have lgb : b.natAbs.log2 < 1920 := PySem.Flt.log2_lt_of (by decide) (f.b.up (m := 1920) (by decide)).lt
    refine eqI0 ⟨_, rfl, ?_⟩
    by_cases hb : b = 1
    · subst hb
      rw [if_pos (by decide)]
      rw [frS_1] at q
      exact ⟨lga, q⟩
    · rw [if_neg (by rw [decide_eq_true_eq]; exact hb)]
      refine hN _ _ ?_
      obtain ⟨z1, n1, e1, a1, d1, l1, i1⟩ := pn_num f.a
      obtain ⟨z2, n2, e2, a2, d2, l2, i2⟩ := pn_num f.b
      rw [frS_n hb] at q
      have la : (Str.ofString (toString a)).length ≤ 601 := by rw [← n1] at l1; exact l1
      have lb : (Str.ofString (toString b)).length ≤ 601 := by rw [← n2] at l2; exact l2
      have ls : ("/" : Str).length = 1 := by decide
      simp only [sEmp, sSeq, sAsg, sDrop, sRet, sRetN, sIf, sNext, sPar, sPar3, sFor, sRaise, sFldT, sNo, rNo, rVar, rFrz, rC, rBin, rTest, bAnd, bOr, bNot, bIf, vAnd, vOr, vNot, rIf, rNeg, aNil, aCons, rTup, rLst, rLstC, rArgs, gNameT, gNilT, gConsT, gTupT, gSubT, iSeq, iRng1T, iRng2T, rLc, rCall, rCallN, rCallS, rFld, rCon, rMake, rMakeN, rMakeP, rMeth, rMethK, rProp, rClsFn, rOpOwn, rSl, oNone, oSome, rFmt, kFmt, rJs, rLidx, rChain, rTru, truT, rStr0, rPart, rSplit, kIntS, gStarT, kStrOwn, kAddC, rDct, kInt1, iEnumT, rMakeStar, rJoin, iZipM, rLcP, kLenOwn, kBoolOwn, rCMeth, rClsStar, rClsMake, rLz, rRevL, rRev2, rCMethK, rExcV, rMut, kAdd, kI2, kI2n, kMul, kIx, kIn, kLen, kU, kA2, kDm, kStrI, kAll, kSl, kAppend, kExtend, kTuple, kList, lenT, seqOf, bYes, startT, one, pickG, selG, insOf, putT, flatT, Bool.false_xor, Bool.true_xor, List.all_cons, List.all_nil, Bool.and_self, T.int.injEq, T.bl.injEq, T.str.injEq, T.lst.injEq, T.tup.injEq, T.cell.injEq, T.ins.injEq, Cell.lst.injEq, Cell.ins.injEq, Prod.mk.injEq, List.cons.injEq, Option.some.injEq, List.map_cons, List.map_nil, List.length_cons, List.length_nil, List.cons_append, List.nil_append, List.append_nil, List.getElem?_cons_zero, List.getElem?_cons_succ, List.set_cons_zero, List.set_cons_succ, List.replicate_succ, List.replicate_zero, exists_eq_left, exists_eq_left', exists_and_left, and_true, true_and, and_self, and_assoc, Nat.sub_self, Nat.reduceAdd, Nat.reduceSub, Nat.zero_add, put_put, put_same, reduceIte, Bool.false_eq_true, Bool.true_eq_false, Bool.not_true, Bool.not_false, at_0, at_1, at_2, at_3, at_4, at_5, at_6, at_7, ix_1_0, ix_2_0, ix_2_1, ix_3_0, ix_3_1, ix_3_2, ix_4_0, ix_4_1, ix_4_2, ix_4_3]
      refine ⟨lga, ?_, ?_, lgb, ?_, q⟩
      · rw [sizeLine_eq]; exact Nat.le_trans la (by decide)
      · rw [sizeLine_eq, sLen0, ls]; omega
      · rw [sizeLine_eq, sLen0, sLen0, ls]; omega
  · exact h.elim
theorem sc_is_numeral : FnScope ["text"] ["text"] (defScope s_is_numeral) := ⟨rfl, rfl, rfl, by decide +kernel, rfl, by decide +kernel, by decide +kernel⟩
def sp_is_numeral : SpT := fun ts S R _ => match ts with
  | [.str z] => R (.bl (Txt.isascii z && Txt.isdigit z)) S
  | _ => False
theorem ok_is_numeral {P : Program} {w : World} {K : PySem.W.Frag} {mg : Str → Option Value} {base : Heap} {f : Addr} {fd : FuncData}   (F : Fun K "is_numeral" "is_numeral" s_is_numeral f fd)
    : FnT P w K mg base 1 f fd ["text"] sp_is_numeral := by
  refine okT F sc_is_numeral (by intro ts S R RE h; unfold sp_is_numeral at h; split at h <;> first | rfl | exact h.elim) (fun cdv A out s H E hg hr => (bs_one (ss_ret (et_and (et_isascii (et_var (pv 0))) (et_one (et_isdigit (et_var (pv 0)))))))) ?_
  intro ts S R RE h
  unfold sp_is_numeral at h
  split at h
  · rename_i z
    simp only [sSeq, sAsg, sDrop, sRet, sRetN, sIf, sNext, sPar, sPar3, sFor, sRaise, sFldT, sNo, rNo, rVar, rFrz, rC, rBin, rTest, bAnd, bOr, bNot, bIf, vAnd, vOr, vNot, rIf, rNeg, aNil, aCons, rTup, rLst, rLstC, rArgs, gNameT, gNilT, gConsT, gTupT, gSubT, iSeq, iRng1T, iRng2T, rLc, rCall, rCallN, rCallS, rFld, rCon, rMake, rMakeN, rMakeP, rMeth, rMethK, rProp, rClsFn, rOpOwn, rSl, oNone, oSome, rFmt, kFmt, rJs, rLidx, rChain, rTru, truT, rStr0, rPart, rSplit, kIntS, gStarT, kStrOwn, kAddC, rDct, kInt1, iEnumT, rMakeStar, rJoin, iZipM, rLcP, kLenOwn, kBoolOwn, rCMeth, rClsStar, rClsMake, rLz, rRevL, rRev2, rCMethK, rExcV, rMut, kAdd, kI2, kI2n, kMul, kIx, kIn, kLen, kU, kA2, kDm, kStrI, kAll, kSl, kAppend, kExtend, kTuple, kList, lenT, seqOf, bYes, startT, one, pickG, selG, insOf, putT, flatT, Bool.false_xor, Bool.true_xor, List.all_cons, List.all_nil, Bool.and_self, T.int.injEq, T.bl.injEq, T.str.injEq, T.lst.injEq, T.tup.injEq, T.cell.injEq, T.ins.injEq, Cell.lst.injEq, Cell.ins.injEq, Prod.mk.injEq, List.cons.injEq, Option.some.injEq, List.map_cons, List.map_nil, List.length_cons, List.length_nil, List.cons_append, List.nil_append, List.append_nil, List.getElem?_cons_zero, List.getElem?_cons_succ, List.set_cons_zero, List.set_cons_succ, List.replicate_succ, List.replicate_zero, exists_eq_left, exists_eq_left', exists_and_left, and_true, true_and, and_self, and_assoc, Nat.sub_self, Nat.reduceAdd, Nat.reduceSub, Nat.zero_add, put_put, put_same, reduceIte, Bool.false_eq_true, Bool.true_eq_false, Bool.not_true, Bool.not_false, at_0, at_1, at_2, at_3, at_4, at_5, at_6, at_7, ix_1_0, ix_2_0, ix_2_1, ix_3_0, ix_3_1, ix_3_2, ix_4_0, ix_4_1, ix_4_2, ix_4_3]
    cases e : Txt.isascii z
    · rw [e] at h
      rw [if_neg Bool.false_ne_true]
      exact h
    · rw [e] at h
      rw [if_pos rfl]
      exact h
  · exact h.elim
theorem sc_find_fraction : FnScope ["text", "top", "slash", "bottom", "number"] ["text"] (defScope s_find_fraction) := ⟨rfl, rfl, rfl, by decide +kernel, rfl, by decide +kernel, by decide +kernel⟩
def sp_find_fraction (K : PySem.W.Frag) : SpT := fun ts S R _ => match ts with
  | [.str z] => ∃ a b, z = frS a b ∧ Fr 1900 a b ∧ R (frT a b) S
  | _ => False
theorem ok_find_fraction {P : Program} {w : World} {K : PySem.W.Frag} {mg : Str → Option Value} {base : Heap} {f : Addr} {fd : FuncData} {g_format_fraction g_is_fraction g_is_numeral : Addr} {gd_format_fraction : FuncData} {gd_is_fraction : FuncData} {gd_is_numeral : FuncData} (F : Fun K "find_fraction" "find_fraction" s_find_fraction f fd)
    (n_int : mg "int" = none)
    (n_isinstance : mg "isinstance" = none)
    (n_str : mg "str" = none)
    (G_format_fraction : FnT P w K mg base 5 g_format_fraction gd_format_fraction ["number"] (sp_format_fraction K))
    (m_format_fraction : mg "format_fraction" = some (.ref g_format_fraction))
    (k_format_fraction : PySem.W.keepIn K (.ref g_format_fraction) = true)
    (b_format_fraction : Binds K gd_format_fraction ["number"] [])
    (G_is_fraction : FnT P w K mg base 3 g_is_fraction gd_is_fraction ["value"] (sp_is_fraction K))
    (m_is_fraction : mg "is_fraction" = some (.ref g_is_fraction))
    (k_is_fraction : PySem.W.keepIn K (.ref g_is_fraction) = true)
    (b_is_fraction : Binds K gd_is_fraction ["value"] [])
    (G_is_numeral : FnT P w K mg base 1 g_is_numeral gd_is_numeral ["text"] sp_is_numeral)
    (m_is_numeral : mg "is_numeral" = some (.ref g_is_numeral))
    (k_is_numeral : PySem.W.keepIn K (.ref g_is_numeral) = true)
    (b_is_numeral : Binds K gd_is_numeral ["text"] [])
    : FnT P w K mg base 6 f fd ["text"] (sp_find_fraction K) := by
  refine okT F sc_find_fraction (by intro ts S R RE h; unfold sp_find_fraction at h; split at h <;> first | rfl | exact h.elim) (fun cdv A out s H E hg hr => (bs_cons (ss_if (tt_not (tt_val (et_blt call_isiY (cv_isi (K := K)) (by rfl) n_isinstance PyProof.Rows.boot_isinstance (at_cons (et_var (pv 0)) (at_cons (et_blty (by rfl) n_str PyProof.Rows.boot_str) at_nil))))) (bs_one (ss_ret et_non)) bs_nil)
    (bs_cons (ss_asg (et_partition (et_var (pv 0)) et_str) (gt_tup (n := 3) (by rfl) (gts_cons (gt_name (pg_name (i := 1) sc_find_fraction.nd rfl (by first | exact Or.inl rfl | exact Or.inr rfl))) (gts_cons (gt_name (pg_name (i := 2) sc_find_fraction.nd rfl (by first | exact Or.inl rfl | exact Or.inr rfl))) (gts_cons (gt_name (pg_name (i := 3) sc_find_fraction.nd rfl (by first | exact Or.inl rfl | exact Or.inr rfl))) gts_nil)))))
    (bs_cons (ss_if (tt_cmp (op_eqG hr.units) cv_eq (et_var (pv 2)) et_str (nomark _)) (bs_one (ss_set (i := 3) sc_find_fraction.nd rfl (by first | exact Or.inl rfl | exact Or.inr rfl) et_str)) bs_nil)
    (bs_cons (ss_if (tt_w (tw_or (tt_not (tt_val (et_callD G_is_numeral hg (hr.mono (by decide)) (by rfl) m_is_numeral k_is_numeral (CallD.all b_is_numeral) (passL2N (L2N.takes_of rfl rfl rfl rfl)) (at_cons (et_var (pv 1)) at_nil)))) (tw_or1 (tt_not (tt_val (et_callD G_is_numeral hg (hr.mono (by decide)) (by rfl) m_is_numeral k_is_numeral (CallD.all b_is_numeral) (passL2N (L2N.takes_of rfl rfl rfl rfl)) (at_cons (et_var (pv 3)) at_nil))))))) (bs_one (ss_ret et_non)) bs_nil)
    (bs_cons (ss_set (i := 4) sc_find_fraction.nd rfl (by first | exact Or.inl rfl | exact Or.inr rfl) (et_tup (at_cons (et_typ call_int_str cv_intS (by rfl) n_int PyProof.Rows.boot_int (at_cons (et_var (pv 1)) at_nil)) (at_cons (et_typ call_int_str cv_intS (by rfl) n_int PyProof.Rows.boot_int (at_cons (et_var (pv 3)) at_nil)) at_nil))))
    (bs_cons (ss_if (tt_w (tw_or (tt_not (tt_val (et_callD G_is_fraction hg (hr.mono (by decide)) (by rfl) m_is_fraction k_is_fraction (CallD.all b_is_fraction) (passL2N (L2N.takes_of rfl rfl rfl rfl)) (at_cons (et_var (pv 4)) at_nil)))) (tw_or1 (tt_cmp (op_neG hr.units) cv_ne (et_callD G_format_fraction hg (hr.mono (by decide)) (by rfl) m_format_fraction k_format_fraction (CallD.all b_format_fraction) (passL2N (L2N.takes_of rfl rfl rfl rfl)) (at_cons (et_var (pv 4)) at_nil)) (et_var (pv 0)) (nomark _))))) (bs_one (ss_ret et_non)) bs_nil)
    (bs_one (ss_ret (et_var (pv 4))))))))))) ?_
  intro ts S R RE h
  unfold sp_find_fraction at h
  split at h
  · obtain ⟨a, b, rfl, f, q⟩ := h
    obtain ⟨z1, n1, e1, a1, d1, l1, i1⟩ := pn_num f.a
    obtain ⟨z2, n2, e2, a2, d2, l2, i2⟩ := pn_num f.b
    refine sSeq_i fun N hN => ?_
    simp only [sSeq, sAsg, sDrop, sRet, sRetN, sIf, sNext, sPar, sPar3, sFor, sRaise, sFldT, sNo, rNo, rVar, rFrz, rC, rBin, rTest, bAnd, bOr, bNot, bIf, vAnd, vOr, vNot, rIf, rNeg, aNil, aCons, rTup, rLst, rLstC, rArgs, gNameT, gNilT, gConsT, gTupT, gSubT, iSeq, iRng1T, iRng2T, rLc, rCall, rCallN, rCallS, rFld, rCon, rMake, rMakeN, rMakeP, rMeth, rMethK, rProp, rClsFn, rOpOwn, rSl, oNone, oSome, rFmt, kFmt, rJs, rLidx, rChain, rTru, truT, rStr0, rPart, rSplit, kIntS, gStarT, kStrOwn, kAddC, rDct, kInt1, iEnumT, rMakeStar, rJoin, iZipM, rLcP, kLenOwn, kBoolOwn, rCMeth, rClsStar, rClsMake, rLz, rRevL, rRev2, rCMethK, rExcV, rMut, kAdd, kI2, kI2n, kMul, kIx, kIn, kLen, kU, kA2, kDm, kStrI, kAll, kSl, kAppend, kExtend, kTuple, kList, lenT, seqOf, bYes, startT, one, pickG, selG, insOf, putT, flatT, Bool.false_xor, Bool.true_xor, List.all_cons, List.all_nil, Bool.and_self, T.int.injEq, T.bl.injEq, T.str.injEq, T.lst.injEq, T.tup.injEq, T.cell.injEq, T.ins.injEq, Cell.lst.injEq, Cell.ins.injEq, Prod.mk.injEq, List.cons.injEq, Option.some.injEq, List.map_cons, List.map_nil, List.length_cons, List.length_nil, List.cons_append, List.nil_append, List.append_nil, List.getElem?_cons_zero, List.getElem?_cons_succ, List.set_cons_zero, List.set_cons_succ, List.replicate_succ, List.replicate_zero, exists_eq_left, exists_eq_left', exists_and_left, and_true, true_and, and_self, and_assoc, Nat.sub_self, Nat.reduceAdd, Nat.reduceSub, Nat.zero_add, put_put, put_same, reduceIte, Bool.false_eq_true, Bool.true_eq_false, Bool.not_true, Bool.not_false, at_0, at_1, at_2, at_3, at_4, at_5, at_6, at_7, ix_1_0, ix_2_0, ix_2_1, ix_3_0, ix_3_1, ix_3_2, ix_4_0, ix_4_1, ix_4_2, ix_4_3]
    refine isStr0 ⟨true, rfl, ?_⟩
    rw [if_neg (by decide)]
    refine hN _ _ ?_
    clear hN
    refine sSeq_i fun N hN => ?_
    simp only [sSeq, sAsg, sDrop, sRet, sRetN, sIf, sNext, sPar, sPar3, sFor, sRaise, sFldT, sNo, rNo, rVar, rFrz, rC, rBin, rTest, bAnd, bOr, bNot, bIf, vAnd, vOr, vNot, rIf, rNeg, aNil, aCons, rTup, rLst, rLstC, rArgs, gNameT, gNilT, gConsT, gTupT, gSubT, iSeq, iRng1T, iRng2T, rLc, rCall, rCallN, rCallS, rFld, rCon, rMake, rMakeN, rMakeP, rMeth, rMethK, rProp, rClsFn, rOpOwn, rSl, oNone, oSome, rFmt, kFmt, rJs, rLidx, rChain, rTru, truT, rStr0, rPart, rSplit, kIntS, gStarT, kStrOwn, kAddC, rDct, kInt1, iEnumT, rMakeStar, rJoin, iZipM, rLcP, kLenOwn, kBoolOwn, rCMeth, rClsStar, rClsMake, rLz, rRevL, rRev2, rCMethK, rExcV, rMut, kAdd, kI2, kI2n, kMul, kIx, kIn, kLen, kU, kA2, kDm, kStrI, kAll, kSl, kAppend, kExtend, kTuple, kList, lenT, seqOf, bYes, startT, one, pickG, selG, insOf, putT, flatT, Bool.false_xor, Bool.true_xor, List.all_cons, List.all_nil, Bool.and_self, T.int.injEq, T.bl.injEq, T.str.injEq, T.lst.injEq, T.tup.injEq, T.cell.injEq, T.ins.injEq, Cell.lst.injEq, Cell.ins.injEq, Prod.mk.injEq, List.cons.injEq, Option.some.injEq, List.map_cons, List.map_nil, List.length_cons, List.length_nil, List.cons_append, List.nil_append, List.append_nil, List.getElem?_cons_zero, List.getElem?_cons_succ, List.set_cons_zero, List.set_cons_succ, List.replicate_succ, List.replicate_zero, exists_eq_left, exists_eq_left', exists_and_left, and_true, true_and, and_self, and_assoc, Nat.sub_self, Nat.reduceAdd, Nat.reduceSub, Nat.zero_add, put_put, put_same, reduceIte, Bool.false_eq_true, Bool.true_eq_false, Bool.not_true, Bool.not_false, at_0, at_1, at_2, at_3, at_4, at_5, at_6, at_7, ix_1_0, ix_2_0, ix_2_1, ix_3_0, ix_3_1, ix_3_2, ix_4_0, ix_4_1, ix_4_2, ix_4_3]
    refine ⟨by decide, frS_len f, ?_⟩
    by_cases hb : b = 1
    · subst hb
      rw [frS_1]
      rw [fr_part1 (by have := f.a.pos; omega)]
      refine hN _ _ ?_
      clear hN
      refine sSeq_i fun N hN => ?_
      simp only [sSeq, sAsg, sDrop, sRet, sRetN, sIf, sNext, sPar, sPar3, sFor, sRaise, sFldT, sNo, rNo, rVar, rFrz, rC, rBin, rTest, bAnd, bOr, bNot, bIf, vAnd, vOr, vNot, rIf, rNeg, aNil, aCons, rTup, rLst, rLstC, rArgs, gNameT, gNilT, gConsT, gTupT, gSubT, iSeq, iRng1T, iRng2T, rLc, rCall, rCallN, rCallS, rFld, rCon, rMake, rMakeN, rMakeP, rMeth, rMethK, rProp, rClsFn, rOpOwn, rSl, oNone, oSome, rFmt, kFmt, rJs, rLidx, rChain, rTru, truT, rStr0, rPart, rSplit, kIntS, gStarT, kStrOwn, kAddC, rDct, kInt1, iEnumT, rMakeStar, rJoin, iZipM, rLcP, kLenOwn, kBoolOwn, rCMeth, rClsStar, rClsMake, rLz, rRevL, rRev2, rCMethK, rExcV, rMut, kAdd, kI2, kI2n, kMul, kIx, kIn, kLen, kU, kA2, kDm, kStrI, kAll, kSl, kAppend, kExtend, kTuple, kList, lenT, seqOf, bYes, startT, one, pickG, selG, insOf, putT, flatT, Bool.false_xor, Bool.true_xor, List.all_cons, List.all_nil, Bool.and_self, T.int.injEq, T.bl.injEq, T.str.injEq, T.lst.injEq, T.tup.injEq, T.cell.injEq, T.ins.injEq, Cell.lst.injEq, Cell.ins.injEq, Prod.mk.injEq, List.cons.injEq, Option.some.injEq, List.map_cons, List.map_nil, List.length_cons, List.length_nil, List.cons_append, List.nil_append, List.append_nil, List.getElem?_cons_zero, List.getElem?_cons_succ, List.set_cons_zero, List.set_cons_succ, List.replicate_succ, List.replicate_zero, exists_eq_left, exists_eq_left', exists_and_left, and_true, true_and, and_self, and_assoc, Nat.sub_self, Nat.reduceAdd, Nat.reduceSub, Nat.zero_add, put_put, put_same, reduceIte, Bool.false_eq_true, Bool.true_eq_false, Bool.not_true, Bool.not_false, at_0, at_1, at_2, at_3, at_4, at_5, at_6, at_7, ix_1_0, ix_2_0, ix_2_1, ix_3_0, ix_3_1, ix_3_2, ix_4_0, ix_4_1, ix_4_2, ix_4_3]
      refine eqSt0 (v := true) (by decide +kernel) ⟨_, rfl, ?_⟩
      rw [if_pos rfl]
      refine hN _ _ ?_
      have a3 : Txt.isascii "1" = true := by decide +kernel
      have d3 : Txt.isdigit "1" = true := by decide +kernel
      rw [← n1] at a1 d1 l1 i1
      refine sSeq_i fun N hN => ?_
      simp only [sp_is_numeral, a1, d1, a3, d3, sSeq, sAsg, sDrop, sRet, sRetN, sIf, sNext, sPar, sPar3, sFor, sRaise, sFldT, sNo, rNo, rVar, rFrz, rC, rBin, rTest, bAnd, bOr, bNot, bIf, vAnd, vOr, vNot, rIf, rNeg, aNil, aCons, rTup, rLst, rLstC, rArgs, gNameT, gNilT, gConsT, gTupT, gSubT, iSeq, iRng1T, iRng2T, rLc, rCall, rCallN, rCallS, rFld, rCon, rMake, rMakeN, rMakeP, rMeth, rMethK, rProp, rClsFn, rOpOwn, rSl, oNone, oSome, rFmt, kFmt, rJs, rLidx, rChain, rTru, truT, rStr0, rPart, rSplit, kIntS, gStarT, kStrOwn, kAddC, rDct, kInt1, iEnumT, rMakeStar, rJoin, iZipM, rLcP, kLenOwn, kBoolOwn, rCMeth, rClsStar, rClsMake, rLz, rRevL, rRev2, rCMethK, rExcV, rMut, kAdd, kI2, kI2n, kMul, kIx, kIn, kLen, kU, kA2, kDm, kStrI, kAll, kSl, kAppend, kExtend, kTuple, kList, lenT, seqOf, bYes, startT, one, pickG, selG, insOf, putT, flatT, Bool.false_xor, Bool.true_xor, List.all_cons, List.all_nil, Bool.and_self, T.int.injEq, T.bl.injEq, T.str.injEq, T.lst.injEq, T.tup.injEq, T.cell.injEq, T.ins.injEq, Cell.lst.injEq, Cell.ins.injEq, Prod.mk.injEq, List.cons.injEq, Option.some.injEq, List.map_cons, List.map_nil, List.length_cons, List.length_nil, List.cons_append, List.nil_append, List.append_nil, List.getElem?_cons_zero, List.getElem?_cons_succ, List.set_cons_zero, List.set_cons_succ, List.replicate_succ, List.replicate_zero, exists_eq_left, exists_eq_left', exists_and_left, and_true, true_and, and_self, and_assoc, Nat.sub_self, Nat.reduceAdd, Nat.reduceSub, Nat.zero_add, put_put, put_same, reduceIte, Bool.false_eq_true, Bool.true_eq_false, Bool.not_true, Bool.not_false, at_0, at_1, at_2, at_3, at_4, at_5, at_6, at_7, ix_1_0, ix_2_0, ix_2_1, ix_3_0, ix_3_1, ix_3_2, ix_4_0, ix_4_1, ix_4_2, ix_4_3]
      refine hN _ _ ?_
      refine sSeq_i fun N hN => ?_
      simp only [sSeq, sAsg, sDrop, sRet, sRetN, sIf, sNext, sPar, sPar3, sFor, sRaise, sFldT, sNo, rNo, rVar, rFrz, rC, rBin, rTest, bAnd, bOr, bNot, bIf, vAnd, vOr, vNot, rIf, rNeg, aNil, aCons, rTup, rLst, rLstC, rArgs, gNameT, gNilT, gConsT, gTupT, gSubT, iSeq, iRng1T, iRng2T, rLc, rCall, rCallN, rCallS, rFld, rCon, rMake, rMakeN, rMakeP, rMeth, rMethK, rProp, rClsFn, rOpOwn, rSl, oNone, oSome, rFmt, kFmt, rJs, rLidx, rChain, rTru, truT, rStr0, rPart, rSplit, kIntS, gStarT, kStrOwn, kAddC, rDct, kInt1, iEnumT, rMakeStar, rJoin, iZipM, rLcP, kLenOwn, kBoolOwn, rCMeth, rClsStar, rClsMake, rLz, rRevL, rRev2, rCMethK, rExcV, rMut, kAdd, kI2, kI2n, kMul, kIx, kIn, kLen, kU, kA2, kDm, kStrI, kAll, kSl, kAppend, kExtend, kTuple, kList, lenT, seqOf, bYes, startT, one, pickG, selG, insOf, putT, flatT, Bool.false_xor, Bool.true_xor, List.all_cons, List.all_nil, Bool.and_self, T.int.injEq, T.bl.injEq, T.str.injEq, T.lst.injEq, T.tup.injEq, T.cell.injEq, T.ins.injEq, Cell.lst.injEq, Cell.ins.injEq, Prod.mk.injEq, List.cons.injEq, Option.some.injEq, List.map_cons, List.map_nil, List.length_cons, List.length_nil, List.cons_append, List.nil_append, List.append_nil, List.getElem?_cons_zero, List.getElem?_cons_succ, List.set_cons_zero, List.set_cons_succ, List.replicate_succ, List.replicate_zero, exists_eq_left, exists_eq_left', exists_and_left, and_true, true_and, and_self, and_assoc, Nat.sub_self, Nat.reduceAdd, Nat.reduceSub, Nat.zero_add, put_put, put_same, reduceIte, Bool.false_eq_true, Bool.true_eq_false, Bool.not_true, Bool.not_false, at_0, at_1, at_2, at_3, at_4, at_5, at_6, at_7, ix_1_0, ix_2_0, ix_2_1, ix_3_0, ix_3_1, ix_3_2, ix_4_0, ix_4_1, ix_4_2, ix_4_3]
      refine ⟨_, i1, by omega, 1, by decide +kernel, by decide +kernel, by decide, hN _ _ ?_⟩
      refine sSeq_i fun N hN => ?_
      simp only [sp_is_fraction, sp_format_fraction, sSeq, sAsg, sDrop, sRet, sRetN, sIf, sNext, sPar, sPar3, sFor, sRaise, sFldT, sNo, rNo, rVar, rFrz, rC, rBin, rTest, bAnd, bOr, bNot, bIf, vAnd, vOr, vNot, rIf, rNeg, aNil, aCons, rTup, rLst, rLstC, rArgs, gNameT, gNilT, gConsT, gTupT, gSubT, iSeq, iRng1T, iRng2T, rLc, rCall, rCallN, rCallS, rFld, rCon, rMake, rMakeN, rMakeP, rMeth, rMethK, rProp, rClsFn, rOpOwn, rSl, oNone, oSome, rFmt, kFmt, rJs, rLidx, rChain, rTru, truT, rStr0, rPart, rSplit, kIntS, gStarT, kStrOwn, kAddC, rDct, kInt1, iEnumT, rMakeStar, rJoin, iZipM, rLcP, kLenOwn, kBoolOwn, rCMeth, rClsStar, rClsMake, rLz, rRevL, rRev2, rCMethK, rExcV, rMut, kAdd, kI2, kI2n, kMul, kIx, kIn, kLen, kU, kA2, kDm, kStrI, kAll, kSl, kAppend, kExtend, kTuple, kList, lenT, seqOf, bYes, startT, one, pickG, selG, insOf, putT, flatT, Bool.false_xor, Bool.true_xor, List.all_cons, List.all_nil, Bool.and_self, T.int.injEq, T.bl.injEq, T.str.injEq, T.lst.injEq, T.tup.injEq, T.cell.injEq, T.ins.injEq, Cell.lst.injEq, Cell.ins.injEq, Prod.mk.injEq, List.cons.injEq, Option.some.injEq, List.map_cons, List.map_nil, List.length_cons, List.length_nil, List.cons_append, List.nil_append, List.append_nil, List.getElem?_cons_zero, List.getElem?_cons_succ, List.set_cons_zero, List.set_cons_succ, List.replicate_succ, List.replicate_zero, exists_eq_left, exists_eq_left', exists_and_left, and_true, true_and, and_self, and_assoc, Nat.sub_self, Nat.reduceAdd, Nat.reduceSub, Nat.zero_add, put_put, put_same, reduceIte, Bool.false_eq_true, Bool.true_eq_false, Bool.not_true, Bool.not_false, at_0, at_1, at_2, at_3, at_4, at_5, at_6, at_7, ix_1_0, ix_2_0, ix_2_1, ix_3_0, ix_3_1, ix_3_2, ix_4_0, ix_4_1, ix_4_2, ix_4_3]
      refine ⟨f.up (by decide), a, 1, rfl, f, ?_⟩
      rw [frS_1]
      refine eqSt0 (v := false) (by rw [decide_eq_true rfl]; rfl) ⟨_, rfl, ?_⟩
      rw [if_neg (by decide)]
      refine hN _ _ ?_
      simp only [sSeq, sAsg, sDrop, sRet, sRetN, sIf, sNext, sPar, sPar3, sFor, sRaise, sFldT, sNo, rNo, rVar, rFrz, rC, rBin, rTest, bAnd, bOr, bNot, bIf, vAnd, vOr, vNot, rIf, rNeg, aNil, aCons, rTup, rLst, rLstC, rArgs, gNameT, gNilT, gConsT, gTupT, gSubT, iSeq, iRng1T, iRng2T, rLc, rCall, rCallN, rCallS, rFld, rCon, rMake, rMakeN, rMakeP, rMeth, rMethK, rProp, rClsFn, rOpOwn, rSl, oNone, oSome, rFmt, kFmt, rJs, rLidx, rChain, rTru, truT, rStr0, rPart, rSplit, kIntS, gStarT, kStrOwn, kAddC, rDct, kInt1, iEnumT, rMakeStar, rJoin, iZipM, rLcP, kLenOwn, kBoolOwn, rCMeth, rClsStar, rClsMake, rLz, rRevL, rRev2, rCMethK, rExcV, rMut, kAdd, kI2, kI2n, kMul, kIx, kIn, kLen, kU, kA2, kDm, kStrI, kAll, kSl, kAppend, kExtend, kTuple, kList, lenT, seqOf, bYes, startT, one, pickG, selG, insOf, putT, flatT, Bool.false_xor, Bool.true_xor, List.all_cons, List.all_nil, Bool.and_self, T.int.injEq, T.bl.injEq, T.str.injEq, T.lst.injEq, T.tup.injEq, T.cell.injEq, T.ins.injEq, Cell.lst.injEq, Cell.ins.injEq, Prod.mk.injEq, List.cons.injEq, Option.some.injEq, List.map_cons, List.map_nil, List.length_cons, List.length_nil, List.cons_append, List.nil_append, List.append_nil, List.getElem?_cons_zero, List.getElem?_cons_succ, List.set_cons_zero, List.set_cons_succ, List.replicate_succ, List.replicate_zero, exists_eq_left, exists_eq_left', exists_and_left, and_true, true_and, and_self, and_assoc, Nat.sub_self, Nat.reduceAdd, Nat.reduceSub, Nat.zero_add, put_put, put_same, reduceIte, Bool.false_eq_true, Bool.true_eq_false, Bool.not_true, Bool.not_false, at_0, at_1, at_2, at_3, at_4, at_5, at_6, at_7, ix_1_0, ix_2_0, ix_2_1, ix_3_0, ix_3_1, ix_3_2, ix_4_0, ix_4_1, ix_4_2, ix_4_3]
      exact q
    · have eb : frS a b = (nS a ++ "/") ++ nS b := frS_n hb
      rw [eb]
      rw [fr_part2 (by have := f.a.pos; omega) (by have := f.b.pos; omega)]
      refine hN _ _ ?_
      clear hN
      refine sSeq_i fun N hN => ?_
      simp only [sSeq, sAsg, sDrop, sRet, sRetN, sIf, sNext, sPar, sPar3, sFor, sRaise, sFldT, sNo, rNo, rVar, rFrz, rC, rBin, rTest, bAnd, bOr, bNot, bIf, vAnd, vOr, vNot, rIf, rNeg, aNil, aCons, rTup, rLst, rLstC, rArgs, gNameT, gNilT, gConsT, gTupT, gSubT, iSeq, iRng1T, iRng2T, rLc, rCall, rCallN, rCallS, rFld, rCon, rMake, rMakeN, rMakeP, rMeth, rMethK, rProp, rClsFn, rOpOwn, rSl, oNone, oSome, rFmt, kFmt, rJs, rLidx, rChain, rTru, truT, rStr0, rPart, rSplit, kIntS, gStarT, kStrOwn, kAddC, rDct, kInt1, iEnumT, rMakeStar, rJoin, iZipM, rLcP, kLenOwn, kBoolOwn, rCMeth, rClsStar, rClsMake, rLz, rRevL, rRev2, rCMethK, rExcV, rMut, kAdd, kI2, kI2n, kMul, kIx, kIn, kLen, kU, kA2, kDm, kStrI, kAll, kSl, kAppend, kExtend, kTuple, kList, lenT, seqOf, bYes, startT, one, pickG, selG, insOf, putT, flatT, Bool.false_xor, Bool.true_xor, List.all_cons, List.all_nil, Bool.and_self, T.int.injEq, T.bl.injEq, T.str.injEq, T.lst.injEq, T.tup.injEq, T.cell.injEq, T.ins.injEq, Cell.lst.injEq, Cell.ins.injEq, Prod.mk.injEq, List.cons.injEq, Option.some.injEq, List.map_cons, List.map_nil, List.length_cons, List.length_nil, List.cons_append, List.nil_append, List.append_nil, List.getElem?_cons_zero, List.getElem?_cons_succ, List.set_cons_zero, List.set_cons_succ, List.replicate_succ, List.replicate_zero, exists_eq_left, exists_eq_left', exists_and_left, and_true, true_and, and_self, and_assoc, Nat.sub_self, Nat.reduceAdd, Nat.reduceSub, Nat.zero_add, put_put, put_same, reduceIte, Bool.false_eq_true, Bool.true_eq_false, Bool.not_true, Bool.not_false, at_0, at_1, at_2, at_3, at_4, at_5, at_6, at_7, ix_1_0, ix_2_0, ix_2_1, ix_3_0, ix_3_1, ix_3_2, ix_4_0, ix_4_1, ix_4_2, ix_4_3]
      refine eqSt0 (v := false) (by decide +kernel) ⟨_, rfl, ?_⟩
      rw [if_neg (by decide)]
      refine hN _ _ ?_
      rw [← n1] at a1 d1 l1 i1
      rw [← n2] at a2 d2 l2 i2
      refine sSeq_i fun N hN => ?_
      simp only [sp_is_numeral, a1, d1, a2, d2, sSeq, sAsg, sDrop, sRet, sRetN, sIf, sNext, sPar, sPar3, sFor, sRaise, sFldT, sNo, rNo, rVar, rFrz, rC, rBin, rTest, bAnd, bOr, bNot, bIf, vAnd, vOr, vNot, rIf, rNeg, aNil, aCons, rTup, rLst, rLstC, rArgs, gNameT, gNilT, gConsT, gTupT, gSubT, iSeq, iRng1T, iRng2T, rLc, rCall, rCallN, rCallS, rFld, rCon, rMake, rMakeN, rMakeP, rMeth, rMethK, rProp, rClsFn, rOpOwn, rSl, oNone, oSome, rFmt, kFmt, rJs, rLidx, rChain, rTru, truT, rStr0, rPart, rSplit, kIntS, gStarT, kStrOwn, kAddC, rDct, kInt1, iEnumT, rMakeStar, rJoin, iZipM, rLcP, kLenOwn, kBoolOwn, rCMeth, rClsStar, rClsMake, rLz, rRevL, rRev2, rCMethK, rExcV, rMut, kAdd, kI2, kI2n, kMul, kIx, kIn, kLen, kU, kA2, kDm, kStrI, kAll, kSl, kAppend, kExtend, kTuple, kList, lenT, seqOf, bYes, startT, one, pickG, selG, insOf, putT, flatT, Bool.false_xor, Bool.true_xor, List.all_cons, List.all_nil, Bool.and_self, T.int.injEq, T.bl.injEq, T.str.injEq, T.lst.injEq, T.tup.injEq, T.cell.injEq, T.ins.injEq, Cell.lst.injEq, Cell.ins.injEq, Prod.mk.injEq, List.cons.injEq, Option.some.injEq, List.map_cons, List.map_nil, List.length_cons, List.length_nil, List.cons_append, List.nil_append, List.append_nil, List.getElem?_cons_zero, List.getElem?_cons_succ, List.set_cons_zero, List.set_cons_succ, List.replicate_succ, List.replicate_zero, exists_eq_left, exists_eq_left', exists_and_left, and_true, true_and, and_self, and_assoc, Nat.sub_self, Nat.reduceAdd, Nat.reduceSub, Nat.zero_add, put_put, put_same, reduceIte, Bool.false_eq_true, Bool.true_eq_false, Bool.not_true, Bool.not_false, at_0, at_1, at_2, at_3, at_4, at_5, at_6, at_7, ix_1_0, ix_2_0, ix_2_1, ix_3_0, ix_3_1, ix_3_2, ix_4_0, ix_4_1, ix_4_2, ix_4_3]
      refine hN _ _ ?_
      refine sSeq_i fun N hN => ?_
      simp only [sSeq, sAsg, sDrop, sRet, sRetN, sIf, sNext, sPar, sPar3, sFor, sRaise, sFldT, sNo, rNo, rVar, rFrz, rC, rBin, rTest, bAnd, bOr, bNot, bIf, vAnd, vOr, vNot, rIf, rNeg, aNil, aCons, rTup, rLst, rLstC, rArgs, gNameT, gNilT, gConsT, gTupT, gSubT, iSeq, iRng1T, iRng2T, rLc, rCall, rCallN, rCallS, rFld, rCon, rMake, rMakeN, rMakeP, rMeth, rMethK, rProp, rClsFn, rOpOwn, rSl, oNone, oSome, rFmt, kFmt, rJs, rLidx, rChain, rTru, truT, rStr0, rPart, rSplit, kIntS, gStarT, kStrOwn, kAddC, rDct, kInt1, iEnumT, rMakeStar, rJoin, iZipM, rLcP, kLenOwn, kBoolOwn, rCMeth, rClsStar, rClsMake, rLz, rRevL, rRev2, rCMethK, rExcV, rMut, kAdd, kI2, kI2n, kMul, kIx, kIn, kLen, kU, kA2, kDm, kStrI, kAll, kSl, kAppend, kExtend, kTuple, kList, lenT, seqOf, bYes, startT, one, pickG, selG, insOf, putT, flatT, Bool.false_xor, Bool.true_xor, List.all_cons, List.all_nil, Bool.and_self, T.int.injEq, T.bl.injEq, T.str.injEq, T.lst.injEq, T.tup.injEq, T.cell.injEq, T.ins.injEq, Cell.lst.injEq, Cell.ins.injEq, Prod.mk.injEq, List.cons.injEq, Option.some.injEq, List.map_cons, List.map_nil, List.length_cons, List.length_nil, List.cons_append, List.nil_append, List.append_nil, List.getElem?_cons_zero, List.getElem?_cons_succ, List.set_cons_zero, List.set_cons_succ, List.replicate_succ, List.replicate_zero, exists_eq_left, exists_eq_left', exists_and_left, and_true, true_and, and_self, and_assoc, Nat.sub_self, Nat.reduceAdd, Nat.reduceSub, Nat.zero_add, put_put, put_same, reduceIte, Bool.false_eq_true, Bool.true_eq_false, Bool.not_true, Bool.not_false, at_0, at_1, at_2, at_3, at_4, at_5, at_6, at_7, ix_1_0, ix_2_0, ix_2_1, ix_3_0, ix_3_1, ix_3_2, ix_4_0, ix_4_1, ix_4_2, ix_4_3]
      refine ⟨_, i1, by omega, _, i2, by omega, by decide, hN _ _ ?_⟩
      refine sSeq_i fun N hN => ?_
      simp only [sp_is_fraction, sp_format_fraction, sSeq, sAsg, sDrop, sRet, sRetN, sIf, sNext, sPar, sPar3, sFor, sRaise, sFldT, sNo, rNo, rVar, rFrz, rC, rBin, rTest, bAnd, bOr, bNot, bIf, vAnd, vOr, vNot, rIf, rNeg, aNil, aCons, rTup, rLst, rLstC, rArgs, gNameT, gNilT, gConsT, gTupT, gSubT, iSeq, iRng1T, iRng2T, rLc, rCall, rCallN, rCallS, rFld, rCon, rMake, rMakeN, rMakeP, rMeth, rMethK, rProp, rClsFn, rOpOwn, rSl, oNone, oSome, rFmt, kFmt, rJs, rLidx, rChain, rTru, truT, rStr0, rPart, rSplit, kIntS, gStarT, kStrOwn, kAddC, rDct, kInt1, iEnumT, rMakeStar, rJoin, iZipM, rLcP, kLenOwn, kBoolOwn, rCMeth, rClsStar, rClsMake, rLz, rRevL, rRev2, rCMethK, rExcV, rMut, kAdd, kI2, kI2n, kMul, kIx, kIn, kLen, kU, kA2, kDm, kStrI, kAll, kSl, kAppend, kExtend, kTuple, kList, lenT, seqOf, bYes, startT, one, pickG, selG, insOf, putT, flatT, Bool.false_xor, Bool.true_xor, List.all_cons, List.all_nil, Bool.and_self, T.int.injEq, T.bl.injEq, T.str.injEq, T.lst.injEq, T.tup.injEq, T.cell.injEq, T.ins.injEq, Cell.lst.injEq, Cell.ins.injEq, Prod.mk.injEq, List.cons.injEq, Option.some.injEq, List.map_cons, List.map_nil, List.length_cons, List.length_nil, List.cons_append, List.nil_append, List.append_nil, List.getElem?_cons_zero, List.getElem?_cons_succ, List.set_cons_zero, List.set_cons_succ, List.replicate_succ, List.replicate_zero, exists_eq_left, exists_eq_left', exists_and_left, and_true, true_and, and_self, and_assoc, Nat.sub_self, Nat.reduceAdd, Nat.reduceSub, Nat.zero_add, put_put, put_same, reduceIte, Bool.false_eq_true, Bool.true_eq_false, Bool.not_true, Bool.not_false, at_0, at_1, at_2, at_3, at_4, at_5, at_6, at_7, ix_1_0, ix_2_0, ix_2_1, ix_3_0, ix_3_1, ix_3_2, ix_4_0, ix_4_1, ix_4_2, ix_4_3]
      refine ⟨f.up (by decide), a, b, rfl, f, ?_⟩
      rw [eb]
      refine eqSt0 (v := false) (by rw [decide_eq_true rfl]; rfl) ⟨_, rfl, ?_⟩
      rw [if_neg (by decide)]
      refine hN _ _ ?_
      simp only [sSeq, sAsg, sDrop, sRet, sRetN, sIf, sNext, sPar, sPar3, sFor, sRaise, sFldT, sNo, rNo, rVar, rFrz, rC, rBin, rTest, bAnd, bOr, bNot, bIf, vAnd, vOr, vNot, rIf, rNeg, aNil, aCons, rTup, rLst, rLstC, rArgs, gNameT, gNilT, gConsT, gTupT, gSubT, iSeq, iRng1T, iRng2T, rLc, rCall, rCallN, rCallS, rFld, rCon, rMake, rMakeN, rMakeP, rMeth, rMethK, rProp, rClsFn, rOpOwn, rSl, oNone, oSome, rFmt, kFmt, rJs, rLidx, rChain, rTru, truT, rStr0, rPart, rSplit, kIntS, gStarT, kStrOwn, kAddC, rDct, kInt1, iEnumT, rMakeStar, rJoin, iZipM, rLcP, kLenOwn, kBoolOwn, rCMeth, rClsStar, rClsMake, rLz, rRevL, rRev2, rCMethK, rExcV, rMut, kAdd, kI2, kI2n, kMul, kIx, kIn, kLen, kU, kA2, kDm, kStrI, kAll, kSl, kAppend, kExtend, kTuple, kList, lenT, seqOf, bYes, startT, one, pickG, selG, insOf, putT, flatT, Bool.false_xor, Bool.true_xor, List.all_cons, List.all_nil, Bool.and_self, T.int.injEq, T.bl.injEq, T.str.injEq, T.lst.injEq, T.tup.injEq, T.cell.injEq, T.ins.injEq, Cell.lst.injEq, Cell.ins.injEq, Prod.mk.injEq, List.cons.injEq, Option.some.injEq, List.map_cons, List.map_nil, List.length_cons, List.length_nil, List.cons_append, List.nil_append, List.append_nil, List.getElem?_cons_zero, List.getElem?_cons_succ, List.set_cons_zero, List.set_cons_succ, List.replicate_succ, List.replicate_zero, exists_eq_left, exists_eq_left', exists_and_left, and_true, true_and, and_self, and_assoc, Nat.sub_self, Nat.reduceAdd, Nat.reduceSub, Nat.zero_add, put_put, put_same, reduceIte, Bool.false_eq_true, Bool.true_eq_false, Bool.not_true, Bool.not_false, at_0, at_1, at_2, at_3, at_4, at_5, at_6, at_7, ix_1_0, ix_2_0, ix_2_1, ix_3_0, ix_3_1, ix_3_2, ix_4_0, ix_4_1, ix_4_2, ix_4_3]
      exact q
  · exact h.elim
/-! the law's own numbers, within 67 bits -/
theorem fr11 {n : Nat} (h : 1 ≤ n := by decide) : Fr n 1 1 := ⟨⟨by decide, Nat.lt_of_lt_of_le (by decide : (1 : Nat) < 2 ^ 1) (Nat.pow_le_pow_right (by decide) h)⟩, ⟨by decide, Nat.lt_of_lt_of_le (by decide : (1 : Nat) < 2 ^ 1) (Nat.pow_le_pow_right (by decide) h)⟩, by decide⟩
theorem Fr.of {n : Nat} {a : Int} (h : Pn n a) (hn : 1 ≤ n := by decide) : Fr n a 1 := ⟨h, (fr11 hn).b, gcdI_one⟩
theorem Fr.inv {n : Nat} {a : Int} (h : Pn n a) (hn : 1 ≤ n := by decide) : Fr n 1 a := ⟨(fr11 hn).b, h, by rw [gcdI_comm]; exact gcdI_one⟩
theorem sc_l_less : FnScope ["_law_lead", "_law_more"] ["_law_lead", "_law_more"] (defScope s_l_less) := ⟨rfl, rfl, rfl, by decide +kernel, rfl, by decide +kernel, by decide +kernel⟩
def sp_l_less : SpT := fun ts S R _ => match ts with
  | [.tup [.int a, .int b], .tup [.int c, .int d]] => Pn 3900 a ∧ Pn 3900 b ∧ Pn 3900 c ∧ Pn 3900 d ∧ R (.bl (decide (a * d < c * b))) S
  | _ => False
theorem ok_l_less {P : Program} {w : World} {K : PySem.W.Frag} {mg : Str → Option Value} {base : Heap} {f : Addr} {fd : FuncData}   (F : Fun K "_law_less" "_law_less" s_l_less f fd)
    : FnT P w K mg base 1 f fd ["_law_lead", "_law_more"] sp_l_less := by
  refine okT F sc_l_less (by intro ts S R RE h; unfold sp_l_less at h; split at h <;> first | rfl | exact h.elim) (fun cdv A out s H E hg hr => (bs_one (ss_ret (et_cmp op_lt cv_B2n (et_op op_mulG cv_mul (et_ix ix_seq cv_ix (et_var (pv 0)) et_int (fun _ _ => rfl)) (et_ix ix_seq cv_ix (et_var (pv 1)) et_int (fun _ _ => rfl))) (et_op op_mulG cv_mul (et_ix ix_seq cv_ix (et_var (pv 1)) et_int (fun _ _ => rfl)) (et_ix ix_seq cv_ix (et_var (pv 0)) et_int (fun _ _ => rfl))) (nomark _))))) ?_
  intro ts S R RE h
  unfold sp_l_less at h
  split at h
  · rename_i a b c d
    obtain ⟨ha, hb, hc, hd, q⟩ := h
    simp only [sSeq, sAsg, sDrop, sRet, sRetN, sIf, sNext, sPar, sPar3, sFor, sRaise, sFldT, sNo, rNo, rVar, rFrz, rC, rBin, rTest, bAnd, bOr, bNot, bIf, vAnd, vOr, vNot, rIf, rNeg, aNil, aCons, rTup, rLst, rLstC, rArgs, gNameT, gNilT, gConsT, gTupT, gSubT, iSeq, iRng1T, iRng2T, rLc, rCall, rCallN, rCallS, rFld, rCon, rMake, rMakeN, rMakeP, rMeth, rMethK, rProp, rClsFn, rOpOwn, rSl, oNone, oSome, rFmt, kFmt, rJs, rLidx, rChain, rTru, truT, rStr0, rPart, rSplit, kIntS, gStarT, kStrOwn, kAddC, rDct, kInt1, iEnumT, rMakeStar, rJoin, iZipM, rLcP, kLenOwn, kBoolOwn, rCMeth, rClsStar, rClsMake, rLz, rRevL, rRev2, rCMethK, rExcV, rMut, kAdd, kI2, kI2n, kMul, kIx, kIn, kLen, kU, kA2, kDm, kStrI, kAll, kSl, kAppend, kExtend, kTuple, kList, lenT, seqOf, bYes, startT, one, pickG, selG, insOf, putT, flatT, Bool.false_xor, Bool.true_xor, List.all_cons, List.all_nil, Bool.and_self, T.int.injEq, T.bl.injEq, T.str.injEq, T.lst.injEq, T.tup.injEq, T.cell.injEq, T.ins.injEq, Cell.lst.injEq, Cell.ins.injEq, Prod.mk.injEq, List.cons.injEq, Option.some.injEq, List.map_cons, List.map_nil, List.length_cons, List.length_nil, List.cons_append, List.nil_append, List.append_nil, List.getElem?_cons_zero, List.getElem?_cons_succ, List.set_cons_zero, List.set_cons_succ, List.replicate_succ, List.replicate_zero, exists_eq_left, exists_eq_left', exists_and_left, and_true, true_and, and_self, and_assoc, Nat.sub_self, Nat.reduceAdd, Nat.reduceSub, Nat.zero_add, put_put, put_same, reduceIte, Bool.false_eq_true, Bool.true_eq_false, Bool.not_true, Bool.not_false, at_0, at_1, at_2, at_3, at_4, at_5, at_6, at_7, ix_1_0, ix_2_0, ix_2_1, ix_3_0, ix_3_1, ix_3_2, ix_4_0, ix_4_1, ix_4_2, ix_4_3]
    exact ⟨ha.mulW hd, hc.mulW hb, q⟩
  · exact h.elim
theorem sc_l_part : FnScope ["_law_pool_here", "_law_great", "_law_way", "_law_most"] ["_law_pool_here", "_law_great"] (defScope s_l_part) := ⟨rfl, rfl, rfl, by decide +kernel, rfl, by decide +kernel, by decide +kernel⟩
def sp_l_part : SpT := fun ts S R _ => match ts with
  | [.cell p, .bl g] => PoolT S p ∧ ∀ a b S', Fr 67 a b → PS S p S' → R (frT a b) S'
  | _ => False
theorem ok_l_part {P : Program} {w : World} {K : PySem.W.Frag} {mg : Str → Option Value} {base : Heap} {f : Addr} {fd : FuncData} {g_l_low g_l_draw : Addr} {gd_l_low : FuncData} {gd_l_draw : FuncData} (F : Fun K "_law_part" "_law_part" s_l_part f fd)
    (G_l_low : FnT P w K mg base 1 g_l_low gd_l_low ["_law_high_part", "_law_low_part"] sp_l_low)
    (m_l_low : mg "_law_low" = some (.ref g_l_low))
    (k_l_low : PySem.W.keepIn K (.ref g_l_low) = true)
    (b_l_low : Binds K gd_l_low ["_law_high_part", "_law_low_part"] [])
    (G_l_draw : FnT P w K mg base 1 g_l_draw gd_l_draw ["_law_pool_here", "_law_most"] sp_l_draw)
    (m_l_draw : mg "_law_draw" = some (.ref g_l_draw))
    (k_l_draw : PySem.W.keepIn K (.ref g_l_draw) = true)
    (b_l_draw : Binds K gd_l_draw ["_law_pool_here", "_law_most"] [])
    : FnT P w K mg base 2 f fd ["_law_pool_here", "_law_great"] sp_l_part := by
  refine okT F sc_l_part (by intro ts S R RE h; unfold sp_l_part at h; split at h <;> first | rfl | exact h.elim) (fun cdv A out s H E hg hr => (bs_cons (ss_set (i := 2) sc_l_part.nd rfl (by first | exact Or.inl rfl | exact Or.inr rfl) (et_callD G_l_draw hg (hr.mono (by decide)) (by rfl) m_l_draw k_l_draw (CallD.all b_l_draw) (passL2N (L2N.takes_of rfl rfl rfl rfl)) (at_cons (et_var (pv 0)) (at_cons et_int at_nil))))
    (bs_cons (ss_if (tt_cmp op_lt cv_B2n (et_var (pv 2)) et_int (nomark _)) (bs_one (ss_ret (et_tup (at_cons (et_op op_addG cv_add et_int (et_callD G_l_draw hg (hr.mono (by decide)) (by rfl) m_l_draw k_l_draw (CallD.all b_l_draw) (passL2N (L2N.takes_of rfl rfl rfl rfl)) (at_cons (et_var (pv 0)) (at_cons (et_ix ix_seq cv_ix (et_lst (at_cons et_int (at_cons et_int at_nil))) (et_var (pv 2)) (fun _ _ => rfl)) at_nil)))) (at_cons et_int at_nil))))) bs_nil)
    (bs_cons (ss_set (i := 3) sc_l_part.nd rfl (by first | exact Or.inl rfl | exact Or.inr rfl) (et_ix ix_seq cv_ix (et_lst (at_cons et_int (at_cons et_int (at_cons (et_op op_pow cv_I2 et_int et_int) (at_cons (et_if (tt_val (et_var (pv 1))) (et_op op_pow cv_I2 et_int et_int) et_int) at_nil))))) (et_op op_sub cv_I2n (et_var (pv 2)) et_int) (fun _ _ => rfl)))
    (bs_one (ss_ret (et_callD G_l_low hg (hr.mono (by decide)) (by rfl) m_l_low k_l_low (CallD.all b_l_low) (passL2N (L2N.takes_of rfl rfl rfl rfl)) (at_cons (et_op op_addG cv_add et_int (et_callD G_l_draw hg (hr.mono (by decide)) (by rfl) m_l_draw k_l_draw (CallD.all b_l_draw) (passL2N (L2N.takes_of rfl rfl rfl rfl)) (at_cons (et_var (pv 0)) (at_cons (et_var (pv 3)) at_nil)))) (at_cons (et_op op_addG cv_add et_int (et_callD G_l_draw hg (hr.mono (by decide)) (by rfl) m_l_draw k_l_draw (CallD.all b_l_draw) (passL2N (L2N.takes_of rfl rfl rfl rfl)) (at_cons (et_var (pv 0)) (at_cons (et_var (pv 3)) at_nil)))) at_nil))))))))) ?_
  intro ts S R RE h
  unfold sp_l_part at h
  split at h
  · rename_i p g
    obtain ⟨hp, q⟩ := h
    refine sSeq_i fun N hN => ?_
    simp only [sp_l_draw, sSeq, sAsg, sDrop, sRet, sRetN, sIf, sNext, sPar, sPar3, sFor, sRaise, sFldT, sNo, rNo, rVar, rFrz, rC, rBin, rTest, bAnd, bOr, bNot, bIf, vAnd, vOr, vNot, rIf, rNeg, aNil, aCons, rTup, rLst, rLstC, rArgs, gNameT, gNilT, gConsT, gTupT, gSubT, iSeq, iRng1T, iRng2T, rLc, rCall, rCallN, rCallS, rFld, rCon, rMake, rMakeN, rMakeP, rMeth, rMethK, rProp, rClsFn, rOpOwn, rSl, oNone, oSome, rFmt, kFmt, rJs, rLidx, rChain, rTru, truT, rStr0, rPart, rSplit, kIntS, gStarT, kStrOwn, kAddC, rDct, kInt1, iEnumT, rMakeStar, rJoin, iZipM, rLcP, kLenOwn, kBoolOwn, rCMeth, rClsStar, rClsMake, rLz, rRevL, rRev2, rCMethK, rExcV, rMut, kAdd, kI2, kI2n, kMul, kIx, kIn, kLen, kU, kA2, kDm, kStrI, kAll, kSl, kAppend, kExtend, kTuple, kList, lenT, seqOf, bYes, startT, one, pickG, selG, insOf, putT, flatT, Bool.false_xor, Bool.true_xor, List.all_cons, List.all_nil, Bool.and_self, T.int.injEq, T.bl.injEq, T.str.injEq, T.lst.injEq, T.tup.injEq, T.cell.injEq, T.ins.injEq, Cell.lst.injEq, Cell.ins.injEq, Prod.mk.injEq, List.cons.injEq, Option.some.injEq, List.map_cons, List.map_nil, List.length_cons, List.length_nil, List.cons_append, List.nil_append, List.append_nil, List.getElem?_cons_zero, List.getElem?_cons_succ, List.set_cons_zero, List.set_cons_succ, List.replicate_succ, List.replicate_zero, exists_eq_left, exists_eq_left', exists_and_left, and_true, true_and, and_self, and_assoc, Nat.sub_self, Nat.reduceAdd, Nat.reduceSub, Nat.zero_add, put_put, put_same, reduceIte, Bool.false_eq_true, Bool.true_eq_false, Bool.not_true, Bool.not_false, at_0, at_1, at_2, at_3, at_4, at_5, at_6, at_7, ix_1_0, ix_2_0, ix_2_1, ix_3_0, ix_3_1, ix_3_2, ix_4_0, ix_4_1, ix_4_2, ix_4_3]
    refine ⟨hp, Pn.of (by decide) (by decide), fun r S1 r0 r1 p1 => hN _ _ ?_⟩
    refine sSeq_i fun N hN => ?_
    simp only [sSeq, sAsg, sDrop, sRet, sRetN, sIf, sNext, sPar, sPar3, sFor, sRaise, sFldT, sNo, rNo, rVar, rFrz, rC, rBin, rTest, bAnd, bOr, bNot, bIf, vAnd, vOr, vNot, rIf, rNeg, aNil, aCons, rTup, rLst, rLstC, rArgs, gNameT, gNilT, gConsT, gTupT, gSubT, iSeq, iRng1T, iRng2T, rLc, rCall, rCallN, rCallS, rFld, rCon, rMake, rMakeN, rMakeP, rMeth, rMethK, rProp, rClsFn, rOpOwn, rSl, oNone, oSome, rFmt, kFmt, rJs, rLidx, rChain, rTru, truT, rStr0, rPart, rSplit, kIntS, gStarT, kStrOwn, kAddC, rDct, kInt1, iEnumT, rMakeStar, rJoin, iZipM, rLcP, kLenOwn, kBoolOwn, rCMeth, rClsStar, rClsMake, rLz, rRevL, rRev2, rCMethK, rExcV, rMut, kAdd, kI2, kI2n, kMul, kIx, kIn, kLen, kU, kA2, kDm, kStrI, kAll, kSl, kAppend, kExtend, kTuple, kList, lenT, seqOf, bYes, startT, one, pickG, selG, insOf, putT, flatT, Bool.false_xor, Bool.true_xor, List.all_cons, List.all_nil, Bool.and_self, T.int.injEq, T.bl.injEq, T.str.injEq, T.lst.injEq, T.tup.injEq, T.cell.injEq, T.ins.injEq, Cell.lst.injEq, Cell.ins.injEq, Prod.mk.injEq, List.cons.injEq, Option.some.injEq, List.map_cons, List.map_nil, List.length_cons, List.length_nil, List.cons_append, List.nil_append, List.append_nil, List.getElem?_cons_zero, List.getElem?_cons_succ, List.set_cons_zero, List.set_cons_succ, List.replicate_succ, List.replicate_zero, exists_eq_left, exists_eq_left', exists_and_left, and_true, true_and, and_self, and_assoc, Nat.sub_self, Nat.reduceAdd, Nat.reduceSub, Nat.zero_add, put_put, put_same, reduceIte, Bool.false_eq_true, Bool.true_eq_false, Bool.not_true, Bool.not_false, at_0, at_1, at_2, at_3, at_4, at_5, at_6, at_7, ix_1_0, ix_2_0, ix_2_1, ix_3_0, ix_3_1, ix_3_2, ix_4_0, ix_4_1, ix_4_2, ix_4_3]
    refine ite_d (fun c => ?_) (fun c => hN _ _ ?_)
    · have hr : r = 0 ∨ r = 1 := by omega
      have fin : ∀ m : Int, Pn 60 m → sp_l_draw [.cell p, .int m] S1 (fun x S1 => kAdd (.int 1) x S1 (fun x S1 => [x, T.int 1].length ≤ sizeLine ∧ R (.tup [x, .int 1]) S1) RE) RE := fun m hm =>
        ⟨p1.pool, hm.up (by decide), fun z S2 z0 z1 p2 => ⟨by show 2 ≤ sizeLine; decide, q (1 + z) 1 S2 (Fr.of (Pn.le (n := 67) (hm.up (by decide)) (by omega) (by omega))) (p1.trans p2)⟩⟩
      rcases hr with rfl | rfl
      · simp only [sSeq, sAsg, sDrop, sRet, sRetN, sIf, sNext, sPar, sPar3, sFor, sRaise, sFldT, sNo, rNo, rVar, rFrz, rC, rBin, rTest, bAnd, bOr, bNot, bIf, vAnd, vOr, vNot, rIf, rNeg, aNil, aCons, rTup, rLst, rLstC, rArgs, gNameT, gNilT, gConsT, gTupT, gSubT, iSeq, iRng1T, iRng2T, rLc, rCall, rCallN, rCallS, rFld, rCon, rMake, rMakeN, rMakeP, rMeth, rMethK, rProp, rClsFn, rOpOwn, rSl, oNone, oSome, rFmt, kFmt, rJs, rLidx, rChain, rTru, truT, rStr0, rPart, rSplit, kIntS, gStarT, kStrOwn, kAddC, rDct, kInt1, iEnumT, rMakeStar, rJoin, iZipM, rLcP, kLenOwn, kBoolOwn, rCMeth, rClsStar, rClsMake, rLz, rRevL, rRev2, rCMethK, rExcV, rMut, kAdd, kI2, kI2n, kMul, kIx, kIn, kLen, kU, kA2, kDm, kStrI, kAll, kSl, kAppend, kExtend, kTuple, kList, lenT, seqOf, bYes, startT, one, pickG, selG, insOf, putT, flatT, Bool.false_xor, Bool.true_xor, List.all_cons, List.all_nil, Bool.and_self, T.int.injEq, T.bl.injEq, T.str.injEq, T.lst.injEq, T.tup.injEq, T.cell.injEq, T.ins.injEq, Cell.lst.injEq, Cell.ins.injEq, Prod.mk.injEq, List.cons.injEq, Option.some.injEq, List.map_cons, List.map_nil, List.length_cons, List.length_nil, List.cons_append, List.nil_append, List.append_nil, List.getElem?_cons_zero, List.getElem?_cons_succ, List.set_cons_zero, List.set_cons_succ, List.replicate_succ, List.replicate_zero, exists_eq_left, exists_eq_left', exists_and_left, and_true, true_and, and_self, and_assoc, Nat.sub_self, Nat.reduceAdd, Nat.reduceSub, Nat.zero_add, put_put, put_same, reduceIte, Bool.false_eq_true, Bool.true_eq_false, Bool.not_true, Bool.not_false, at_0, at_1, at_2, at_3, at_4, at_5, at_6, at_7, ix_1_0, ix_2_0, ix_2_1, ix_3_0, ix_3_1, ix_3_2, ix_4_0, ix_4_1, ix_4_2, ix_4_3]
        exact ⟨by decide, fin 12 (Pn.of (by decide) (by decide))⟩
      · simp only [sSeq, sAsg, sDrop, sRet, sRetN, sIf, sNext, sPar, sPar3, sFor, sRaise, sFldT, sNo, rNo, rVar, rFrz, rC, rBin, rTest, bAnd, bOr, bNot, bIf, vAnd, vOr, vNot, rIf, rNeg, aNil, aCons, rTup, rLst, rLstC, rArgs, gNameT, gNilT, gConsT, gTupT, gSubT, iSeq, iRng1T, iRng2T, rLc, rCall, rCallN, rCallS, rFld, rCon, rMake, rMakeN, rMakeP, rMeth, rMethK, rProp, rClsFn, rOpOwn, rSl, oNone, oSome, rFmt, kFmt, rJs, rLidx, rChain, rTru, truT, rStr0, rPart, rSplit, kIntS, gStarT, kStrOwn, kAddC, rDct, kInt1, iEnumT, rMakeStar, rJoin, iZipM, rLcP, kLenOwn, kBoolOwn, rCMeth, rClsStar, rClsMake, rLz, rRevL, rRev2, rCMethK, rExcV, rMut, kAdd, kI2, kI2n, kMul, kIx, kIn, kLen, kU, kA2, kDm, kStrI, kAll, kSl, kAppend, kExtend, kTuple, kList, lenT, seqOf, bYes, startT, one, pickG, selG, insOf, putT, flatT, Bool.false_xor, Bool.true_xor, List.all_cons, List.all_nil, Bool.and_self, T.int.injEq, T.bl.injEq, T.str.injEq, T.lst.injEq, T.tup.injEq, T.cell.injEq, T.ins.injEq, Cell.lst.injEq, Cell.ins.injEq, Prod.mk.injEq, List.cons.injEq, Option.some.injEq, List.map_cons, List.map_nil, List.length_cons, List.length_nil, List.cons_append, List.nil_append, List.append_nil, List.getElem?_cons_zero, List.getElem?_cons_succ, List.set_cons_zero, List.set_cons_succ, List.replicate_succ, List.replicate_zero, exists_eq_left, exists_eq_left', exists_and_left, and_true, true_and, and_self, and_assoc, Nat.sub_self, Nat.reduceAdd, Nat.reduceSub, Nat.zero_add, put_put, put_same, reduceIte, Bool.false_eq_true, Bool.true_eq_false, Bool.not_true, Bool.not_false, at_0, at_1, at_2, at_3, at_4, at_5, at_6, at_7, ix_1_0, ix_2_0, ix_2_1, ix_3_0, ix_3_1, ix_3_2, ix_4_0, ix_4_1, ix_4_2, ix_4_3]
        exact ⟨by decide, fin 2000 (Pn.of (by decide) (by decide))⟩
    · have hr : r = 2 ∨ r = 3 ∨ r = 4 ∨ r = 5 := by omega
      have go : ∀ v : Option T, ∀ m : Int, Pn 67 m → sRet (rCall sp_l_low [] (aCons (rBin kAdd (rC (T.int 1)) (rCall sp_l_draw [] (aCons (rVar 0) (aCons (rVar 3) aNil)))) (aCons (rBin kAdd (rC (T.int 1)) (rCall sp_l_draw [] (aCons (rVar 0) (aCons (rVar 3) aNil)))) aNil)))
          { nx := fun _ S' => R .non S', rt := R, ex := RE } [some (.cell p), some (.bl g), some (.int r), some (.int m)] S1 := by
        intro v m hm
        simp only [sp_l_draw, sp_l_low, sSeq, sAsg, sDrop, sRet, sRetN, sIf, sNext, sPar, sPar3, sFor, sRaise, sFldT, sNo, rNo, rVar, rFrz, rC, rBin, rTest, bAnd, bOr, bNot, bIf, vAnd, vOr, vNot, rIf, rNeg, aNil, aCons, rTup, rLst, rLstC, rArgs, gNameT, gNilT, gConsT, gTupT, gSubT, iSeq, iRng1T, iRng2T, rLc, rCall, rCallN, rCallS, rFld, rCon, rMake, rMakeN, rMakeP, rMeth, rMethK, rProp, rClsFn, rOpOwn, rSl, oNone, oSome, rFmt, kFmt, rJs, rLidx, rChain, rTru, truT, rStr0, rPart, rSplit, kIntS, gStarT, kStrOwn, kAddC, rDct, kInt1, iEnumT, rMakeStar, rJoin, iZipM, rLcP, kLenOwn, kBoolOwn, rCMeth, rClsStar, rClsMake, rLz, rRevL, rRev2, rCMethK, rExcV, rMut, kAdd, kI2, kI2n, kMul, kIx, kIn, kLen, kU, kA2, kDm, kStrI, kAll, kSl, kAppend, kExtend, kTuple, kList, lenT, seqOf, bYes, startT, one, pickG, selG, insOf, putT, flatT, Bool.false_xor, Bool.true_xor, List.all_cons, List.all_nil, Bool.and_self, T.int.injEq, T.bl.injEq, T.str.injEq, T.lst.injEq, T.tup.injEq, T.cell.injEq, T.ins.injEq, Cell.lst.injEq, Cell.ins.injEq, Prod.mk.injEq, List.cons.injEq, Option.some.injEq, List.map_cons, List.map_nil, List.length_cons, List.length_nil, List.cons_append, List.nil_append, List.append_nil, List.getElem?_cons_zero, List.getElem?_cons_succ, List.set_cons_zero, List.set_cons_succ, List.replicate_succ, List.replicate_zero, exists_eq_left, exists_eq_left', exists_and_left, and_true, true_and, and_self, and_assoc, Nat.sub_self, Nat.reduceAdd, Nat.reduceSub, Nat.zero_add, put_put, put_same, reduceIte, Bool.false_eq_true, Bool.true_eq_false, Bool.not_true, Bool.not_false, at_0, at_1, at_2, at_3, at_4, at_5, at_6, at_7, ix_1_0, ix_2_0, ix_2_1, ix_3_0, ix_3_1, ix_3_2, ix_4_0, ix_4_1, ix_4_2, ix_4_3]
        refine ⟨p1.pool, hm.up (by decide), fun z S2 z0 z1 p2 => ⟨p2.pool, hm.up (by decide), fun y S3 y0 y1 p3 => ?_⟩⟩
        have pz : Pn 67 (1 + z) := Pn.le (hm.up (by decide)) (by omega) (by omega)
        have py : Pn 67 (1 + y) := Pn.le (hm.up (by decide)) (by omega) (by omega)
        exact ⟨pz.up (by decide), py.pos, q _ _ _ (Fr.low pz py) ((p1.trans p2).trans p3)⟩
      have p20 : Pn 67 (10 ^ 20) := Pn.of (by decide) (by decide)
      have p6 : Pn 67 (10 ^ 6) := Pn.of (by decide) (by decide)
      refine sSeq_i fun N hN => ?_
      simp only [sSeq, sAsg, sDrop, sRet, sRetN, sIf, sNext, sPar, sPar3, sFor, sRaise, sFldT, sNo, rNo, rVar, rFrz, rC, rBin, rTest, bAnd, bOr, bNot, bIf, vAnd, vOr, vNot, rIf, rNeg, aNil, aCons, rTup, rLst, rLstC, rArgs, gNameT, gNilT, gConsT, gTupT, gSubT, iSeq, iRng1T, iRng2T, rLc, rCall, rCallN, rCallS, rFld, rCon, rMake, rMakeN, rMakeP, rMeth, rMethK, rProp, rClsFn, rOpOwn, rSl, oNone, oSome, rFmt, kFmt, rJs, rLidx, rChain, rTru, truT, rStr0, rPart, rSplit, kIntS, gStarT, kStrOwn, kAddC, rDct, kInt1, iEnumT, rMakeStar, rJoin, iZipM, rLcP, kLenOwn, kBoolOwn, rCMeth, rClsStar, rClsMake, rLz, rRevL, rRev2, rCMethK, rExcV, rMut, kAdd, kI2, kI2n, kMul, kIx, kIn, kLen, kU, kA2, kDm, kStrI, kAll, kSl, kAppend, kExtend, kTuple, kList, lenT, seqOf, bYes, startT, one, pickG, selG, insOf, putT, flatT, Bool.false_xor, Bool.true_xor, List.all_cons, List.all_nil, Bool.and_self, T.int.injEq, T.bl.injEq, T.str.injEq, T.lst.injEq, T.tup.injEq, T.cell.injEq, T.ins.injEq, Cell.lst.injEq, Cell.ins.injEq, Prod.mk.injEq, List.cons.injEq, Option.some.injEq, List.map_cons, List.map_nil, List.length_cons, List.length_nil, List.cons_append, List.nil_append, List.append_nil, List.getElem?_cons_zero, List.getElem?_cons_succ, List.set_cons_zero, List.set_cons_succ, List.replicate_succ, List.replicate_zero, exists_eq_left, exists_eq_left', exists_and_left, and_true, true_and, and_self, and_assoc, Nat.sub_self, Nat.reduceAdd, Nat.reduceSub, Nat.zero_add, put_put, put_same, reduceIte, Bool.false_eq_true, Bool.true_eq_false, Bool.not_true, Bool.not_false, at_0, at_1, at_2, at_3, at_4, at_5, at_6, at_7, ix_1_0, ix_2_0, ix_2_1, ix_3_0, ix_3_1, ix_3_2, ix_4_0, ix_4_1, ix_4_2, ix_4_3]
      refine ⟨⟨by decide, by decide, by decide⟩, ?_⟩
      cases g with
      | true =>
        simp only [sSeq, sAsg, sDrop, sRet, sRetN, sIf, sNext, sPar, sPar3, sFor, sRaise, sFldT, sNo, rNo, rVar, rFrz, rC, rBin, rTest, bAnd, bOr, bNot, bIf, vAnd, vOr, vNot, rIf, rNeg, aNil, aCons, rTup, rLst, rLstC, rArgs, gNameT, gNilT, gConsT, gTupT, gSubT, iSeq, iRng1T, iRng2T, rLc, rCall, rCallN, rCallS, rFld, rCon, rMake, rMakeN, rMakeP, rMeth, rMethK, rProp, rClsFn, rOpOwn, rSl, oNone, oSome, rFmt, kFmt, rJs, rLidx, rChain, rTru, truT, rStr0, rPart, rSplit, kIntS, gStarT, kStrOwn, kAddC, rDct, kInt1, iEnumT, rMakeStar, rJoin, iZipM, rLcP, kLenOwn, kBoolOwn, rCMeth, rClsStar, rClsMake, rLz, rRevL, rRev2, rCMethK, rExcV, rMut, kAdd, kI2, kI2n, kMul, kIx, kIn, kLen, kU, kA2, kDm, kStrI, kAll, kSl, kAppend, kExtend, kTuple, kList, lenT, seqOf, bYes, startT, one, pickG, selG, insOf, putT, flatT, Bool.false_xor, Bool.true_xor, List.all_cons, List.all_nil, Bool.and_self, T.int.injEq, T.bl.injEq, T.str.injEq, T.lst.injEq, T.tup.injEq, T.cell.injEq, T.ins.injEq, Cell.lst.injEq, Cell.ins.injEq, Prod.mk.injEq, List.cons.injEq, Option.some.injEq, List.map_cons, List.map_nil, List.length_cons, List.length_nil, List.cons_append, List.nil_append, List.append_nil, List.getElem?_cons_zero, List.getElem?_cons_succ, List.set_cons_zero, List.set_cons_succ, List.replicate_succ, List.replicate_zero, exists_eq_left, exists_eq_left', exists_and_left, and_true, true_and, and_self, and_assoc, Nat.sub_self, Nat.reduceAdd, Nat.reduceSub, Nat.zero_add, put_put, put_same, reduceIte, Bool.false_eq_true, Bool.true_eq_false, Bool.not_true, Bool.not_false, at_0, at_1, at_2, at_3, at_4, at_5, at_6, at_7, ix_1_0, ix_2_0, ix_2_1, ix_3_0, ix_3_1, ix_3_2, ix_4_0, ix_4_1, ix_4_2, ix_4_3]
        refine ⟨⟨by decide, by decide, by decide⟩, by decide, ?_⟩
        rcases hr with rfl | rfl | rfl | rfl
        · simp only [Int.reduceSub, sSeq, sAsg, sDrop, sRet, sRetN, sIf, sNext, sPar, sPar3, sFor, sRaise, sFldT, sNo, rNo, rVar, rFrz, rC, rBin, rTest, bAnd, bOr, bNot, bIf, vAnd, vOr, vNot, rIf, rNeg, aNil, aCons, rTup, rLst, rLstC, rArgs, gNameT, gNilT, gConsT, gTupT, gSubT, iSeq, iRng1T, iRng2T, rLc, rCall, rCallN, rCallS, rFld, rCon, rMake, rMakeN, rMakeP, rMeth, rMethK, rProp, rClsFn, rOpOwn, rSl, oNone, oSome, rFmt, kFmt, rJs, rLidx, rChain, rTru, truT, rStr0, rPart, rSplit, kIntS, gStarT, kStrOwn, kAddC, rDct, kInt1, iEnumT, rMakeStar, rJoin, iZipM, rLcP, kLenOwn, kBoolOwn, rCMeth, rClsStar, rClsMake, rLz, rRevL, rRev2, rCMethK, rExcV, rMut, kAdd, kI2, kI2n, kMul, kIx, kIn, kLen, kU, kA2, kDm, kStrI, kAll, kSl, kAppend, kExtend, kTuple, kList, lenT, seqOf, bYes, startT, one, pickG, selG, insOf, putT, flatT, Bool.false_xor, Bool.true_xor, List.all_cons, List.all_nil, Bool.and_self, T.int.injEq, T.bl.injEq, T.str.injEq, T.lst.injEq, T.tup.injEq, T.cell.injEq, T.ins.injEq, Cell.lst.injEq, Cell.ins.injEq, Prod.mk.injEq, List.cons.injEq, Option.some.injEq, List.map_cons, List.map_nil, List.length_cons, List.length_nil, List.cons_append, List.nil_append, List.append_nil, List.getElem?_cons_zero, List.getElem?_cons_succ, List.set_cons_zero, List.set_cons_succ, List.replicate_succ, List.replicate_zero, exists_eq_left, exists_eq_left', exists_and_left, and_true, true_and, and_self, and_assoc, Nat.sub_self, Nat.reduceAdd, Nat.reduceSub, Nat.zero_add, put_put, put_same, reduceIte, Bool.false_eq_true, Bool.true_eq_false, Bool.not_true, Bool.not_false, at_0, at_1, at_2, at_3, at_4, at_5, at_6, at_7, ix_1_0, ix_2_0, ix_2_1, ix_3_0, ix_3_1, ix_3_2, ix_4_0, ix_4_1, ix_4_2, ix_4_3]
          exact hN _ _ (go none 12 (Pn.of (by decide) (by decide)))
        · simp only [Int.reduceSub, sSeq, sAsg, sDrop, sRet, sRetN, sIf, sNext, sPar, sPar3, sFor, sRaise, sFldT, sNo, rNo, rVar, rFrz, rC, rBin, rTest, bAnd, bOr, bNot, bIf, vAnd, vOr, vNot, rIf, rNeg, aNil, aCons, rTup, rLst, rLstC, rArgs, gNameT, gNilT, gConsT, gTupT, gSubT, iSeq, iRng1T, iRng2T, rLc, rCall, rCallN, rCallS, rFld, rCon, rMake, rMakeN, rMakeP, rMeth, rMethK, rProp, rClsFn, rOpOwn, rSl, oNone, oSome, rFmt, kFmt, rJs, rLidx, rChain, rTru, truT, rStr0, rPart, rSplit, kIntS, gStarT, kStrOwn, kAddC, rDct, kInt1, iEnumT, rMakeStar, rJoin, iZipM, rLcP, kLenOwn, kBoolOwn, rCMeth, rClsStar, rClsMake, rLz, rRevL, rRev2, rCMethK, rExcV, rMut, kAdd, kI2, kI2n, kMul, kIx, kIn, kLen, kU, kA2, kDm, kStrI, kAll, kSl, kAppend, kExtend, kTuple, kList, lenT, seqOf, bYes, startT, one, pickG, selG, insOf, putT, flatT, Bool.false_xor, Bool.true_xor, List.all_cons, List.all_nil, Bool.and_self, T.int.injEq, T.bl.injEq, T.str.injEq, T.lst.injEq, T.tup.injEq, T.cell.injEq, T.ins.injEq, Cell.lst.injEq, Cell.ins.injEq, Prod.mk.injEq, List.cons.injEq, Option.some.injEq, List.map_cons, List.map_nil, List.length_cons, List.length_nil, List.cons_append, List.nil_append, List.append_nil, List.getElem?_cons_zero, List.getElem?_cons_succ, List.set_cons_zero, List.set_cons_succ, List.replicate_succ, List.replicate_zero, exists_eq_left, exists_eq_left', exists_and_left, and_true, true_and, and_self, and_assoc, Nat.sub_self, Nat.reduceAdd, Nat.reduceSub, Nat.zero_add, put_put, put_same, reduceIte, Bool.false_eq_true, Bool.true_eq_false, Bool.not_true, Bool.not_false, at_0, at_1, at_2, at_3, at_4, at_5, at_6, at_7, ix_1_0, ix_2_0, ix_2_1, ix_3_0, ix_3_1, ix_3_2, ix_4_0, ix_4_1, ix_4_2, ix_4_3]
          exact hN _ _ (go none 60 (Pn.of (by decide) (by decide)))
        · simp only [Int.reduceSub, sSeq, sAsg, sDrop, sRet, sRetN, sIf, sNext, sPar, sPar3, sFor, sRaise, sFldT, sNo, rNo, rVar, rFrz, rC, rBin, rTest, bAnd, bOr, bNot, bIf, vAnd, vOr, vNot, rIf, rNeg, aNil, aCons, rTup, rLst, rLstC, rArgs, gNameT, gNilT, gConsT, gTupT, gSubT, iSeq, iRng1T, iRng2T, rLc, rCall, rCallN, rCallS, rFld, rCon, rMake, rMakeN, rMakeP, rMeth, rMethK, rProp, rClsFn, rOpOwn, rSl, oNone, oSome, rFmt, kFmt, rJs, rLidx, rChain, rTru, truT, rStr0, rPart, rSplit, kIntS, gStarT, kStrOwn, kAddC, rDct, kInt1, iEnumT, rMakeStar, rJoin, iZipM, rLcP, kLenOwn, kBoolOwn, rCMeth, rClsStar, rClsMake, rLz, rRevL, rRev2, rCMethK, rExcV, rMut, kAdd, kI2, kI2n, kMul, kIx, kIn, kLen, kU, kA2, kDm, kStrI, kAll, kSl, kAppend, kExtend, kTuple, kList, lenT, seqOf, bYes, startT, one, pickG, selG, insOf, putT, flatT, Bool.false_xor, Bool.true_xor, List.all_cons, List.all_nil, Bool.and_self, T.int.injEq, T.bl.injEq, T.str.injEq, T.lst.injEq, T.tup.injEq, T.cell.injEq, T.ins.injEq, Cell.lst.injEq, Cell.ins.injEq, Prod.mk.injEq, List.cons.injEq, Option.some.injEq, List.map_cons, List.map_nil, List.length_cons, List.length_nil, List.cons_append, List.nil_append, List.append_nil, List.getElem?_cons_zero, List.getElem?_cons_succ, List.set_cons_zero, List.set_cons_succ, List.replicate_succ, List.replicate_zero, exists_eq_left, exists_eq_left', exists_and_left, and_true, true_and, and_self, and_assoc, Nat.sub_self, Nat.reduceAdd, Nat.reduceSub, Nat.zero_add, put_put, put_same, reduceIte, Bool.false_eq_true, Bool.true_eq_false, Bool.not_true, Bool.not_false, at_0, at_1, at_2, at_3, at_4, at_5, at_6, at_7, ix_1_0, ix_2_0, ix_2_1, ix_3_0, ix_3_1, ix_3_2, ix_4_0, ix_4_1, ix_4_2, ix_4_3]
          exact hN _ _ (go none _ p6)
        · simp only [Int.reduceSub, sSeq, sAsg, sDrop, sRet, sRetN, sIf, sNext, sPar, sPar3, sFor, sRaise, sFldT, sNo, rNo, rVar, rFrz, rC, rBin, rTest, bAnd, bOr, bNot, bIf, vAnd, vOr, vNot, rIf, rNeg, aNil, aCons, rTup, rLst, rLstC, rArgs, gNameT, gNilT, gConsT, gTupT, gSubT, iSeq, iRng1T, iRng2T, rLc, rCall, rCallN, rCallS, rFld, rCon, rMake, rMakeN, rMakeP, rMeth, rMethK, rProp, rClsFn, rOpOwn, rSl, oNone, oSome, rFmt, kFmt, rJs, rLidx, rChain, rTru, truT, rStr0, rPart, rSplit, kIntS, gStarT, kStrOwn, kAddC, rDct, kInt1, iEnumT, rMakeStar, rJoin, iZipM, rLcP, kLenOwn, kBoolOwn, rCMeth, rClsStar, rClsMake, rLz, rRevL, rRev2, rCMethK, rExcV, rMut, kAdd, kI2, kI2n, kMul, kIx, kIn, kLen, kU, kA2, kDm, kStrI, kAll, kSl, kAppend, kExtend, kTuple, kList, lenT, seqOf, bYes, startT, one, pickG, selG, insOf, putT, flatT, Bool.false_xor, Bool.true_xor, List.all_cons, List.all_nil, Bool.and_self, T.int.injEq, T.bl.injEq, T.str.injEq, T.lst.injEq, T.tup.injEq, T.cell.injEq, T.ins.injEq, Cell.lst.injEq, Cell.ins.injEq, Prod.mk.injEq, List.cons.injEq, Option.some.injEq, List.map_cons, List.map_nil, List.length_cons, List.length_nil, List.cons_append, List.nil_append, List.append_nil, List.getElem?_cons_zero, List.getElem?_cons_succ, List.set_cons_zero, List.set_cons_succ, List.replicate_succ, List.replicate_zero, exists_eq_left, exists_eq_left', exists_and_left, and_true, true_and, and_self, and_assoc, Nat.sub_self, Nat.reduceAdd, Nat.reduceSub, Nat.zero_add, put_put, put_same, reduceIte, Bool.false_eq_true, Bool.true_eq_false, Bool.not_true, Bool.not_false, at_0, at_1, at_2, at_3, at_4, at_5, at_6, at_7, ix_1_0, ix_2_0, ix_2_1, ix_3_0, ix_3_1, ix_3_2, ix_4_0, ix_4_1, ix_4_2, ix_4_3]
          exact hN _ _ (go none _ p20)
      | false =>
        simp only [sSeq, sAsg, sDrop, sRet, sRetN, sIf, sNext, sPar, sPar3, sFor, sRaise, sFldT, sNo, rNo, rVar, rFrz, rC, rBin, rTest, bAnd, bOr, bNot, bIf, vAnd, vOr, vNot, rIf, rNeg, aNil, aCons, rTup, rLst, rLstC, rArgs, gNameT, gNilT, gConsT, gTupT, gSubT, iSeq, iRng1T, iRng2T, rLc, rCall, rCallN, rCallS, rFld, rCon, rMake, rMakeN, rMakeP, rMeth, rMethK, rProp, rClsFn, rOpOwn, rSl, oNone, oSome, rFmt, kFmt, rJs, rLidx, rChain, rTru, truT, rStr0, rPart, rSplit, kIntS, gStarT, kStrOwn, kAddC, rDct, kInt1, iEnumT, rMakeStar, rJoin, iZipM, rLcP, kLenOwn, kBoolOwn, rCMeth, rClsStar, rClsMake, rLz, rRevL, rRev2, rCMethK, rExcV, rMut, kAdd, kI2, kI2n, kMul, kIx, kIn, kLen, kU, kA2, kDm, kStrI, kAll, kSl, kAppend, kExtend, kTuple, kList, lenT, seqOf, bYes, startT, one, pickG, selG, insOf, putT, flatT, Bool.false_xor, Bool.true_xor, List.all_cons, List.all_nil, Bool.and_self, T.int.injEq, T.bl.injEq, T.str.injEq, T.lst.injEq, T.tup.injEq, T.cell.injEq, T.ins.injEq, Cell.lst.injEq, Cell.ins.injEq, Prod.mk.injEq, List.cons.injEq, Option.some.injEq, List.map_cons, List.map_nil, List.length_cons, List.length_nil, List.cons_append, List.nil_append, List.append_nil, List.getElem?_cons_zero, List.getElem?_cons_succ, List.set_cons_zero, List.set_cons_succ, List.replicate_succ, List.replicate_zero, exists_eq_left, exists_eq_left', exists_and_left, and_true, true_and, and_self, and_assoc, Nat.sub_self, Nat.reduceAdd, Nat.reduceSub, Nat.zero_add, put_put, put_same, reduceIte, Bool.false_eq_true, Bool.true_eq_false, Bool.not_true, Bool.not_false, at_0, at_1, at_2, at_3, at_4, at_5, at_6, at_7, ix_1_0, ix_2_0, ix_2_1, ix_3_0, ix_3_1, ix_3_2, ix_4_0, ix_4_1, ix_4_2, ix_4_3]
        refine ⟨by decide, ?_⟩
        rcases hr with rfl | rfl | rfl | rfl
        · simp only [Int.reduceSub, sSeq, sAsg, sDrop, sRet, sRetN, sIf, sNext, sPar, sPar3, sFor, sRaise, sFldT, sNo, rNo, rVar, rFrz, rC, rBin, rTest, bAnd, bOr, bNot, bIf, vAnd, vOr, vNot, rIf, rNeg, aNil, aCons, rTup, rLst, rLstC, rArgs, gNameT, gNilT, gConsT, gTupT, gSubT, iSeq, iRng1T, iRng2T, rLc, rCall, rCallN, rCallS, rFld, rCon, rMake, rMakeN, rMakeP, rMeth, rMethK, rProp, rClsFn, rOpOwn, rSl, oNone, oSome, rFmt, kFmt, rJs, rLidx, rChain, rTru, truT, rStr0, rPart, rSplit, kIntS, gStarT, kStrOwn, kAddC, rDct, kInt1, iEnumT, rMakeStar, rJoin, iZipM, rLcP, kLenOwn, kBoolOwn, rCMeth, rClsStar, rClsMake, rLz, rRevL, rRev2, rCMethK, rExcV, rMut, kAdd, kI2, kI2n, kMul, kIx, kIn, kLen, kU, kA2, kDm, kStrI, kAll, kSl, kAppend, kExtend, kTuple, kList, lenT, seqOf, bYes, startT, one, pickG, selG, insOf, putT, flatT, Bool.false_xor, Bool.true_xor, List.all_cons, List.all_nil, Bool.and_self, T.int.injEq, T.bl.injEq, T.str.injEq, T.lst.injEq, T.tup.injEq, T.cell.injEq, T.ins.injEq, Cell.lst.injEq, Cell.ins.injEq, Prod.mk.injEq, List.cons.injEq, Option.some.injEq, List.map_cons, List.map_nil, List.length_cons, List.length_nil, List.cons_append, List.nil_append, List.append_nil, List.getElem?_cons_zero, List.getElem?_cons_succ, List.set_cons_zero, List.set_cons_succ, List.replicate_succ, List.replicate_zero, exists_eq_left, exists_eq_left', exists_and_left, and_true, true_and, and_self, and_assoc, Nat.sub_self, Nat.reduceAdd, Nat.reduceSub, Nat.zero_add, put_put, put_same, reduceIte, Bool.false_eq_true, Bool.true_eq_false, Bool.not_true, Bool.not_false, at_0, at_1, at_2, at_3, at_4, at_5, at_6, at_7, ix_1_0, ix_2_0, ix_2_1, ix_3_0, ix_3_1, ix_3_2, ix_4_0, ix_4_1, ix_4_2, ix_4_3]
          exact hN _ _ (go none 12 (Pn.of (by decide) (by decide)))
        · simp only [Int.reduceSub, sSeq, sAsg, sDrop, sRet, sRetN, sIf, sNext, sPar, sPar3, sFor, sRaise, sFldT, sNo, rNo, rVar, rFrz, rC, rBin, rTest, bAnd, bOr, bNot, bIf, vAnd, vOr, vNot, rIf, rNeg, aNil, aCons, rTup, rLst, rLstC, rArgs, gNameT, gNilT, gConsT, gTupT, gSubT, iSeq, iRng1T, iRng2T, rLc, rCall, rCallN, rCallS, rFld, rCon, rMake, rMakeN, rMakeP, rMeth, rMethK, rProp, rClsFn, rOpOwn, rSl, oNone, oSome, rFmt, kFmt, rJs, rLidx, rChain, rTru, truT, rStr0, rPart, rSplit, kIntS, gStarT, kStrOwn, kAddC, rDct, kInt1, iEnumT, rMakeStar, rJoin, iZipM, rLcP, kLenOwn, kBoolOwn, rCMeth, rClsStar, rClsMake, rLz, rRevL, rRev2, rCMethK, rExcV, rMut, kAdd, kI2, kI2n, kMul, kIx, kIn, kLen, kU, kA2, kDm, kStrI, kAll, kSl, kAppend, kExtend, kTuple, kList, lenT, seqOf, bYes, startT, one, pickG, selG, insOf, putT, flatT, Bool.false_xor, Bool.true_xor, List.all_cons, List.all_nil, Bool.and_self, T.int.injEq, T.bl.injEq, T.str.injEq, T.lst.injEq, T.tup.injEq, T.cell.injEq, T.ins.injEq, Cell.lst.injEq, Cell.ins.injEq, Prod.mk.injEq, List.cons.injEq, Option.some.injEq, List.map_cons, List.map_nil, List.length_cons, List.length_nil, List.cons_append, List.nil_append, List.append_nil, List.getElem?_cons_zero, List.getElem?_cons_succ, List.set_cons_zero, List.set_cons_succ, List.replicate_succ, List.replicate_zero, exists_eq_left, exists_eq_left', exists_and_left, and_true, true_and, and_self, and_assoc, Nat.sub_self, Nat.reduceAdd, Nat.reduceSub, Nat.zero_add, put_put, put_same, reduceIte, Bool.false_eq_true, Bool.true_eq_false, Bool.not_true, Bool.not_false, at_0, at_1, at_2, at_3, at_4, at_5, at_6, at_7, ix_1_0, ix_2_0, ix_2_1, ix_3_0, ix_3_1, ix_3_2, ix_4_0, ix_4_1, ix_4_2, ix_4_3]
          exact hN _ _ (go none 60 (Pn.of (by decide) (by decide)))
        · simp only [Int.reduceSub, sSeq, sAsg, sDrop, sRet, sRetN, sIf, sNext, sPar, sPar3, sFor, sRaise, sFldT, sNo, rNo, rVar, rFrz, rC, rBin, rTest, bAnd, bOr, bNot, bIf, vAnd, vOr, vNot, rIf, rNeg, aNil, aCons, rTup, rLst, rLstC, rArgs, gNameT, gNilT, gConsT, gTupT, gSubT, iSeq, iRng1T, iRng2T, rLc, rCall, rCallN, rCallS, rFld, rCon, rMake, rMakeN, rMakeP, rMeth, rMethK, rProp, rClsFn, rOpOwn, rSl, oNone, oSome, rFmt, kFmt, rJs, rLidx, rChain, rTru, truT, rStr0, rPart, rSplit, kIntS, gStarT, kStrOwn, kAddC, rDct, kInt1, iEnumT, rMakeStar, rJoin, iZipM, rLcP, kLenOwn, kBoolOwn, rCMeth, rClsStar, rClsMake, rLz, rRevL, rRev2, rCMethK, rExcV, rMut, kAdd, kI2, kI2n, kMul, kIx, kIn, kLen, kU, kA2, kDm, kStrI, kAll, kSl, kAppend, kExtend, kTuple, kList, lenT, seqOf, bYes, startT, one, pickG, selG, insOf, putT, flatT, Bool.false_xor, Bool.true_xor, List.all_cons, List.all_nil, Bool.and_self, T.int.injEq, T.bl.injEq, T.str.injEq, T.lst.injEq, T.tup.injEq, T.cell.injEq, T.ins.injEq, Cell.lst.injEq, Cell.ins.injEq, Prod.mk.injEq, List.cons.injEq, Option.some.injEq, List.map_cons, List.map_nil, List.length_cons, List.length_nil, List.cons_append, List.nil_append, List.append_nil, List.getElem?_cons_zero, List.getElem?_cons_succ, List.set_cons_zero, List.set_cons_succ, List.replicate_succ, List.replicate_zero, exists_eq_left, exists_eq_left', exists_and_left, and_true, true_and, and_self, and_assoc, Nat.sub_self, Nat.reduceAdd, Nat.reduceSub, Nat.zero_add, put_put, put_same, reduceIte, Bool.false_eq_true, Bool.true_eq_false, Bool.not_true, Bool.not_false, at_0, at_1, at_2, at_3, at_4, at_5, at_6, at_7, ix_1_0, ix_2_0, ix_2_1, ix_3_0, ix_3_1, ix_3_2, ix_4_0, ix_4_1, ix_4_2, ix_4_3]
          exact hN _ _ (go none _ p6)
        · simp only [Int.reduceSub, sSeq, sAsg, sDrop, sRet, sRetN, sIf, sNext, sPar, sPar3, sFor, sRaise, sFldT, sNo, rNo, rVar, rFrz, rC, rBin, rTest, bAnd, bOr, bNot, bIf, vAnd, vOr, vNot, rIf, rNeg, aNil, aCons, rTup, rLst, rLstC, rArgs, gNameT, gNilT, gConsT, gTupT, gSubT, iSeq, iRng1T, iRng2T, rLc, rCall, rCallN, rCallS, rFld, rCon, rMake, rMakeN, rMakeP, rMeth, rMethK, rProp, rClsFn, rOpOwn, rSl, oNone, oSome, rFmt, kFmt, rJs, rLidx, rChain, rTru, truT, rStr0, rPart, rSplit, kIntS, gStarT, kStrOwn, kAddC, rDct, kInt1, iEnumT, rMakeStar, rJoin, iZipM, rLcP, kLenOwn, kBoolOwn, rCMeth, rClsStar, rClsMake, rLz, rRevL, rRev2, rCMethK, rExcV, rMut, kAdd, kI2, kI2n, kMul, kIx, kIn, kLen, kU, kA2, kDm, kStrI, kAll, kSl, kAppend, kExtend, kTuple, kList, lenT, seqOf, bYes, startT, one, pickG, selG, insOf, putT, flatT, Bool.false_xor, Bool.true_xor, List.all_cons, List.all_nil, Bool.and_self, T.int.injEq, T.bl.injEq, T.str.injEq, T.lst.injEq, T.tup.injEq, T.cell.injEq, T.ins.injEq, Cell.lst.injEq, Cell.ins.injEq, Prod.mk.injEq, List.cons.injEq, Option.some.injEq, List.map_cons, List.map_nil, List.length_cons, List.length_nil, List.cons_append, List.nil_append, List.append_nil, List.getElem?_cons_zero, List.getElem?_cons_succ, List.set_cons_zero, List.set_cons_succ, List.replicate_succ, List.replicate_zero, exists_eq_left, exists_eq_left', exists_and_left, and_true, true_and, and_self, and_assoc, Nat.sub_self, Nat.reduceAdd, Nat.reduceSub, Nat.zero_add, put_put, put_same, reduceIte, Bool.false_eq_true, Bool.true_eq_false, Bool.not_true, Bool.not_false, at_0, at_1, at_2, at_3, at_4, at_5, at_6, at_7, ix_1_0, ix_2_0, ix_2_1, ix_3_0, ix_3_1, ix_3_2, ix_4_0, ix_4_1, ix_4_2, ix_4_3]
          exact hN _ _ (go none 90 (Pn.of (by decide) (by decide)))
  · exact h.elim
/-! sizes as rationals -/
def rv (a b : Int) : Rat := (a : Rat) / (b : Rat)
theorem rc_pos {a : Int} (h : 0 < a) : (0 : Rat) < (a : Rat) := by
  have : ((0 : Int) : Rat) < (a : Rat) := Rat.intCast_lt_intCast.mpr h
  simpa using this
theorem rv_pos {a b : Int} (ha : 0 < a) (hb : 0 < b) : 0 < rv a b := by
  unfold rv
  rw [Rat.lt_div_iff (rc_pos hb), Rat.zero_mul]
  exact rc_pos ha
theorem rv_lt {a b c d : Int} (hb : 0 < b) (hd : 0 < d) : a * d < c * b ↔ rv a b < rv c d := by
  have h1 := rc_pos hb
  have h2 := rc_pos hd
  unfold rv
  rw [Rat.div_lt_iff h1]
  have e : (c : Rat) / d * b = (c * b) / d := by grind
  rw [e, Rat.lt_div_iff h2, ← Rat.intCast_mul, ← Rat.intCast_mul, Rat.intCast_lt_intCast]
theorem rv_eq {a b c d : Int} (hb : 0 < b) (hd : 0 < d) : a * d = c * b ↔ rv a b = rv c d := by
  have h1 := rc_pos hb
  have h2 := rc_pos hd
  unfold rv
  constructor
  · intro h
    have : (a : Rat) * d = c * b := by rw [← Rat.intCast_mul, ← Rat.intCast_mul, h]
    grind
  · intro h
    have : (a : Rat) * d = c * b := by grind
    rw [← Rat.intCast_mul, ← Rat.intCast_mul] at this
    exact Rat.intCast_inj.mp this
theorem rv_mul {a b c d : Int} : rv (a * c) (b * d) = rv a b * rv c d := by
  unfold rv
  rw [Rat.intCast_mul, Rat.intCast_mul]
  grind
theorem rv_div {a b c d : Int} : rv (a * d) (b * c) = rv a b / rv c d := by
  unfold rv
  rw [Rat.intCast_mul, Rat.intCast_mul]
  grind
theorem rv_one {a : Int} : rv a 1 = (a : Rat) := by
  unfold rv
  have e : ((1 : Int) : Rat) = 1 := rfl
  rw [e]
  grind
theorem lowP {x y : Int} (hx : 0 < x) : ∃ g : Int, 0 < g ∧ x = g * lwA x y ∧ y = g * lwB x y := by
  have h : 0 < gcdI x y := by
    unfold gcdI
    have := Int.gcd_pos_of_ne_zero_left y (by omega : x ≠ 0)
    omega
  exact ⟨gcdI x y, h, (Int.mul_ediv_cancel' (Int.gcd_dvd_left x y)).symm, (Int.mul_ediv_cancel' (Int.gcd_dvd_right x y)).symm⟩
theorem rv_low {x y : Int} (hx : 0 < x) (hy : 0 < y) : rv (lwA x y) (lwB x y) = rv x y := by
  obtain ⟨g, g0, ex, ey⟩ := lowP (y := y) hx
  generalize lwA x y = A at *
  generalize lwB x y = B at *
  have hb : 0 < B := by
    rcases Int.lt_or_le 0 B with h | h
    · exact h
    · have := Int.mul_nonpos_of_nonneg_of_nonpos (Int.le_of_lt g0) h
      omega
  refine (rv_eq hb hy).mp ?_
  rw [ey, ex]
  ac_rfl
theorem fr_eq {n : Nat} {a b c d : Int} (h : Fr n a b) (k : Fr n c d) (e : a * d = c * b) : a = c ∧ b = d := by
  have hg : Int.gcd a b = 1 := by have := h.g; unfold gcdI at this; omega
  have kg : Int.gcd c d = 1 := by have := k.g; unfold gcdI at this; omega
  have cop : ∀ {x y z : Int}, x ∣ z * y → Int.gcd x y = 1 → x ∣ z := fun {x y z} h g => by
    have h1 : x.natAbs ∣ z.natAbs * y.natAbs := by rw [← Int.natAbs_mul]; exact Int.natAbs_dvd_natAbs.mpr h
    exact Int.natAbs_dvd_natAbs.mp (Nat.Coprime.dvd_of_dvd_mul_right g h1)
  have d1 : a ∣ c := cop (y := b) ⟨d, e.symm⟩ hg
  have d2 : c ∣ a := cop (y := d) ⟨b, e⟩ kg
  have l1 := Int.le_of_dvd k.a.pos d1
  have l2 := Int.le_of_dvd h.a.pos d2
  have ac : a = c := by omega
  refine ⟨ac, ?_⟩
  subst ac
  have hp := h.a.pos
  have : d = b := Int.eq_of_mul_eq_mul_left (by omega) e
  exact this.symm
theorem fr_val {n m : Nat} {a b c d : Int} (h : Fr n a b) (k : Fr m c d) (e : rv a b = rv c d) : a = c ∧ b = d :=
  fr_eq (n := n + m) (h.up (by omega)) (k.up (by omega)) ((rv_eq h.b.pos k.b.pos).mpr e)
theorem rv11 : rv 1 1 = 1 := by rw [rv_one]; rfl
/-- some fractions: bits, top, bottom -/
abbrev Fs : Type := List (Nat × Int × Int)
def Fs.ts (l : Fs) : List T := l.map fun p => frT p.2.1 p.2.2
def Fs.bits (l : Fs) : Nat := (l.map (·.1)).sum
def Fs.val : Fs → Rat
  | [] => 1
  | p :: l => rv p.2.1 p.2.2 * Fs.val l
def Fs.all (l : Fs) : Prop := ∀ p ∈ l, Fr p.1 p.2.1 p.2.2
theorem Fs.at_ {l : Fs} {i : Nat} {t : T} (h : l.ts[i]? = some t) : ∃ p, l[i]? = some p ∧ t = frT p.2.1 p.2.2 := by
  unfold Fs.ts at h
  rw [List.getElem?_map] at h
  obtain ⟨p, hp, rfl⟩ := Option.map_eq_some_iff.mp h
  exact ⟨p, hp, rfl⟩
theorem Fs.val_app (l m : Fs) : Fs.val (l ++ m) = Fs.val l * Fs.val m := by
  induction l with
  | nil => rw [List.nil_append, Fs.val, Rat.one_mul]
  | cons p l ih => rw [List.cons_append, Fs.val, Fs.val, ih, Rat.mul_assoc]
theorem Fs.bits_take {l : Fs} {i : Nat} {p : Nat × Int × Int} (h : l[i]? = some p) : Fs.bits (l.take (i + 1)) = Fs.bits (l.take i) + p.1 ∧ Fs.val (l.take (i + 1)) = Fs.val (l.take i) * rv p.2.1 p.2.2 := by
  rw [List.take_succ, h]
  refine ⟨by simp [Fs.bits], ?_⟩
  rw [Fs.val_app]
  congr 1
  show rv p.2.1 p.2.2 * 1 = _
  rw [Rat.mul_one]
theorem Fs.bits_le {l : Fs} {i : Nat} : Fs.bits (l.take i) ≤ Fs.bits l := by
  unfold Fs.bits
  induction l generalizing i with
  | nil => simp
  | cons p l ih => cases i with
    | zero => simp
    | succ i => simp only [List.take_succ_cons, List.map_cons, List.sum_cons]; have := ih (i := i); omega
theorem Fs.bits_mem {p : Nat × Int × Int} : ∀ {l : Fs}, p ∈ l → p.1 ≤ l.bits
  | q :: l, m => by
    unfold Fs.bits
    rw [List.map_cons, List.sum_cons]
    rcases List.mem_cons.mp m with rfl | m
    · omega
    · have := Fs.bits_mem m
      unfold Fs.bits at this
      omega
theorem sc_product : FnScope ["fractions", "top", "bottom", "factor"] ["fractions"] (defScope s_product) := ⟨rfl, rfl, rfl, by decide +kernel, rfl, by decide +kernel, by decide +kernel⟩
def sp_productN : SpT := fun ts S R _ => ∃ l : Fs, ts = l.ts ∧ l.all ∧ l.bits ≤ 3900 ∧ l.length ≤ 100 ∧ ∀ A B, Fr (1 + l.bits) A B → rv A B = l.val → R (frT A B) S
theorem ok_product {P : Program} {w : World} {K : PySem.W.Frag} {mg : Str → Option Value} {base : Heap} {f : Addr} {fd : FuncData} {g_lowest_terms g_check_fractions : Addr} {gd_lowest_terms : FuncData} {gd_check_fractions : FuncData} (F : Fun K "product" "product" s_product f fd)
    (G_lowest_terms : FnT P w K mg base 2 g_lowest_terms gd_lowest_terms ["top", "bottom"] sp_lowest_terms)
    (m_lowest_terms : mg "lowest_terms" = some (.ref g_lowest_terms))
    (k_lowest_terms : PySem.W.keepIn K (.ref g_lowest_terms) = true)
    (b_lowest_terms : Binds K gd_lowest_terms ["top", "bottom"] [])
    (G_check_fractions : FnT P w K mg base 4 g_check_fractions gd_check_fractions ["values"] sp_check_fractions)
    (m_check_fractions : mg "check_fractions" = some (.ref g_check_fractions))
    (k_check_fractions : PySem.W.keepIn K (.ref g_check_fractions) = true)
    (b_check_fractions : Binds K gd_check_fractions ["values"] [])
    (hba : ∀ us : List Value, bindArgs fd ⟨us, []⟩ = (newTuple us >>= fun t => pure [(("fractions" : Str), t)]))
    : FnS P w K mg base 5 f sp_productN := by
  refine okTS F sc_product hba (fun cdv A out s H E hg hr => (bs_cons (ss_expr (et_callD G_check_fractions hg (hr.mono (by decide)) (by rfl) m_check_fractions k_check_fractions (CallD.all b_check_fractions) (passL2N (L2N.takes_of rfl rfl rfl rfl)) (at_cons (et_var (pv 0)) at_nil)))
    (bs_cons (ss_asg (et_tup (at_cons et_int (at_cons et_int at_nil))) (gt_tup (n := 2) (by rfl) (gts_cons (gt_name (pg_name (i := 1) sc_product.nd rfl (by first | exact Or.inl rfl | exact Or.inr rfl))) (gts_cons (gt_name (pg_name (i := 2) sc_product.nd rfl (by first | exact Or.inl rfl | exact Or.inr rfl))) gts_nil))))
    (bs_cons (ss_for (passes_of rfl) rfl (it_seq (et_var (pv 0))) (gt_name (pg_name (i := 3) sc_product.nd rfl (by first | exact Or.inl rfl | exact Or.inr rfl))) (bs_one (ss_asg (et_callD G_lowest_terms hg (hr.mono (by decide)) (by rfl) m_lowest_terms k_lowest_terms (CallD.all b_lowest_terms) (passL2N (L2N.takes_of rfl rfl rfl rfl)) (at_cons (et_op op_mulG cv_mul (et_var (pv 1)) (et_ix ix_seq cv_ix (et_var (pv 3)) et_int (fun _ _ => rfl))) (at_cons (et_op op_mulG cv_mul (et_var (pv 2)) (et_ix ix_seq cv_ix (et_var (pv 3)) et_int (fun _ _ => rfl))) at_nil))) (gt_tup (n := 2) (by rfl) (gts_cons (gt_name (pg_name (i := 1) sc_product.nd rfl (by first | exact Or.inl rfl | exact Or.inr rfl))) (gts_cons (gt_name (pg_name (i := 2) sc_product.nd rfl (by first | exact Or.inl rfl | exact Or.inr rfl))) gts_nil))))))
    (bs_one (ss_ret (et_tup (at_cons (et_var (pv 1)) (at_cons (et_var (pv 2)) at_nil))))))))) ?_
  intro ts S R RE h
  obtain ⟨l, rfl, fl, hb, hl, q⟩ := h
  refine ⟨by rw [sizeLine_eq]; show (l.map _).length ≤ _; rw [List.length_map]; omega, ?_⟩
  refine sSeq_i fun N hN => ?_
  simp only [sp_check_fractions, sSeq, sAsg, sDrop, sRet, sRetN, sIf, sNext, sPar, sPar3, sFor, sRaise, sFldT, sNo, rNo, rVar, rFrz, rC, rBin, rTest, bAnd, bOr, bNot, bIf, vAnd, vOr, vNot, rIf, rNeg, aNil, aCons, rTup, rLst, rLstC, rArgs, gNameT, gNilT, gConsT, gTupT, gSubT, iSeq, iRng1T, iRng2T, rLc, rCall, rCallN, rCallS, rFld, rCon, rMake, rMakeN, rMakeP, rMeth, rMethK, rProp, rClsFn, rOpOwn, rSl, oNone, oSome, rFmt, kFmt, rJs, rLidx, rChain, rTru, truT, rStr0, rPart, rSplit, kIntS, gStarT, kStrOwn, kAddC, rDct, kInt1, iEnumT, rMakeStar, rJoin, iZipM, rLcP, kLenOwn, kBoolOwn, rCMeth, rClsStar, rClsMake, rLz, rRevL, rRev2, rCMethK, rExcV, rMut, kAdd, kI2, kI2n, kMul, kIx, kIn, kLen, kU, kA2, kDm, kStrI, kAll, kSl, kAppend, kExtend, kTuple, kList, lenT, seqOf, bYes, startT, one, pickG, selG, insOf, putT, flatT, Bool.false_xor, Bool.true_xor, List.all_cons, List.all_nil, Bool.and_self, T.int.injEq, T.bl.injEq, T.str.injEq, T.lst.injEq, T.tup.injEq, T.cell.injEq, T.ins.injEq, Cell.lst.injEq, Cell.ins.injEq, Prod.mk.injEq, List.cons.injEq, Option.some.injEq, List.map_cons, List.map_nil, List.length_cons, List.length_nil, List.cons_append, List.nil_append, List.append_nil, List.getElem?_cons_zero, List.getElem?_cons_succ, List.set_cons_zero, List.set_cons_succ, List.replicate_succ, List.replicate_zero, exists_eq_left, exists_eq_left', exists_and_left, and_true, true_and, and_self, and_assoc, Nat.sub_self, Nat.reduceAdd, Nat.reduceSub, Nat.zero_add, put_put, put_same, reduceIte, Bool.false_eq_true, Bool.true_eq_false, Bool.not_true, Bool.not_false, at_0, at_1, at_2, at_3, at_4, at_5, at_6, at_7, ix_1_0, ix_2_0, ix_2_1, ix_3_0, ix_3_1, ix_3_2, ix_4_0, ix_4_1, ix_4_2, ix_4_3]
  refine ⟨fun x m => ?_, hN _ _ ?_⟩
  · obtain ⟨i, hi⟩ := List.getElem?_of_mem m
    obtain ⟨p, hp, e⟩ := Fs.at_ hi
    have m2 := List.mem_of_getElem? hp
    have b1 : p.1 ≤ l.bits := Fs.bits_mem m2
    exact ⟨_, _, e, (fl p m2).up (by omega)⟩
  clear hN
  refine sSeq_i fun N hN => ?_
  simp only [sSeq, sAsg, sDrop, sRet, sRetN, sIf, sNext, sPar, sPar3, sFor, sRaise, sFldT, sNo, rNo, rVar, rFrz, rC, rBin, rTest, bAnd, bOr, bNot, bIf, vAnd, vOr, vNot, rIf, rNeg, aNil, aCons, rTup, rLst, rLstC, rArgs, gNameT, gNilT, gConsT, gTupT, gSubT, iSeq, iRng1T, iRng2T, rLc, rCall, rCallN, rCallS, rFld, rCon, rMake, rMakeN, rMakeP, rMeth, rMethK, rProp, rClsFn, rOpOwn, rSl, oNone, oSome, rFmt, kFmt, rJs, rLidx, rChain, rTru, truT, rStr0, rPart, rSplit, kIntS, gStarT, kStrOwn, kAddC, rDct, kInt1, iEnumT, rMakeStar, rJoin, iZipM, rLcP, kLenOwn, kBoolOwn, rCMeth, rClsStar, rClsMake, rLz, rRevL, rRev2, rCMethK, rExcV, rMut, kAdd, kI2, kI2n, kMul, kIx, kIn, kLen, kU, kA2, kDm, kStrI, kAll, kSl, kAppend, kExtend, kTuple, kList, lenT, seqOf, bYes, startT, one, pickG, selG, insOf, putT, flatT, Bool.false_xor, Bool.true_xor, List.all_cons, List.all_nil, Bool.and_self, T.int.injEq, T.bl.injEq, T.str.injEq, T.lst.injEq, T.tup.injEq, T.cell.injEq, T.ins.injEq, Cell.lst.injEq, Cell.ins.injEq, Prod.mk.injEq, List.cons.injEq, Option.some.injEq, List.map_cons, List.map_nil, List.length_cons, List.length_nil, List.cons_append, List.nil_append, List.append_nil, List.getElem?_cons_zero, List.getElem?_cons_succ, List.set_cons_zero, List.set_cons_succ, List.replicate_succ, List.replicate_zero, exists_eq_left, exists_eq_left', exists_and_left, and_true, true_and, and_self, and_assoc, Nat.sub_self, Nat.reduceAdd, Nat.reduceSub, Nat.zero_add, put_put, put_same, reduceIte, Bool.false_eq_true, Bool.true_eq_false, Bool.not_true, Bool.not_false, at_0, at_1, at_2, at_3, at_4, at_5, at_6, at_7, ix_1_0, ix_2_0, ix_2_1, ix_3_0, ix_3_1, ix_3_2, ix_4_0, ix_4_1, ix_4_2, ix_4_3]
  refine ⟨by decide, hN _ _ ?_⟩
  clear hN
  refine sSeq_i fun N hN => ?_
  simp only [sSeq, sAsg, sDrop, sRet, sRetN, sIf, sNext, sPar, sPar3, sFor, sRaise, sFldT, sNo, rNo, rVar, rFrz, rC, rBin, rTest, bAnd, bOr, bNot, bIf, vAnd, vOr, vNot, rIf, rNeg, aNil, aCons, rTup, rLst, rLstC, rArgs, gNameT, gNilT, gConsT, gTupT, gSubT, iSeq, iRng1T, iRng2T, rLc, rCall, rCallN, rCallS, rFld, rCon, rMake, rMakeN, rMakeP, rMeth, rMethK, rProp, rClsFn, rOpOwn, rSl, oNone, oSome, rFmt, kFmt, rJs, rLidx, rChain, rTru, truT, rStr0, rPart, rSplit, kIntS, gStarT, kStrOwn, kAddC, rDct, kInt1, iEnumT, rMakeStar, rJoin, iZipM, rLcP, kLenOwn, kBoolOwn, rCMeth, rClsStar, rClsMake, rLz, rRevL, rRev2, rCMethK, rExcV, rMut, kAdd, kI2, kI2n, kMul, kIx, kIn, kLen, kU, kA2, kDm, kStrI, kAll, kSl, kAppend, kExtend, kTuple, kList, lenT, seqOf, bYes, startT, one, pickG, selG, insOf, putT, flatT, Bool.false_xor, Bool.true_xor, List.all_cons, List.all_nil, Bool.and_self, T.int.injEq, T.bl.injEq, T.str.injEq, T.lst.injEq, T.tup.injEq, T.cell.injEq, T.ins.injEq, Cell.lst.injEq, Cell.ins.injEq, Prod.mk.injEq, List.cons.injEq, Option.some.injEq, List.map_cons, List.map_nil, List.length_cons, List.length_nil, List.cons_append, List.nil_append, List.append_nil, List.getElem?_cons_zero, List.getElem?_cons_succ, List.set_cons_zero, List.set_cons_succ, List.replicate_succ, List.replicate_zero, exists_eq_left, exists_eq_left', exists_and_left, and_true, true_and, and_self, and_assoc, Nat.sub_self, Nat.reduceAdd, Nat.reduceSub, Nat.zero_add, put_put, put_same, reduceIte, Bool.false_eq_true, Bool.true_eq_false, Bool.not_true, Bool.not_false, at_0, at_1, at_2, at_3, at_4, at_5, at_6, at_7, ix_1_0, ix_2_0, ix_2_1, ix_3_0, ix_3_1, ix_3_2, ix_4_0, ix_4_1, ix_4_2, ix_4_3]
  refine rLoop_inv (fun i σ S' => S' = S ∧ ∃ (A B : Int) (v : Option T), σ = [some (.tup l.ts), some (.int A), some (.int B), v] ∧ Fr (1 + Fs.bits (l.take i)) A B ∧ rv A B = Fs.val (l.take i)) ⟨rfl, 1, 1, _, rfl, fr11 (by omega), rv11⟩ ?_ ?_
  · rintro i t σ S' hi ⟨rfl, A, B, v, rfl, f, e⟩ N hN2
    obtain ⟨p, hp, rfl⟩ := Fs.at_ hi
    obtain ⟨e1, e2⟩ := Fs.bits_take hp
    have g := fl p (List.mem_of_getElem? hp)
    have lb := Fs.bits_le (l := l) (i := i + 1)
    simp only [sp_lowest_terms, frT, sSeq, sAsg, sDrop, sRet, sRetN, sIf, sNext, sPar, sPar3, sFor, sRaise, sFldT, sNo, rNo, rVar, rFrz, rC, rBin, rTest, bAnd, bOr, bNot, bIf, vAnd, vOr, vNot, rIf, rNeg, aNil, aCons, rTup, rLst, rLstC, rArgs, gNameT, gNilT, gConsT, gTupT, gSubT, iSeq, iRng1T, iRng2T, rLc, rCall, rCallN, rCallS, rFld, rCon, rMake, rMakeN, rMakeP, rMeth, rMethK, rProp, rClsFn, rOpOwn, rSl, oNone, oSome, rFmt, kFmt, rJs, rLidx, rChain, rTru, truT, rStr0, rPart, rSplit, kIntS, gStarT, kStrOwn, kAddC, rDct, kInt1, iEnumT, rMakeStar, rJoin, iZipM, rLcP, kLenOwn, kBoolOwn, rCMeth, rClsStar, rClsMake, rLz, rRevL, rRev2, rCMethK, rExcV, rMut, kAdd, kI2, kI2n, kMul, kIx, kIn, kLen, kU, kA2, kDm, kStrI, kAll, kSl, kAppend, kExtend, kTuple, kList, lenT, seqOf, bYes, startT, one, pickG, selG, insOf, putT, flatT, Bool.false_xor, Bool.true_xor, List.all_cons, List.all_nil, Bool.and_self, T.int.injEq, T.bl.injEq, T.str.injEq, T.lst.injEq, T.tup.injEq, T.cell.injEq, T.ins.injEq, Cell.lst.injEq, Cell.ins.injEq, Prod.mk.injEq, List.cons.injEq, Option.some.injEq, List.map_cons, List.map_nil, List.length_cons, List.length_nil, List.cons_append, List.nil_append, List.append_nil, List.getElem?_cons_zero, List.getElem?_cons_succ, List.set_cons_zero, List.set_cons_succ, List.replicate_succ, List.replicate_zero, exists_eq_left, exists_eq_left', exists_and_left, and_true, true_and, and_self, and_assoc, Nat.sub_self, Nat.reduceAdd, Nat.reduceSub, Nat.zero_add, put_put, put_same, reduceIte, Bool.false_eq_true, Bool.true_eq_false, Bool.not_true, Bool.not_false, at_0, at_1, at_2, at_3, at_4, at_5, at_6, at_7, ix_1_0, ix_2_0, ix_2_1, ix_3_0, ix_3_1, ix_3_2, ix_4_0, ix_4_1, ix_4_2, ix_4_3]
    have ma := f.a.mul g.a
    have mb := f.b.mul g.b
    have m1 : IntMulOk A p.2.1 := mulW_of (n := 3901) (m := 3901) (f.a.up (by omega)).lt (g.a.up (by omega)).lt
    have m2 : IntMulOk B p.2.2 := mulW_of (n := 3901) (m := 3901) (f.b.up (by omega)).lt (g.b.up (by omega)).lt
    refine ⟨m1, m2, ma.up (by omega), mb.pos, hN2 _ _ ⟨rfl, _, _, _, rfl, ?_, ?_⟩⟩
    · rw [e1]
      exact (Fr.low ma mb).up (by omega)
    · rw [e2, rv_low ma.pos mb.pos, rv_mul, e]
  · rintro σ S' ⟨rfl, A, B, v, rfl, f, e⟩
    refine hN _ _ ?_
    have el : l.take l.ts.length = l := by
      unfold Fs.ts
      rw [List.length_map, List.take_length]
    rw [el] at f e
    simp only [sSeq, sAsg, sDrop, sRet, sRetN, sIf, sNext, sPar, sPar3, sFor, sRaise, sFldT, sNo, rNo, rVar, rFrz, rC, rBin, rTest, bAnd, bOr, bNot, bIf, vAnd, vOr, vNot, rIf, rNeg, aNil, aCons, rTup, rLst, rLstC, rArgs, gNameT, gNilT, gConsT, gTupT, gSubT, iSeq, iRng1T, iRng2T, rLc, rCall, rCallN, rCallS, rFld, rCon, rMake, rMakeN, rMakeP, rMeth, rMethK, rProp, rClsFn, rOpOwn, rSl, oNone, oSome, rFmt, kFmt, rJs, rLidx, rChain, rTru, truT, rStr0, rPart, rSplit, kIntS, gStarT, kStrOwn, kAddC, rDct, kInt1, iEnumT, rMakeStar, rJoin, iZipM, rLcP, kLenOwn, kBoolOwn, rCMeth, rClsStar, rClsMake, rLz, rRevL, rRev2, rCMethK, rExcV, rMut, kAdd, kI2, kI2n, kMul, kIx, kIn, kLen, kU, kA2, kDm, kStrI, kAll, kSl, kAppend, kExtend, kTuple, kList, lenT, seqOf, bYes, startT, one, pickG, selG, insOf, putT, flatT, Bool.false_xor, Bool.true_xor, List.all_cons, List.all_nil, Bool.and_self, T.int.injEq, T.bl.injEq, T.str.injEq, T.lst.injEq, T.tup.injEq, T.cell.injEq, T.ins.injEq, Cell.lst.injEq, Cell.ins.injEq, Prod.mk.injEq, List.cons.injEq, Option.some.injEq, List.map_cons, List.map_nil, List.length_cons, List.length_nil, List.cons_append, List.nil_append, List.append_nil, List.getElem?_cons_zero, List.getElem?_cons_succ, List.set_cons_zero, List.set_cons_succ, List.replicate_succ, List.replicate_zero, exists_eq_left, exists_eq_left', exists_and_left, and_true, true_and, and_self, and_assoc, Nat.sub_self, Nat.reduceAdd, Nat.reduceSub, Nat.zero_add, put_put, put_same, reduceIte, Bool.false_eq_true, Bool.true_eq_false, Bool.not_true, Bool.not_false, at_0, at_1, at_2, at_3, at_4, at_5, at_6, at_7, ix_1_0, ix_2_0, ix_2_1, ix_3_0, ix_3_1, ix_3_2, ix_4_0, ix_4_1, ix_4_2, ix_4_3]
    exact ⟨by decide, q A B f e⟩
/-- -1, 0, 1: below, alike, above -/
def sgnR (p q : Rat) : Int := if p < q then -1 else if q < p then 1 else 0
theorem sgn_val {a b c d : Int} (hb : 0 < b) (hd : 0 < d) : sgn (a * d) (c * b) = sgnR (rv a b) (rv c d) := by
  unfold sgn sgnR
  by_cases h : a * d < c * b
  · rw [if_pos h, if_pos ((rv_lt hb hd).mp h)]
  · rw [if_neg h, if_neg fun k => h ((rv_lt hb hd).mpr k)]
    by_cases h2 : c * b < a * d
    · rw [if_pos h2, if_pos ((rv_lt hd hb).mp h2)]
    · rw [if_neg h2, if_neg fun k => h2 ((rv_lt hd hb).mpr k)]
theorem sc_parse_fraction : FnScope ["text", "number"] ["text"] (defScope s_parse_fraction) := ⟨rfl, rfl, rfl, by decide +kernel, rfl, by decide +kernel, by decide +kernel⟩
def sp_parse_fraction (K : PySem.W.Frag) : SpT := fun ts S R _ => match ts with
  | [.str z] => ∃ a b, z = frS a b ∧ Fr 1900 a b ∧ R (frT a b) S
  | _ => False
theorem ok_parse_fraction {P : Program} {w : World} {K : PySem.W.Frag} {mg : Str → Option Value} {base : Heap} {f : Addr} {fd : FuncData} {g_find_fraction : Addr} {gd_find_fraction : FuncData} (F : Fun K "parse_fraction" "parse_fraction" s_parse_fraction f fd)
    (G_find_fraction : FnT P w K mg base 6 g_find_fraction gd_find_fraction ["text"] (sp_find_fraction K))
    (m_find_fraction : mg "find_fraction" = some (.ref g_find_fraction))
    (k_find_fraction : PySem.W.keepIn K (.ref g_find_fraction) = true)
    (b_find_fraction : Binds K gd_find_fraction ["text"] [])
    : FnT P w K mg base 7 f fd ["text"] (sp_parse_fraction K) := by
  refine okT F sc_parse_fraction (by intro ts S R RE h; unfold sp_parse_fraction at h; split at h <;> first | rfl | exact h.elim) (fun cdv A out s H E hg hr => (bs_cons (ss_set (i := 1) sc_parse_fraction.nd rfl (by first | exact Or.inl rfl | exact Or.inr rfl) (et_callD G_find_fraction hg (hr.mono (by decide)) (by rfl) m_find_fraction k_find_fraction (CallD.all b_find_fraction) (passL2N (L2N.takes_of rfl rfl rfl rfl)) (at_cons (et_var (pv 0)) at_nil)))
    (bs_cons (ss_if (tt_cmp op_isN cv_isN (et_var (pv 1)) et_non (nomark _)) (bs_one ss_never) bs_nil)
    (bs_one (ss_ret (et_var (pv 1))))))) ?_
  intro ts S R RE h
  unfold sp_parse_fraction at h
  split at h
  · obtain ⟨a, b, rfl, f, q⟩ := h
    refine sSeq_i fun N hN => ?_
    simp only [sp_find_fraction, sSeq, sAsg, sDrop, sRet, sRetN, sIf, sNext, sPar, sPar3, sFor, sRaise, sFldT, sNo, rNo, rVar, rFrz, rC, rBin, rTest, bAnd, bOr, bNot, bIf, vAnd, vOr, vNot, rIf, rNeg, aNil, aCons, rTup, rLst, rLstC, rArgs, gNameT, gNilT, gConsT, gTupT, gSubT, iSeq, iRng1T, iRng2T, rLc, rCall, rCallN, rCallS, rFld, rCon, rMake, rMakeN, rMakeP, rMeth, rMethK, rProp, rClsFn, rOpOwn, rSl, oNone, oSome, rFmt, kFmt, rJs, rLidx, rChain, rTru, truT, rStr0, rPart, rSplit, kIntS, gStarT, kStrOwn, kAddC, rDct, kInt1, iEnumT, rMakeStar, rJoin, iZipM, rLcP, kLenOwn, kBoolOwn, rCMeth, rClsStar, rClsMake, rLz, rRevL, rRev2, rCMethK, rExcV, rMut, kAdd, kI2, kI2n, kMul, kIx, kIn, kLen, kU, kA2, kDm, kStrI, kAll, kSl, kAppend, kExtend, kTuple, kList, lenT, seqOf, bYes, startT, one, pickG, selG, insOf, putT, flatT, Bool.false_xor, Bool.true_xor, List.all_cons, List.all_nil, Bool.and_self, T.int.injEq, T.bl.injEq, T.str.injEq, T.lst.injEq, T.tup.injEq, T.cell.injEq, T.ins.injEq, Cell.lst.injEq, Cell.ins.injEq, Prod.mk.injEq, List.cons.injEq, Option.some.injEq, List.map_cons, List.map_nil, List.length_cons, List.length_nil, List.cons_append, List.nil_append, List.append_nil, List.getElem?_cons_zero, List.getElem?_cons_succ, List.set_cons_zero, List.set_cons_succ, List.replicate_succ, List.replicate_zero, exists_eq_left, exists_eq_left', exists_and_left, and_true, true_and, and_self, and_assoc, Nat.sub_self, Nat.reduceAdd, Nat.reduceSub, Nat.zero_add, put_put, put_same, reduceIte, Bool.false_eq_true, Bool.true_eq_false, Bool.not_true, Bool.not_false, at_0, at_1, at_2, at_3, at_4, at_5, at_6, at_7, ix_1_0, ix_2_0, ix_2_1, ix_3_0, ix_3_1, ix_3_2, ix_4_0, ix_4_1, ix_4_2, ix_4_3]
    refine ⟨a, b, rfl, f, hN _ _ ?_⟩
    clear hN
    refine sSeq_i fun N hN => ?_
    simp only [sSeq, sAsg, sDrop, sRet, sRetN, sIf, sNext, sPar, sPar3, sFor, sRaise, sFldT, sNo, rNo, rVar, rFrz, rC, rBin, rTest, bAnd, bOr, bNot, bIf, vAnd, vOr, vNot, rIf, rNeg, aNil, aCons, rTup, rLst, rLstC, rArgs, gNameT, gNilT, gConsT, gTupT, gSubT, iSeq, iRng1T, iRng2T, rLc, rCall, rCallN, rCallS, rFld, rCon, rMake, rMakeN, rMakeP, rMeth, rMethK, rProp, rClsFn, rOpOwn, rSl, oNone, oSome, rFmt, kFmt, rJs, rLidx, rChain, rTru, truT, rStr0, rPart, rSplit, kIntS, gStarT, kStrOwn, kAddC, rDct, kInt1, iEnumT, rMakeStar, rJoin, iZipM, rLcP, kLenOwn, kBoolOwn, rCMeth, rClsStar, rClsMake, rLz, rRevL, rRev2, rCMethK, rExcV, rMut, kAdd, kI2, kI2n, kMul, kIx, kIn, kLen, kU, kA2, kDm, kStrI, kAll, kSl, kAppend, kExtend, kTuple, kList, lenT, seqOf, bYes, startT, one, pickG, selG, insOf, putT, flatT, Bool.false_xor, Bool.true_xor, List.all_cons, List.all_nil, Bool.and_self, T.int.injEq, T.bl.injEq, T.str.injEq, T.lst.injEq, T.tup.injEq, T.cell.injEq, T.ins.injEq, Cell.lst.injEq, Cell.ins.injEq, Prod.mk.injEq, List.cons.injEq, Option.some.injEq, List.map_cons, List.map_nil, List.length_cons, List.length_nil, List.cons_append, List.nil_append, List.append_nil, List.getElem?_cons_zero, List.getElem?_cons_succ, List.set_cons_zero, List.set_cons_succ, List.replicate_succ, List.replicate_zero, exists_eq_left, exists_eq_left', exists_and_left, and_true, true_and, and_self, and_assoc, Nat.sub_self, Nat.reduceAdd, Nat.reduceSub, Nat.zero_add, put_put, put_same, reduceIte, Bool.false_eq_true, Bool.true_eq_false, Bool.not_true, Bool.not_false, at_0, at_1, at_2, at_3, at_4, at_5, at_6, at_7, ix_1_0, ix_2_0, ix_2_1, ix_3_0, ix_3_1, ix_3_2, ix_4_0, ix_4_1, ix_4_2, ix_4_3]
    refine ⟨rfl, false, rfl, ?_⟩
    rw [if_neg Bool.false_ne_true]
    refine hN _ _ ?_
    simp only [sSeq, sAsg, sDrop, sRet, sRetN, sIf, sNext, sPar, sPar3, sFor, sRaise, sFldT, sNo, rNo, rVar, rFrz, rC, rBin, rTest, bAnd, bOr, bNot, bIf, vAnd, vOr, vNot, rIf, rNeg, aNil, aCons, rTup, rLst, rLstC, rArgs, gNameT, gNilT, gConsT, gTupT, gSubT, iSeq, iRng1T, iRng2T, rLc, rCall, rCallN, rCallS, rFld, rCon, rMake, rMakeN, rMakeP, rMeth, rMethK, rProp, rClsFn, rOpOwn, rSl, oNone, oSome, rFmt, kFmt, rJs, rLidx, rChain, rTru, truT, rStr0, rPart, rSplit, kIntS, gStarT, kStrOwn, kAddC, rDct, kInt1, iEnumT, rMakeStar, rJoin, iZipM, rLcP, kLenOwn, kBoolOwn, rCMeth, rClsStar, rClsMake, rLz, rRevL, rRev2, rCMethK, rExcV, rMut, kAdd, kI2, kI2n, kMul, kIx, kIn, kLen, kU, kA2, kDm, kStrI, kAll, kSl, kAppend, kExtend, kTuple, kList, lenT, seqOf, bYes, startT, one, pickG, selG, insOf, putT, flatT, Bool.false_xor, Bool.true_xor, List.all_cons, List.all_nil, Bool.and_self, T.int.injEq, T.bl.injEq, T.str.injEq, T.lst.injEq, T.tup.injEq, T.cell.injEq, T.ins.injEq, Cell.lst.injEq, Cell.ins.injEq, Prod.mk.injEq, List.cons.injEq, Option.some.injEq, List.map_cons, List.map_nil, List.length_cons, List.length_nil, List.cons_append, List.nil_append, List.append_nil, List.getElem?_cons_zero, List.getElem?_cons_succ, List.set_cons_zero, List.set_cons_succ, List.replicate_succ, List.replicate_zero, exists_eq_left, exists_eq_left', exists_and_left, and_true, true_and, and_self, and_assoc, Nat.sub_self, Nat.reduceAdd, Nat.reduceSub, Nat.zero_add, put_put, put_same, reduceIte, Bool.false_eq_true, Bool.true_eq_false, Bool.not_true, Bool.not_false, at_0, at_1, at_2, at_3, at_4, at_5, at_6, at_7, ix_1_0, ix_2_0, ix_2_1, ix_3_0, ix_3_1, ix_3_2, ix_4_0, ix_4_1, ix_4_2, ix_4_3]
    exact q
  · exact h.elim
section
variable {S : Store} {R : T → Store → Prop} {RE : XT}
/-- a fraction and what it says -/
structure FV (n : Nat) (a b : Int) (v : Rat) : Prop where
  f : Fr n a b
  v : rv a b = v
theorem FV.pos {n : Nat} {a b : Int} {v : Rat} (h : FV n a b v) : 0 < v := h.v ▸ rv_pos h.f.a.pos h.f.b.pos
theorem FV.to {n : Nat} {a b : Int} {v w : Rat} (h : FV n a b v) (e : v = w) : FV n a b w := ⟨h.f, h.v.trans e⟩
theorem fv_one : FV 1 1 1 1 := ⟨fr11, rv11⟩
theorem FV.inv {n : Nat} {a b : Int} {v : Rat} (h : FV n a b v) : FV n b a (1 / v) := by
  refine ⟨⟨h.f.b, h.f.a, by rw [gcdI_comm]; exact h.f.g⟩, ?_⟩
  have ha := rc_pos h.f.a.pos
  have hb := rc_pos h.f.b.pos
  rw [← h.v]
  unfold rv
  grind
theorem quot_V {n m : Nat} {a b c d : Int} {v w : Rat} (h : FV n a b v) (k : FV m c d w) (hn : n + m ≤ 3900) (q : ∀ A B, FV (n + m) A B (v / w) → R (frT A B) S) : sp_quotient [frT a b, frT c d] S R RE := by
  refine ⟨h.f.up (by omega), k.f.up (by omega), q _ _ ⟨Fr.low (h.f.a.mul k.f.b) ((h.f.b.mul k.f.a)), ?_⟩⟩
  rw [rv_low (h.f.a.mul k.f.b).pos (h.f.b.mul k.f.a).pos, rv_div, h.v, k.v]
theorem comp_V {n m : Nat} {a b c d : Int} {v w : Rat} (h : FV n a b v) (k : FV m c d w) (hn : n ≤ 3900 ∧ m ≤ 3900) (q : R (.int (sgnR v w)) S) : sp_compare [frT a b, frT c d] S R RE := by
  refine ⟨h.f.up hn.1, k.f.up hn.2, ?_⟩
  rw [sgn_val h.f.b.pos k.f.b.pos, h.v, k.v]
  exact q
theorem prod_1 {n : Nat} {a b : Int} {v : Rat} (h : FV n a b v) (hn : n ≤ 3900) (q : ∀ A B, FV (1 + n) A B v → R (frT A B) S) : sp_productN [frT a b] S R RE := by
  refine ⟨[(n, a, b)], rfl, fun p m => ?_, by simpa [Fs.bits] using hn, by simp, fun A B f e => q A B ⟨by simpa [Fs.bits] using f, ?_⟩⟩
  · rw [List.mem_singleton.mp m]; exact h.f
  · rw [e]
    simp only [Fs.val, h.v, Rat.mul_one]
theorem prod_2 {n m : Nat} {a b c d : Int} {v w : Rat} (h : FV n a b v) (k : FV m c d w) (hn : n + m ≤ 3900) (q : ∀ A B, FV (1 + (n + m)) A B (v * w) → R (frT A B) S) : sp_productN [frT a b, frT c d] S R RE := by
  refine ⟨[(n, a, b), (m, c, d)], rfl, fun p mm => ?_, by simpa [Fs.bits] using hn, by simp, fun A B f e => q A B ⟨by simpa [Fs.bits] using f, ?_⟩⟩
  · simp only [List.mem_cons, List.not_mem_nil, or_false] at mm
    rcases mm with rfl | rfl
    · exact h.f
    · exact k.f
  · rw [e]
    simp only [Fs.val, h.v, k.v, Rat.mul_one]
theorem prod_3 {n m o : Nat} {a b c d x y : Int} {v w u : Rat} (h : FV n a b v) (k : FV m c d w) (l : FV o x y u) (hn : n + (m + o) ≤ 3900) (q : ∀ A B, FV (1 + (n + (m + o))) A B (v * (w * u)) → R (frT A B) S) : sp_productN [frT a b, frT c d, frT x y] S R RE := by
  refine ⟨[(n, a, b), (m, c, d), (o, x, y)], rfl, fun p mm => ?_, by simpa [Fs.bits] using hn, by simp, fun A B f e => q A B ⟨by simpa [Fs.bits] using f, ?_⟩⟩
  · simp only [List.mem_cons, List.not_mem_nil, or_false] at mm
    rcases mm with rfl | rfl | rfl
    · exact h.f
    · exact k.f
    · exact l.f
  · rw [e]
    simp only [Fs.val, h.v, k.v, l.v, Rat.mul_one]
theorem prod_5 {n m o i j : Nat} {a b c d x y a2 b2 a3 b3 : Int} {v w u v2 v3 : Rat} (h : FV n a b v) (k : FV m c d w) (l : FV o x y u) (h2 : FV i a2 b2 v2) (h3 : FV j a3 b3 v3) (hn : n + (m + (o + (i + j))) ≤ 3900) (q : ∀ A B, FV (1 + (n + (m + (o + (i + j))))) A B (v * (w * (u * (v2 * v3)))) → R (frT A B) S) :
    sp_productN [frT a b, frT c d, frT x y, frT a2 b2, frT a3 b3] S R RE := by
  refine ⟨[(n, a, b), (m, c, d), (o, x, y), (i, a2, b2), (j, a3, b3)], rfl, fun p mm => ?_, by simpa [Fs.bits] using hn, by simp, fun A B f e => q A B ⟨by simpa [Fs.bits] using f, ?_⟩⟩
  · simp only [List.mem_cons, List.not_mem_nil, or_false] at mm
    rcases mm with rfl | rfl | rfl | rfl | rfl
    · exact h.f
    · exact k.f
    · exact l.f
    · exact h2.f
    · exact h3.f
  · rw [e]
    simp only [Fs.val, h.v, k.v, l.v, h2.v, h3.v, Rat.mul_one]
end
theorem sgnR_neg (p q : Rat) : sgnR q p = 0 - sgnR p q := by
  unfold sgnR
  grind
theorem sgnR_zero (p q : Rat) : decide (sgnR p q = 0) = decide (p = q) := by
  unfold sgnR
  refine decide_eq_decide.mpr ?_
  grind
theorem sgnR_lt (p q : Rat) : decide (sgnR p q < 0) = decide (p < q) := by
  unfold sgnR
  refine decide_eq_decide.mpr ?_
  grind
/-- both times (or over) something above 0 -/
theorem sgnR_mul {p q r : Rat} (hr : 0 < r) : sgnR (p * r) (q * r) = sgnR p q := by
  have e : ∀ {x y : Rat}, x * r < y * r ↔ x < y := fun {x y} => Rat.mul_lt_mul_right hr
  unfold sgnR
  simp only [e]
theorem sgnR_div {p q : Rat} (hq : 0 < q) : sgnR (p / q) 1 = sgnR p q := by
  rw [← sgnR_mul (p := p / q) (q := 1) hq, Rat.one_mul, Rat.div_mul_cancel (Rat.ne_of_gt hq)]
theorem sgnR_tr {p q r : Rat} (h : sgnR p q < 1) (k : sgnR q r < 1) : ¬ sgnR p r > 0 := by
  unfold sgnR at *
  grind
theorem allT {ts ys : List T} (hl : ys.length = ts.length) (hF : ∀ (i : Nat) (t y : T), ts[i]? = some t → ys[i]? = some y → y = .bl true) : ys = (List.replicate ys.length true).map T.bl ∧ (List.replicate ys.length true).all id = true := by
  refine ⟨?_, by rw [List.all_replicate]; split <;> rfl⟩
  refine List.ext_getElem? fun k => ?_
  rw [List.getElem?_map, List.getElem?_replicate]
  by_cases hk : k < ys.length
  · have := hF k (ts[k]'(by omega)) ys[k] (List.getElem?_eq_getElem (by omega)) (List.getElem?_eq_getElem hk)
    rw [List.getElem?_eq_getElem hk, this, if_pos hk]
    rfl
  · rw [List.getElem?_eq_none (by omega), if_neg hk]
    rfl
theorem sIf_i {tc : TRB} {ra rb : TRS} {D : EnT} {σ : Fm} {S : Store} (h : ∀ (A B : Store → Prop), (∀ S', ra D σ S' → A S') → (∀ S', rb D σ S' → B S') → tc σ S (fun c S1 => if c = true then A S1 else B S1) D.ex) : sIf tc ra rb D σ S := h _ _ (fun _ x => x) (fun _ x => x)
theorem sgnR_under {p q r : Rat} (hp : 0 < p) (hq : 0 < q) (hr : 0 < r) : sgnR (r / p) (r / q) = 0 - sgnR p q := by
  have h : 0 < r / (p * q) := by
    rw [Rat.div_def]
    exact Rat.mul_pos hr (Rat.inv_pos.mpr (Rat.mul_pos hp hq))
  have e1 : r / p = q * (r / (p * q)) := by grind
  have e2 : r / q = p * (r / (p * q)) := by grind
  rw [e1, e2, sgnR_mul h, sgnR_neg]
section
variable {S : Store} {R : T → Store → Prop} {RE : XT}
theorem dec_fr {n m : Nat} {a b c d : Int} {v w : Rat} (h : FV n a b v) (k : FV m c d w) : decide (a = c ∧ b = d) = decide (v = w) := by
  refine decide_eq_decide.mpr ⟨fun ⟨e1, e2⟩ => ?_, fun e => fr_val h.f k.f (by rw [h.v, k.v, e])⟩
  rw [← h.v, ← k.v, e1, e2]
theorem eq_V {n m : Nat} {a b c d : Int} {v w : Rat} {ng : Bool} (h : FV n a b v) (k : FV m c d w) (q : R (.bl (ng ^^ decide (v = w))) S) : kEqG ng (frT a b) (frT c d) S R RE := by
  refine .inr ⟨.tuple [.int a, .int b], .tuple [.int c, .int d], by simp [frT, T.dat, T.datL], by simp [frT, T.dat, T.datL], by simp [SeqAt.shaped, PyData.canLay0, PyData.canLayAll0, PyData.depth, PyData.depthAll], by simp [SeqAt.shaped, PyData.canLay0, PyData.canLayAll0, PyData.depth, PyData.depthAll], ?_⟩
  have e : PyData.eqv (.tuple [.int a, .int b]) (.tuple [.int c, .int d]) = decide (v = w) := by
    rw [← dec_fr h k]
    simp only [PyData.eqv, PyData.eqvAll, Bool.and_true, Bool.decide_and]
    congr 1 <;> exact (beq_eq_decide ..)
  rw [e]
  exact q
theorem ne_V {n m : Nat} {a b c d : Int} {v w : Rat} (h : FV n a b v) (k : FV m c d w) (e : v = w) (q : R (.bl false) S) : kEqG true (frT a b) (frT c d) S R RE := eq_V h k (by rw [decide_eq_true e]; exact q)
theorem ne_I {a b : Int} (e : a = b) (q : R (.bl false) S) : kEqG true (.int a) (.int b) S R RE := by
  subst e
  exact .inl ⟨rfl, by simpa [eqS] using q⟩
theorem ne_B {a b : Bool} (e : a = b) (q : R (.bl false) S) : kEqG true (.bl a) (.bl b) S R RE := by
  subst e
  exact .inl ⟨rfl, by simpa [eqS] using q⟩
end
theorem sc_l_two_right : FnScope ["_law_lead", "_law_more", "_law_both", "_law_over", "_law_sign"] ["_law_lead", "_law_more"] (defScope s_l_two_right) := ⟨rfl, rfl, rfl, by decide +kernel, rfl, by decide +kernel, by decide +kernel⟩
def sp_l_two_right : SpT := fun ts S R _ => match ts with
  | [x, y] => ∃ a b c d v w, x = frT a b ∧ y = frT c d ∧ FV 67 a b v ∧ FV 67 c d w ∧ R (.bl true) S
  | _ => False
set_option maxHeartbeats 1600000 in
theorem ok_l_two_right {P : Program} {w : World} {K : PySem.W.Frag} {mg : Str → Option Value} {base : Heap} {f : Addr} {fd : FuncData} {g_l_less g_compare g_quotient g_product : Addr} {gd_l_less : FuncData} {gd_compare : FuncData} {gd_quotient : FuncData} (F : Fun K "_law_two_right" "_law_two_right" s_l_two_right f fd)
    (G_l_less : FnT P w K mg base 1 g_l_less gd_l_less ["_law_lead", "_law_more"] sp_l_less)
    (m_l_less : mg "_law_less" = some (.ref g_l_less))
    (k_l_less : PySem.W.keepIn K (.ref g_l_less) = true)
    (b_l_less : Binds K gd_l_less ["_law_lead", "_law_more"] [])
    (G_compare : FnT P w K mg base 5 g_compare gd_compare ["one", "other"] sp_compare)
    (m_compare : mg "compare" = some (.ref g_compare))
    (k_compare : PySem.W.keepIn K (.ref g_compare) = true)
    (b_compare : Binds K gd_compare ["one", "other"] [])
    (G_quotient : FnT P w K mg base 5 g_quotient gd_quotient ["one", "other"] sp_quotient)
    (m_quotient : mg "quotient" = some (.ref g_quotient))
    (k_quotient : PySem.W.keepIn K (.ref g_quotient) = true)
    (b_quotient : Binds K gd_quotient ["one", "other"] [])
    (G_product : FnS P w K mg base 5 g_product sp_productN)
    (m_product : mg "product" = some (.ref g_product))
    (k_product : PySem.W.keepIn K (.ref g_product) = true)
    : FnT P w K mg base 6 f fd ["_law_lead", "_law_more"] sp_l_two_right := by
  refine okT F sc_l_two_right (by intro ts S R RE h; unfold sp_l_two_right at h; split at h <;> first | rfl | exact h.elim) (fun cdv A out s H E hg hr => (bs_cons (ss_par (i := 2) (j := 3) (by rfl) sc_l_two_right.nd rfl rfl (by decide) rfl rfl (at_cons (et_callS G_product hg (hr.mono (by decide)) (by rfl) m_product k_product (passL2N (L2N.takes_of rfl rfl rfl rfl)) (at_cons (et_var (pv 0)) (at_cons (et_var (pv 1)) at_nil))) (at_cons (et_callD G_quotient hg (hr.mono (by decide)) (by rfl) m_quotient k_quotient (CallD.all b_quotient) (passL2N (L2N.takes_of rfl rfl rfl rfl)) (at_cons (et_var (pv 0)) (at_cons (et_var (pv 1)) at_nil))) at_nil)) (by rfl))
    (bs_cons (ss_if (tt_w (tw_or (tt_cmp (op_neG hr.units) cv_ne (et_callD G_quotient hg (hr.mono (by decide)) (by rfl) m_quotient k_quotient (CallD.all b_quotient) (passL2N (L2N.takes_of rfl rfl rfl rfl)) (at_cons (et_var (pv 2)) (at_cons (et_var (pv 1)) at_nil))) (et_var (pv 0)) (nomark _)) (tw_or (tt_cmp (op_neG hr.units) cv_ne (et_callS G_product hg (hr.mono (by decide)) (by rfl) m_product k_product (passL2N (L2N.takes_of rfl rfl rfl rfl)) (at_cons (et_var (pv 3)) (at_cons (et_var (pv 1)) at_nil))) (et_var (pv 0)) (nomark _)) (tw_or1 (tt_cmp (op_neG hr.units) cv_ne (et_callS G_product hg (hr.mono (by decide)) (by rfl) m_product k_product (passL2N (L2N.takes_of rfl rfl rfl rfl)) (at_cons (et_var (pv 1)) (at_cons (et_var (pv 0)) at_nil))) (et_var (pv 2)) (nomark _)))))) (bs_one (ss_ret et_bl)) bs_nil)
    (bs_cons (ss_if (tt_w (tw_or (tt_cmp (op_neG hr.units) cv_ne (et_callD G_quotient hg (hr.mono (by decide)) (by rfl) m_quotient k_quotient (CallD.all b_quotient) (passL2N (L2N.takes_of rfl rfl rfl rfl)) (at_cons (et_var (pv 0)) (at_cons (et_var (pv 0)) at_nil))) (et_tup (at_cons et_int (at_cons et_int at_nil))) (nomark _)) (tw_or1 (tt_cmp (op_neG hr.units) cv_ne (et_callS G_product hg (hr.mono (by decide)) (by rfl) m_product k_product (passL2N (L2N.takes_of rfl rfl rfl rfl)) (at_cons (et_var (pv 3)) (at_cons (et_callD G_quotient hg (hr.mono (by decide)) (by rfl) m_quotient k_quotient (CallD.all b_quotient) (passL2N (L2N.takes_of rfl rfl rfl rfl)) (at_cons (et_var (pv 1)) (at_cons (et_var (pv 0)) at_nil))) at_nil))) (et_tup (at_cons et_int (at_cons et_int at_nil))) (nomark _))))) (bs_one (ss_ret et_bl)) bs_nil)
    (bs_cons (ss_if (tt_w (tw_or (tt_cmp (op_neG hr.units) cv_ne (et_callD G_quotient hg (hr.mono (by decide)) (by rfl) m_quotient k_quotient (CallD.all b_quotient) (passL2N (L2N.takes_of rfl rfl rfl rfl)) (at_cons (et_tup (at_cons et_int (at_cons et_int at_nil))) (at_cons (et_var (pv 3)) at_nil))) (et_callD G_quotient hg (hr.mono (by decide)) (by rfl) m_quotient k_quotient (CallD.all b_quotient) (passL2N (L2N.takes_of rfl rfl rfl rfl)) (at_cons (et_var (pv 1)) (at_cons (et_var (pv 0)) at_nil))) (nomark _)) (tw_or (tt_cmp (op_neG hr.units) cv_ne (et_callS G_product hg (hr.mono (by decide)) (by rfl) m_product k_product (passL2N (L2N.takes_of rfl rfl rfl rfl)) (at_cons (et_var (pv 0)) at_nil)) (et_var (pv 0)) (nomark _)) (tw_or1 (tt_cmp (op_neG hr.units) cv_ne (et_callD G_quotient hg (hr.mono (by decide)) (by rfl) m_quotient k_quotient (CallD.all b_quotient) (passL2N (L2N.takes_of rfl rfl rfl rfl)) (at_cons (et_var (pv 0)) (at_cons (et_tup (at_cons et_int (at_cons et_int at_nil))) at_nil))) (et_var (pv 0)) (nomark _)))))) (bs_one (ss_ret et_bl)) bs_nil)
    (bs_cons (ss_set (i := 4) sc_l_two_right.nd rfl (by first | exact Or.inl rfl | exact Or.inr rfl) (et_callD G_compare hg (hr.mono (by decide)) (by rfl) m_compare k_compare (CallD.all b_compare) (passL2N (L2N.takes_of rfl rfl rfl rfl)) (at_cons (et_var (pv 0)) (at_cons (et_var (pv 1)) at_nil))))
    (bs_cons (ss_if (tt_w (tw_or (tt_cmp (op_neG hr.units) cv_ne (et_var (pv 4)) (et_op op_sub cv_I2n et_int (et_callD G_compare hg (hr.mono (by decide)) (by rfl) m_compare k_compare (CallD.all b_compare) (passL2N (L2N.takes_of rfl rfl rfl rfl)) (at_cons (et_var (pv 1)) (at_cons (et_var (pv 0)) at_nil)))) (nomark _)) (tw_or (tt_cmp (op_neG hr.units) cv_ne (et_cmp (op_eqG hr.units) cv_eq (et_var (pv 4)) et_int (nomark _)) (et_cmp (op_eqG hr.units) cv_eq (et_var (pv 0)) (et_var (pv 1)) (nomark _)) (nomark _)) (tw_or1 (tt_cmp (op_neG hr.units) cv_ne (et_var (pv 4)) (et_callD G_compare hg (hr.mono (by decide)) (by rfl) m_compare k_compare (CallD.all b_compare) (passL2N (L2N.takes_of rfl rfl rfl rfl)) (at_cons (et_var (pv 3)) (at_cons (et_tup (at_cons et_int (at_cons et_int at_nil))) at_nil))) (nomark _)))))) (bs_one (ss_ret et_bl)) bs_nil)
    (bs_one (ss_ret (et_cmp (op_eqG hr.units) cv_eq (et_cmp op_lt cv_B2n (et_var (pv 4)) et_int (nomark _)) (et_callD G_l_less hg (hr.mono (by decide)) (by rfl) m_l_less k_l_less (CallD.all b_l_less) (passL2N (L2N.takes_of rfl rfl rfl rfl)) (at_cons (et_var (pv 0)) (at_cons (et_var (pv 1)) at_nil))) (nomark _))))))))))) ?_
  intro ts S R RE h
  unfold sp_l_two_right at h
  split at h
  · rename_i x y
    obtain ⟨a, b, c, d, v, w, rfl, rfl, h, k, q⟩ := h
    have hp := h.pos
    have kp := k.pos
    refine sSeq_i fun N hN => ?_
    simp only [sSeq, sAsg, sDrop, sRet, sRetN, sIf, sNext, sPar, sPar3, sFor, sRaise, sFldT, sNo, rNo, rVar, rFrz, rC, rBin, rTest, bAnd, bOr, bNot, bIf, vAnd, vOr, vNot, rIf, rNeg, aNil, aCons, rTup, rLst, rLstC, rArgs, gNameT, gNilT, gConsT, gTupT, gSubT, iSeq, iRng1T, iRng2T, rLc, rCall, rCallN, rCallS, rFld, rCon, rMake, rMakeN, rMakeP, rMeth, rMethK, rProp, rClsFn, rOpOwn, rSl, oNone, oSome, rFmt, kFmt, rJs, rLidx, rChain, rTru, truT, rStr0, rPart, rSplit, kIntS, gStarT, kStrOwn, kAddC, rDct, kInt1, iEnumT, rMakeStar, rJoin, iZipM, rLcP, kLenOwn, kBoolOwn, rCMeth, rClsStar, rClsMake, rLz, rRevL, rRev2, rCMethK, rExcV, rMut, kAdd, kI2, kI2n, kMul, kIx, kIn, kLen, kU, kA2, kDm, kStrI, kAll, kSl, kAppend, kExtend, kTuple, kList, lenT, seqOf, bYes, startT, one, pickG, selG, insOf, putT, flatT, Bool.false_xor, Bool.true_xor, List.all_cons, List.all_nil, Bool.and_self, T.int.injEq, T.bl.injEq, T.str.injEq, T.lst.injEq, T.tup.injEq, T.cell.injEq, T.ins.injEq, Cell.lst.injEq, Cell.ins.injEq, Prod.mk.injEq, List.cons.injEq, Option.some.injEq, List.map_cons, List.map_nil, List.length_cons, List.length_nil, List.cons_append, List.nil_append, List.append_nil, List.getElem?_cons_zero, List.getElem?_cons_succ, List.set_cons_zero, List.set_cons_succ, List.replicate_succ, List.replicate_zero, exists_eq_left, exists_eq_left', exists_and_left, and_true, true_and, and_self, and_assoc, Nat.sub_self, Nat.reduceAdd, Nat.reduceSub, Nat.zero_add, put_put, put_same, reduceIte, Bool.false_eq_true, Bool.true_eq_false, Bool.not_true, Bool.not_false, at_0, at_1, at_2, at_3, at_4, at_5, at_6, at_7, ix_1_0, ix_2_0, ix_2_1, ix_3_0, ix_3_1, ix_3_2, ix_4_0, ix_4_1, ix_4_2, ix_4_3]
    refine prod_2 h k (by decide) fun A B f => quot_V h k (by decide) fun C D g => hN _ _ ?_
    clear hN
    refine sSeq_i fun N hN => ?_
    simp only [sSeq, sAsg, sDrop, sRet, sRetN, sIf, sNext, sPar, sPar3, sFor, sRaise, sFldT, sNo, rNo, rVar, rFrz, rC, rBin, rTest, bAnd, bOr, bNot, bIf, vAnd, vOr, vNot, rIf, rNeg, aNil, aCons, rTup, rLst, rLstC, rArgs, gNameT, gNilT, gConsT, gTupT, gSubT, iSeq, iRng1T, iRng2T, rLc, rCall, rCallN, rCallS, rFld, rCon, rMake, rMakeN, rMakeP, rMeth, rMethK, rProp, rClsFn, rOpOwn, rSl, oNone, oSome, rFmt, kFmt, rJs, rLidx, rChain, rTru, truT, rStr0, rPart, rSplit, kIntS, gStarT, kStrOwn, kAddC, rDct, kInt1, iEnumT, rMakeStar, rJoin, iZipM, rLcP, kLenOwn, kBoolOwn, rCMeth, rClsStar, rClsMake, rLz, rRevL, rRev2, rCMethK, rExcV, rMut, kAdd, kI2, kI2n, kMul, kIx, kIn, kLen, kU, kA2, kDm, kStrI, kAll, kSl, kAppend, kExtend, kTuple, kList, lenT, seqOf, bYes, startT, one, pickG, selG, insOf, putT, flatT, Bool.false_xor, Bool.true_xor, List.all_cons, List.all_nil, Bool.and_self, T.int.injEq, T.bl.injEq, T.str.injEq, T.lst.injEq, T.tup.injEq, T.cell.injEq, T.ins.injEq, Cell.lst.injEq, Cell.ins.injEq, Prod.mk.injEq, List.cons.injEq, Option.some.injEq, List.map_cons, List.map_nil, List.length_cons, List.length_nil, List.cons_append, List.nil_append, List.append_nil, List.getElem?_cons_zero, List.getElem?_cons_succ, List.set_cons_zero, List.set_cons_succ, List.replicate_succ, List.replicate_zero, exists_eq_left, exists_eq_left', exists_and_left, and_true, true_and, and_self, and_assoc, Nat.sub_self, Nat.reduceAdd, Nat.reduceSub, Nat.zero_add, put_put, put_same, reduceIte, Bool.false_eq_true, Bool.true_eq_false, Bool.not_true, Bool.not_false, at_0, at_1, at_2, at_3, at_4, at_5, at_6, at_7, ix_1_0, ix_2_0, ix_2_1, ix_3_0, ix_3_1, ix_3_2, ix_4_0, ix_4_1, ix_4_2, ix_4_3]
    refine quot_V f k (by decide) fun A1 B1 f1 => ne_V f1 h (by grind) ⟨_, rfl, ?_⟩
    rw [if_neg Bool.false_ne_true]
    refine prod_2 g k (by decide) fun A1 B1 f1 => ne_V f1 h (by grind) ⟨_, rfl, ?_⟩
    rw [if_neg Bool.false_ne_true]
    refine prod_2 k h (by decide) fun A1 B1 f1 => ne_V f1 f (by grind) ⟨_, rfl, ?_⟩
    rw [if_neg Bool.false_ne_true]
    refine hN _ _ ?_
    clear hN
    refine sSeq_i fun N hN => ?_
    simp only [sSeq, sAsg, sDrop, sRet, sRetN, sIf, sNext, sPar, sPar3, sFor, sRaise, sFldT, sNo, rNo, rVar, rFrz, rC, rBin, rTest, bAnd, bOr, bNot, bIf, vAnd, vOr, vNot, rIf, rNeg, aNil, aCons, rTup, rLst, rLstC, rArgs, gNameT, gNilT, gConsT, gTupT, gSubT, iSeq, iRng1T, iRng2T, rLc, rCall, rCallN, rCallS, rFld, rCon, rMake, rMakeN, rMakeP, rMeth, rMethK, rProp, rClsFn, rOpOwn, rSl, oNone, oSome, rFmt, kFmt, rJs, rLidx, rChain, rTru, truT, rStr0, rPart, rSplit, kIntS, gStarT, kStrOwn, kAddC, rDct, kInt1, iEnumT, rMakeStar, rJoin, iZipM, rLcP, kLenOwn, kBoolOwn, rCMeth, rClsStar, rClsMake, rLz, rRevL, rRev2, rCMethK, rExcV, rMut, kAdd, kI2, kI2n, kMul, kIx, kIn, kLen, kU, kA2, kDm, kStrI, kAll, kSl, kAppend, kExtend, kTuple, kList, lenT, seqOf, bYes, startT, one, pickG, selG, insOf, putT, flatT, Bool.false_xor, Bool.true_xor, List.all_cons, List.all_nil, Bool.and_self, T.int.injEq, T.bl.injEq, T.str.injEq, T.lst.injEq, T.tup.injEq, T.cell.injEq, T.ins.injEq, Cell.lst.injEq, Cell.ins.injEq, Prod.mk.injEq, List.cons.injEq, Option.some.injEq, List.map_cons, List.map_nil, List.length_cons, List.length_nil, List.cons_append, List.nil_append, List.append_nil, List.getElem?_cons_zero, List.getElem?_cons_succ, List.set_cons_zero, List.set_cons_succ, List.replicate_succ, List.replicate_zero, exists_eq_left, exists_eq_left', exists_and_left, and_true, true_and, and_self, and_assoc, Nat.sub_self, Nat.reduceAdd, Nat.reduceSub, Nat.zero_add, put_put, put_same, reduceIte, Bool.false_eq_true, Bool.true_eq_false, Bool.not_true, Bool.not_false, at_0, at_1, at_2, at_3, at_4, at_5, at_6, at_7, ix_1_0, ix_2_0, ix_2_1, ix_3_0, ix_3_1, ix_3_2, ix_4_0, ix_4_1, ix_4_2, ix_4_3]
    refine quot_V h h (by decide) fun A1 B1 f1 => ⟨by decide, ne_V f1 fv_one (by grind) ⟨_, rfl, ?_⟩⟩
    rw [if_neg Bool.false_ne_true]
    refine quot_V k h (by decide) fun A1 B1 f1 => prod_2 g f1 (by decide) fun A2 B2 f2 => ⟨by decide, ne_V f2 fv_one (by grind) ⟨_, rfl, ?_⟩⟩
    rw [if_neg Bool.false_ne_true]
    refine hN _ _ ?_
    clear hN
    refine sSeq_i fun N hN => ?_
    simp only [sSeq, sAsg, sDrop, sRet, sRetN, sIf, sNext, sPar, sPar3, sFor, sRaise, sFldT, sNo, rNo, rVar, rFrz, rC, rBin, rTest, bAnd, bOr, bNot, bIf, vAnd, vOr, vNot, rIf, rNeg, aNil, aCons, rTup, rLst, rLstC, rArgs, gNameT, gNilT, gConsT, gTupT, gSubT, iSeq, iRng1T, iRng2T, rLc, rCall, rCallN, rCallS, rFld, rCon, rMake, rMakeN, rMakeP, rMeth, rMethK, rProp, rClsFn, rOpOwn, rSl, oNone, oSome, rFmt, kFmt, rJs, rLidx, rChain, rTru, truT, rStr0, rPart, rSplit, kIntS, gStarT, kStrOwn, kAddC, rDct, kInt1, iEnumT, rMakeStar, rJoin, iZipM, rLcP, kLenOwn, kBoolOwn, rCMeth, rClsStar, rClsMake, rLz, rRevL, rRev2, rCMethK, rExcV, rMut, kAdd, kI2, kI2n, kMul, kIx, kIn, kLen, kU, kA2, kDm, kStrI, kAll, kSl, kAppend, kExtend, kTuple, kList, lenT, seqOf, bYes, startT, one, pickG, selG, insOf, putT, flatT, Bool.false_xor, Bool.true_xor, List.all_cons, List.all_nil, Bool.and_self, T.int.injEq, T.bl.injEq, T.str.injEq, T.lst.injEq, T.tup.injEq, T.cell.injEq, T.ins.injEq, Cell.lst.injEq, Cell.ins.injEq, Prod.mk.injEq, List.cons.injEq, Option.some.injEq, List.map_cons, List.map_nil, List.length_cons, List.length_nil, List.cons_append, List.nil_append, List.append_nil, List.getElem?_cons_zero, List.getElem?_cons_succ, List.set_cons_zero, List.set_cons_succ, List.replicate_succ, List.replicate_zero, exists_eq_left, exists_eq_left', exists_and_left, and_true, true_and, and_self, and_assoc, Nat.sub_self, Nat.reduceAdd, Nat.reduceSub, Nat.zero_add, put_put, put_same, reduceIte, Bool.false_eq_true, Bool.true_eq_false, Bool.not_true, Bool.not_false, at_0, at_1, at_2, at_3, at_4, at_5, at_6, at_7, ix_1_0, ix_2_0, ix_2_1, ix_3_0, ix_3_1, ix_3_2, ix_4_0, ix_4_1, ix_4_2, ix_4_3]
    refine ⟨by decide, quot_V fv_one g (by decide) fun A1 B1 f1 => quot_V k h (by decide) fun A2 B2 f2 => ne_V f1 f2 (by grind) ⟨_, rfl, ?_⟩⟩
    rw [if_neg Bool.false_ne_true]
    refine prod_1 h (by decide) fun A1 B1 f1 => ne_V f1 h rfl ⟨_, rfl, ?_⟩
    rw [if_neg Bool.false_ne_true]
    refine ⟨by decide, quot_V h fv_one (by decide) fun A1 B1 f1 => ne_V f1 h (by grind) ⟨_, rfl, ?_⟩⟩
    rw [if_neg Bool.false_ne_true]
    refine hN _ _ ?_
    clear hN
    refine sSeq_i fun N hN => ?_
    simp only [sSeq, sAsg, sDrop, sRet, sRetN, sIf, sNext, sPar, sPar3, sFor, sRaise, sFldT, sNo, rNo, rVar, rFrz, rC, rBin, rTest, bAnd, bOr, bNot, bIf, vAnd, vOr, vNot, rIf, rNeg, aNil, aCons, rTup, rLst, rLstC, rArgs, gNameT, gNilT, gConsT, gTupT, gSubT, iSeq, iRng1T, iRng2T, rLc, rCall, rCallN, rCallS, rFld, rCon, rMake, rMakeN, rMakeP, rMeth, rMethK, rProp, rClsFn, rOpOwn, rSl, oNone, oSome, rFmt, kFmt, rJs, rLidx, rChain, rTru, truT, rStr0, rPart, rSplit, kIntS, gStarT, kStrOwn, kAddC, rDct, kInt1, iEnumT, rMakeStar, rJoin, iZipM, rLcP, kLenOwn, kBoolOwn, rCMeth, rClsStar, rClsMake, rLz, rRevL, rRev2, rCMethK, rExcV, rMut, kAdd, kI2, kI2n, kMul, kIx, kIn, kLen, kU, kA2, kDm, kStrI, kAll, kSl, kAppend, kExtend, kTuple, kList, lenT, seqOf, bYes, startT, one, pickG, selG, insOf, putT, flatT, Bool.false_xor, Bool.true_xor, List.all_cons, List.all_nil, Bool.and_self, T.int.injEq, T.bl.injEq, T.str.injEq, T.lst.injEq, T.tup.injEq, T.cell.injEq, T.ins.injEq, Cell.lst.injEq, Cell.ins.injEq, Prod.mk.injEq, List.cons.injEq, Option.some.injEq, List.map_cons, List.map_nil, List.length_cons, List.length_nil, List.cons_append, List.nil_append, List.append_nil, List.getElem?_cons_zero, List.getElem?_cons_succ, List.set_cons_zero, List.set_cons_succ, List.replicate_succ, List.replicate_zero, exists_eq_left, exists_eq_left', exists_and_left, and_true, true_and, and_self, and_assoc, Nat.sub_self, Nat.reduceAdd, Nat.reduceSub, Nat.zero_add, put_put, put_same, reduceIte, Bool.false_eq_true, Bool.true_eq_false, Bool.not_true, Bool.not_false, at_0, at_1, at_2, at_3, at_4, at_5, at_6, at_7, ix_1_0, ix_2_0, ix_2_1, ix_3_0, ix_3_1, ix_3_2, ix_4_0, ix_4_1, ix_4_2, ix_4_3]
    refine comp_V h k (by decide) (hN _ _ ?_)
    clear hN
    refine sSeq_i fun N hN => ?_
    simp only [sSeq, sAsg, sDrop, sRet, sRetN, sIf, sNext, sPar, sPar3, sFor, sRaise, sFldT, sNo, rNo, rVar, rFrz, rC, rBin, rTest, bAnd, bOr, bNot, bIf, vAnd, vOr, vNot, rIf, rNeg, aNil, aCons, rTup, rLst, rLstC, rArgs, gNameT, gNilT, gConsT, gTupT, gSubT, iSeq, iRng1T, iRng2T, rLc, rCall, rCallN, rCallS, rFld, rCon, rMake, rMakeN, rMakeP, rMeth, rMethK, rProp, rClsFn, rOpOwn, rSl, oNone, oSome, rFmt, kFmt, rJs, rLidx, rChain, rTru, truT, rStr0, rPart, rSplit, kIntS, gStarT, kStrOwn, kAddC, rDct, kInt1, iEnumT, rMakeStar, rJoin, iZipM, rLcP, kLenOwn, kBoolOwn, rCMeth, rClsStar, rClsMake, rLz, rRevL, rRev2, rCMethK, rExcV, rMut, kAdd, kI2, kI2n, kMul, kIx, kIn, kLen, kU, kA2, kDm, kStrI, kAll, kSl, kAppend, kExtend, kTuple, kList, lenT, seqOf, bYes, startT, one, pickG, selG, insOf, putT, flatT, Bool.false_xor, Bool.true_xor, List.all_cons, List.all_nil, Bool.and_self, T.int.injEq, T.bl.injEq, T.str.injEq, T.lst.injEq, T.tup.injEq, T.cell.injEq, T.ins.injEq, Cell.lst.injEq, Cell.ins.injEq, Prod.mk.injEq, List.cons.injEq, Option.some.injEq, List.map_cons, List.map_nil, List.length_cons, List.length_nil, List.cons_append, List.nil_append, List.append_nil, List.getElem?_cons_zero, List.getElem?_cons_succ, List.set_cons_zero, List.set_cons_succ, List.replicate_succ, List.replicate_zero, exists_eq_left, exists_eq_left', exists_and_left, and_true, true_and, and_self, and_assoc, Nat.sub_self, Nat.reduceAdd, Nat.reduceSub, Nat.zero_add, put_put, put_same, reduceIte, Bool.false_eq_true, Bool.true_eq_false, Bool.not_true, Bool.not_false, at_0, at_1, at_2, at_3, at_4, at_5, at_6, at_7, ix_1_0, ix_2_0, ix_2_1, ix_3_0, ix_3_1, ix_3_2, ix_4_0, ix_4_1, ix_4_2, ix_4_3]
    refine comp_V k h (by decide) (ne_I (sgnR_neg w v) ⟨_, rfl, ?_⟩)
    rw [if_neg Bool.false_ne_true]
    refine eqI0 (eq_V h k (ne_B (by rw [Bool.false_xor]; exact sgnR_zero v w) ⟨_, rfl, ?_⟩))
    rw [if_neg Bool.false_ne_true]
    refine ⟨by decide, comp_V g fv_one (by decide) (ne_I (sgnR_div kp).symm ⟨_, rfl, ?_⟩)⟩
    rw [if_neg Bool.false_ne_true]
    refine hN _ _ ?_
    clear hN
    simp only [sp_l_less, frT, sSeq, sAsg, sDrop, sRet, sRetN, sIf, sNext, sPar, sPar3, sFor, sRaise, sFldT, sNo, rNo, rVar, rFrz, rC, rBin, rTest, bAnd, bOr, bNot, bIf, vAnd, vOr, vNot, rIf, rNeg, aNil, aCons, rTup, rLst, rLstC, rArgs, gNameT, gNilT, gConsT, gTupT, gSubT, iSeq, iRng1T, iRng2T, rLc, rCall, rCallN, rCallS, rFld, rCon, rMake, rMakeN, rMakeP, rMeth, rMethK, rProp, rClsFn, rOpOwn, rSl, oNone, oSome, rFmt, kFmt, rJs, rLidx, rChain, rTru, truT, rStr0, rPart, rSplit, kIntS, gStarT, kStrOwn, kAddC, rDct, kInt1, iEnumT, rMakeStar, rJoin, iZipM, rLcP, kLenOwn, kBoolOwn, rCMeth, rClsStar, rClsMake, rLz, rRevL, rRev2, rCMethK, rExcV, rMut, kAdd, kI2, kI2n, kMul, kIx, kIn, kLen, kU, kA2, kDm, kStrI, kAll, kSl, kAppend, kExtend, kTuple, kList, lenT, seqOf, bYes, startT, one, pickG, selG, insOf, putT, flatT, Bool.false_xor, Bool.true_xor, List.all_cons, List.all_nil, Bool.and_self, T.int.injEq, T.bl.injEq, T.str.injEq, T.lst.injEq, T.tup.injEq, T.cell.injEq, T.ins.injEq, Cell.lst.injEq, Cell.ins.injEq, Prod.mk.injEq, List.cons.injEq, Option.some.injEq, List.map_cons, List.map_nil, List.length_cons, List.length_nil, List.cons_append, List.nil_append, List.append_nil, List.getElem?_cons_zero, List.getElem?_cons_succ, List.set_cons_zero, List.set_cons_succ, List.replicate_succ, List.replicate_zero, exists_eq_left, exists_eq_left', exists_and_left, and_true, true_and, and_self, and_assoc, Nat.sub_self, Nat.reduceAdd, Nat.reduceSub, Nat.zero_add, put_put, put_same, reduceIte, Bool.false_eq_true, Bool.true_eq_false, Bool.not_true, Bool.not_false, at_0, at_1, at_2, at_3, at_4, at_5, at_6, at_7, ix_1_0, ix_2_0, ix_2_1, ix_3_0, ix_3_1, ix_3_2, ix_4_0, ix_4_1, ix_4_2, ix_4_3]
    refine ⟨h.f.a.up (by decide), h.f.b.up (by decide), k.f.a.up (by decide), k.f.b.up (by decide), ?_⟩
    have e : decide (a * d < c * b) = decide (sgnR v w < 0) := by
      rw [sgnR_lt, ← h.v, ← k.v]
      exact decide_eq_decide.mpr (rv_lt h.f.b.pos k.f.b.pos)
    rw [e]
    refine .inl ⟨rfl, ?_⟩
    simpa [eqS] using q
  · exact h.elim
theorem sc_l_kept_right : FnScope ["_law_found"] ["_law_found"] (defScope s_l_kept_right) := ⟨rfl, rfl, rfl, by decide +kernel, rfl, by decide +kernel, by decide +kernel⟩
def sp_l_kept (K : PySem.W.Frag) : SpT := fun ts S R _ => match ts with
  | [x] => ∃ a b, x = frT a b ∧ Fr 1900 a b ∧ R (.bl true) S
  | _ => False
set_option maxHeartbeats 1600000 in
theorem ok_l_kept_right {P : Program} {w : World} {K : PySem.W.Frag} {mg : Str → Option Value} {base : Heap} {f : Addr} {fd : FuncData} {g_compare g_fraction g_parse_fraction g_format_fraction g_is_fraction : Addr} {gd_compare : FuncData} {gd_fraction : FuncData} {gd_parse_fraction : FuncData} {gd_format_fraction : FuncData} {gd_is_fraction : FuncData} (F : Fun K "_law_kept_right" "_law_kept_right" s_l_kept_right f fd)
    (G_compare : FnT P w K mg base 5 g_compare gd_compare ["one", "other"] sp_compare)
    (m_compare : mg "compare" = some (.ref g_compare))
    (k_compare : PySem.W.keepIn K (.ref g_compare) = true)
    (b_compare : Binds K gd_compare ["one", "other"] [])
    (G_fraction : FnT P w K mg base 3 g_fraction gd_fraction ["top", "bottom"] sp_fraction)
    (m_fraction : mg "fraction" = some (.ref g_fraction))
    (k_fraction : PySem.W.keepIn K (.ref g_fraction) = true)
    (b_fraction : Binds K gd_fraction ["top", "bottom"] [])
    (G_parse_fraction : FnT P w K mg base 7 g_parse_fraction gd_parse_fraction ["text"] (sp_parse_fraction K))
    (m_parse_fraction : mg "parse_fraction" = some (.ref g_parse_fraction))
    (k_parse_fraction : PySem.W.keepIn K (.ref g_parse_fraction) = true)
    (b_parse_fraction : Binds K gd_parse_fraction ["text"] [])
    (G_format_fraction : FnT P w K mg base 5 g_format_fraction gd_format_fraction ["number"] (sp_format_fraction K))
    (m_format_fraction : mg "format_fraction" = some (.ref g_format_fraction))
    (k_format_fraction : PySem.W.keepIn K (.ref g_format_fraction) = true)
    (b_format_fraction : Binds K gd_format_fraction ["number"] [])
    (G_is_fraction : FnT P w K mg base 3 g_is_fraction gd_is_fraction ["value"] (sp_is_fraction K))
    (m_is_fraction : mg "is_fraction" = some (.ref g_is_fraction))
    (k_is_fraction : PySem.W.keepIn K (.ref g_is_fraction) = true)
    (b_is_fraction : Binds K gd_is_fraction ["value"] [])
    : FnT P w K mg base 8 f fd ["_law_found"] (sp_l_kept K) := by
  refine okT F sc_l_kept_right (by intro ts S R RE h; unfold sp_l_kept at h; split at h <;> first | rfl | exact h.elim) (fun cdv A out s H E hg hr => (bs_cons (ss_if (tt_w (tw_or (tt_not (tt_val (et_callD G_is_fraction hg (hr.mono (by decide)) (by rfl) m_is_fraction k_is_fraction (CallD.all b_is_fraction) (passL2N (L2N.takes_of rfl rfl rfl rfl)) (at_cons (et_var (pv 0)) at_nil)))) (tw_or1 (tt_cmp (op_neG hr.units) cv_ne (et_callD G_parse_fraction hg (hr.mono (by decide)) (by rfl) m_parse_fraction k_parse_fraction (CallD.all b_parse_fraction) (passL2N (L2N.takes_of rfl rfl rfl rfl)) (at_cons (et_callD G_format_fraction hg (hr.mono (by decide)) (by rfl) m_format_fraction k_format_fraction (CallD.all b_format_fraction) (passL2N (L2N.takes_of rfl rfl rfl rfl)) (at_cons (et_var (pv 0)) at_nil)) at_nil)) (et_var (pv 0)) (nomark _))))) (bs_one (ss_ret et_bl)) bs_nil)
    (bs_one (ss_ret (et_and (et_cmp (op_eqG hr.units) cv_eq (et_callD G_fraction hg (hr.mono (by decide)) (by rfl) m_fraction k_fraction (CallD.all b_fraction) (passL2N (L2N.takes_of rfl rfl rfl rfl)) (at_cons (et_ix ix_seq cv_ix (et_var (pv 0)) et_int (fun _ _ => rfl)) (at_cons (et_ix ix_seq cv_ix (et_var (pv 0)) et_int (fun _ _ => rfl)) at_nil))) (et_var (pv 0)) (nomark _)) (et_one (et_cmp (op_eqG hr.units) cv_eq (et_callD G_compare hg (hr.mono (by decide)) (by rfl) m_compare k_compare (CallD.all b_compare) (passL2N (L2N.takes_of rfl rfl rfl rfl)) (at_cons (et_var (pv 0)) (at_cons (et_var (pv 0)) at_nil))) et_int (nomark _)))))))) ?_
  intro ts S R RE h
  unfold sp_l_kept at h
  split at h
  · rename_i x
    obtain ⟨a, b, rfl, f, q⟩ := h
    have fv : FV 1900 a b (rv a b) := ⟨f, rfl⟩
    refine sSeq_i fun N hN => sIf_i fun A B hA hB => ?_
    simp only [frT, sp_is_fraction, sp_format_fraction, sp_parse_fraction, sSeq, sAsg, sDrop, sRet, sRetN, sIf, sNext, sPar, sPar3, sFor, sRaise, sFldT, sNo, rNo, rVar, rFrz, rC, rBin, rTest, bAnd, bOr, bNot, bIf, vAnd, vOr, vNot, rIf, rNeg, aNil, aCons, rTup, rLst, rLstC, rArgs, gNameT, gNilT, gConsT, gTupT, gSubT, iSeq, iRng1T, iRng2T, rLc, rCall, rCallN, rCallS, rFld, rCon, rMake, rMakeN, rMakeP, rMeth, rMethK, rProp, rClsFn, rOpOwn, rSl, oNone, oSome, rFmt, kFmt, rJs, rLidx, rChain, rTru, truT, rStr0, rPart, rSplit, kIntS, gStarT, kStrOwn, kAddC, rDct, kInt1, iEnumT, rMakeStar, rJoin, iZipM, rLcP, kLenOwn, kBoolOwn, rCMeth, rClsStar, rClsMake, rLz, rRevL, rRev2, rCMethK, rExcV, rMut, kAdd, kI2, kI2n, kMul, kIx, kIn, kLen, kU, kA2, kDm, kStrI, kAll, kSl, kAppend, kExtend, kTuple, kList, lenT, seqOf, bYes, startT, one, pickG, selG, insOf, putT, flatT, Bool.false_xor, Bool.true_xor, List.all_cons, List.all_nil, Bool.and_self, T.int.injEq, T.bl.injEq, T.str.injEq, T.lst.injEq, T.tup.injEq, T.cell.injEq, T.ins.injEq, Cell.lst.injEq, Cell.ins.injEq, Prod.mk.injEq, List.cons.injEq, Option.some.injEq, List.map_cons, List.map_nil, List.length_cons, List.length_nil, List.cons_append, List.nil_append, List.append_nil, List.getElem?_cons_zero, List.getElem?_cons_succ, List.set_cons_zero, List.set_cons_succ, List.replicate_succ, List.replicate_zero, exists_eq_left, exists_eq_left', exists_and_left, and_true, true_and, and_self, and_assoc, Nat.sub_self, Nat.reduceAdd, Nat.reduceSub, Nat.zero_add, put_put, put_same, reduceIte, Bool.false_eq_true, Bool.true_eq_false, Bool.not_true, Bool.not_false, at_0, at_1, at_2, at_3, at_4, at_5, at_6, at_7, ix_1_0, ix_2_0, ix_2_1, ix_3_0, ix_3_1, ix_3_2, ix_4_0, ix_4_1, ix_4_2, ix_4_3]
    refine ⟨f.up (by decide), f, a, b, rfl, f, ne_V fv fv rfl ⟨_, rfl, ?_⟩⟩
    rw [if_neg Bool.false_ne_true]
    refine hB _ (hN _ _ ?_)
    clear hN hA hB
    simp only [frT, sp_fraction, sSeq, sAsg, sDrop, sRet, sRetN, sIf, sNext, sPar, sPar3, sFor, sRaise, sFldT, sNo, rNo, rVar, rFrz, rC, rBin, rTest, bAnd, bOr, bNot, bIf, vAnd, vOr, vNot, rIf, rNeg, aNil, aCons, rTup, rLst, rLstC, rArgs, gNameT, gNilT, gConsT, gTupT, gSubT, iSeq, iRng1T, iRng2T, rLc, rCall, rCallN, rCallS, rFld, rCon, rMake, rMakeN, rMakeP, rMeth, rMethK, rProp, rClsFn, rOpOwn, rSl, oNone, oSome, rFmt, kFmt, rJs, rLidx, rChain, rTru, truT, rStr0, rPart, rSplit, kIntS, gStarT, kStrOwn, kAddC, rDct, kInt1, iEnumT, rMakeStar, rJoin, iZipM, rLcP, kLenOwn, kBoolOwn, rCMeth, rClsStar, rClsMake, rLz, rRevL, rRev2, rCMethK, rExcV, rMut, kAdd, kI2, kI2n, kMul, kIx, kIn, kLen, kU, kA2, kDm, kStrI, kAll, kSl, kAppend, kExtend, kTuple, kList, lenT, seqOf, bYes, startT, one, pickG, selG, insOf, putT, flatT, Bool.false_xor, Bool.true_xor, List.all_cons, List.all_nil, Bool.and_self, T.int.injEq, T.bl.injEq, T.str.injEq, T.lst.injEq, T.tup.injEq, T.cell.injEq, T.ins.injEq, Cell.lst.injEq, Cell.ins.injEq, Prod.mk.injEq, List.cons.injEq, Option.some.injEq, List.map_cons, List.map_nil, List.length_cons, List.length_nil, List.cons_append, List.nil_append, List.append_nil, List.getElem?_cons_zero, List.getElem?_cons_succ, List.set_cons_zero, List.set_cons_succ, List.replicate_succ, List.replicate_zero, exists_eq_left, exists_eq_left', exists_and_left, and_true, true_and, and_self, and_assoc, Nat.sub_self, Nat.reduceAdd, Nat.reduceSub, Nat.zero_add, put_put, put_same, reduceIte, Bool.false_eq_true, Bool.true_eq_false, Bool.not_true, Bool.not_false, at_0, at_1, at_2, at_3, at_4, at_5, at_6, at_7, ix_1_0, ix_2_0, ix_2_1, ix_3_0, ix_3_1, ix_3_2, ix_4_0, ix_4_1, ix_4_2, ix_4_3]
    refine ⟨f.a.up (by decide), f.b.up (by decide), ?_⟩
    rw [f.lwA, f.lwB]
    refine eq_V fv fv ⟨_, rfl, ?_⟩
    rw [decide_eq_true rfl, if_pos (by decide)]
    refine comp_V fv fv (by decide) (eqI0 ?_)
    rw [sgnR_zero, decide_eq_true rfl]
    exact q
  · exact h.elim
theorem sc_l_three_right : FnScope ["_law_lead", "_law_more", "_law_last", "_law_whole", "_law_sign", "_law_grand", "_law_rows", "_law_found"] ["_law_lead", "_law_more", "_law_last"] (defScope s_l_three_right) := ⟨rfl, rfl, rfl, by decide +kernel, rfl, by decide +kernel, by decide +kernel⟩
def sp_l_three (K : PySem.W.Frag) : SpT := fun ts S R _ => match ts with
  | [x, y, z] => ∃ a b c d i j v w u, x = frT a b ∧ y = frT c d ∧ z = frT i j ∧ FV 67 a b v ∧ FV 67 c d w ∧ FV 67 i j u ∧ R (.bl true) S
  | _ => False
set_option maxHeartbeats 3200000 in
theorem ok_l_three_right {P : Program} {w : World} {K : PySem.W.Frag} {mg : Str → Option Value} {base : Heap} {f : Addr} {fd : FuncData} {g_quotient g_product g_l_kept_right g_compare : Addr} {gd_quotient : FuncData} {gd_l_kept_right : FuncData} {gd_compare : FuncData} (F : Fun K "_law_three_right" "_law_three_right" s_l_three_right f fd)
    (n_all : mg "all" = none)
    (G_quotient : FnT P w K mg base 5 g_quotient gd_quotient ["one", "other"] sp_quotient)
    (m_quotient : mg "quotient" = some (.ref g_quotient))
    (k_quotient : PySem.W.keepIn K (.ref g_quotient) = true)
    (b_quotient : Binds K gd_quotient ["one", "other"] [])
    (G_product : FnS P w K mg base 5 g_product sp_productN)
    (m_product : mg "product" = some (.ref g_product))
    (k_product : PySem.W.keepIn K (.ref g_product) = true)
    (G_l_kept_right : FnT P w K mg base 8 g_l_kept_right gd_l_kept_right ["_law_found"] (sp_l_kept K))
    (m_l_kept_right : mg "_law_kept_right" = some (.ref g_l_kept_right))
    (k_l_kept_right : PySem.W.keepIn K (.ref g_l_kept_right) = true)
    (b_l_kept_right : Binds K gd_l_kept_right ["_law_found"] [])
    (G_compare : FnT P w K mg base 5 g_compare gd_compare ["one", "other"] sp_compare)
    (m_compare : mg "compare" = some (.ref g_compare))
    (k_compare : PySem.W.keepIn K (.ref g_compare) = true)
    (b_compare : Binds K gd_compare ["one", "other"] [])
    : FnT P w K mg base 9 f fd ["_law_lead", "_law_more", "_law_last"] (sp_l_three K) := by
  refine okT F sc_l_three_right (by intro ts S R RE h; unfold sp_l_three at h; split at h <;> first | rfl | exact h.elim) (fun cdv A out s H E hg hr => (bs_cons (ss_set (i := 3) sc_l_three_right.nd rfl (by first | exact Or.inl rfl | exact Or.inr rfl) (et_callS G_product hg (hr.mono (by decide)) (by rfl) m_product k_product (passL2N (L2N.takes_of rfl rfl rfl rfl)) (at_cons (et_var (pv 0)) (at_cons (et_var (pv 1)) (at_cons (et_var (pv 2)) at_nil)))))
    (bs_cons (ss_if (tt_w (tw_or (tt_cmp (op_neG hr.units) cv_ne (et_var (pv 3)) (et_callS G_product hg (hr.mono (by decide)) (by rfl) m_product k_product (passL2N (L2N.takes_of rfl rfl rfl rfl)) (at_cons (et_var (pv 0)) (at_cons (et_callS G_product hg (hr.mono (by decide)) (by rfl) m_product k_product (passL2N (L2N.takes_of rfl rfl rfl rfl)) (at_cons (et_var (pv 1)) (at_cons (et_var (pv 2)) at_nil))) at_nil))) (nomark _)) (tw_or1 (tt_cmp (op_neG hr.units) cv_ne (et_var (pv 3)) (et_callS G_product hg (hr.mono (by decide)) (by rfl) m_product k_product (passL2N (L2N.takes_of rfl rfl rfl rfl)) (at_cons (et_callS G_product hg (hr.mono (by decide)) (by rfl) m_product k_product (passL2N (L2N.takes_of rfl rfl rfl rfl)) (at_cons (et_var (pv 2)) (at_cons (et_var (pv 0)) at_nil))) (at_cons (et_var (pv 1)) at_nil))) (nomark _))))) (bs_one (ss_ret et_bl)) bs_nil)
    (bs_cons (ss_if (tt_cmp (op_neG hr.units) cv_ne (et_callD G_quotient hg (hr.mono (by decide)) (by rfl) m_quotient k_quotient (CallD.all b_quotient) (passL2N (L2N.takes_of rfl rfl rfl rfl)) (at_cons (et_callD G_quotient hg (hr.mono (by decide)) (by rfl) m_quotient k_quotient (CallD.all b_quotient) (passL2N (L2N.takes_of rfl rfl rfl rfl)) (at_cons (et_var (pv 0)) (at_cons (et_var (pv 1)) at_nil))) (at_cons (et_var (pv 2)) at_nil))) (et_callD G_quotient hg (hr.mono (by decide)) (by rfl) m_quotient k_quotient (CallD.all b_quotient) (passL2N (L2N.takes_of rfl rfl rfl rfl)) (at_cons (et_var (pv 0)) (at_cons (et_callS G_product hg (hr.mono (by decide)) (by rfl) m_product k_product (passL2N (L2N.takes_of rfl rfl rfl rfl)) (at_cons (et_var (pv 1)) (at_cons (et_var (pv 2)) at_nil))) at_nil))) (nomark _)) (bs_one (ss_ret et_bl)) bs_nil)
    (bs_cons (ss_set (i := 4) sc_l_three_right.nd rfl (by first | exact Or.inl rfl | exact Or.inr rfl) (et_callD G_compare hg (hr.mono (by decide)) (by rfl) m_compare k_compare (CallD.all b_compare) (passL2N (L2N.takes_of rfl rfl rfl rfl)) (at_cons (et_var (pv 0)) (at_cons (et_var (pv 1)) at_nil))))
    (bs_cons (ss_if (tt_cmp (op_neG hr.units) cv_ne (et_callD G_compare hg (hr.mono (by decide)) (by rfl) m_compare k_compare (CallD.all b_compare) (passL2N (L2N.takes_of rfl rfl rfl rfl)) (at_cons (et_callS G_product hg (hr.mono (by decide)) (by rfl) m_product k_product (passL2N (L2N.takes_of rfl rfl rfl rfl)) (at_cons (et_var (pv 0)) (at_cons (et_var (pv 2)) at_nil))) (at_cons (et_callS G_product hg (hr.mono (by decide)) (by rfl) m_product k_product (passL2N (L2N.takes_of rfl rfl rfl rfl)) (at_cons (et_var (pv 1)) (at_cons (et_var (pv 2)) at_nil))) at_nil))) (et_var (pv 4)) (nomark _)) (bs_one (ss_ret et_bl)) bs_nil)
    (bs_cons (ss_if (tt_cmp (op_neG hr.units) cv_ne (et_callD G_compare hg (hr.mono (by decide)) (by rfl) m_compare k_compare (CallD.all b_compare) (passL2N (L2N.takes_of rfl rfl rfl rfl)) (at_cons (et_callD G_quotient hg (hr.mono (by decide)) (by rfl) m_quotient k_quotient (CallD.all b_quotient) (passL2N (L2N.takes_of rfl rfl rfl rfl)) (at_cons (et_var (pv 2)) (at_cons (et_var (pv 0)) at_nil))) (at_cons (et_callD G_quotient hg (hr.mono (by decide)) (by rfl) m_quotient k_quotient (CallD.all b_quotient) (passL2N (L2N.takes_of rfl rfl rfl rfl)) (at_cons (et_var (pv 2)) (at_cons (et_var (pv 1)) at_nil))) at_nil))) (et_op op_sub cv_I2n et_int (et_var (pv 4))) (nomark _)) (bs_one (ss_ret et_bl)) bs_nil)
    (bs_cons (ss_if (tt_w (tw_and (tt_cmp op_lt cv_B2n (et_var (pv 4)) et_int (nomark _)) (tw_and (tt_cmp op_lt cv_B2n (et_callD G_compare hg (hr.mono (by decide)) (by rfl) m_compare k_compare (CallD.all b_compare) (passL2N (L2N.takes_of rfl rfl rfl rfl)) (at_cons (et_var (pv 1)) (at_cons (et_var (pv 2)) at_nil))) et_int (nomark _)) (tw_and1 (tt_cmp op_gt cv_B2n (et_callD G_compare hg (hr.mono (by decide)) (by rfl) m_compare k_compare (CallD.all b_compare) (passL2N (L2N.takes_of rfl rfl rfl rfl)) (at_cons (et_var (pv 0)) (at_cons (et_var (pv 2)) at_nil))) et_int (nomark _)))))) (bs_one (ss_ret et_bl)) bs_nil)
    (bs_cons (ss_set (i := 5) sc_l_three_right.nd rfl (by first | exact Or.inl rfl | exact Or.inr rfl) (et_callS G_product hg (hr.mono (by decide)) (by rfl) m_product k_product (passL2N (L2N.takes_of rfl rfl rfl rfl)) (at_cons (et_var (pv 3)) (at_cons (et_var (pv 3)) (at_cons (et_var (pv 3)) (at_cons (et_callD G_quotient hg (hr.mono (by decide)) (by rfl) m_quotient k_quotient (CallD.all b_quotient) (passL2N (L2N.takes_of rfl rfl rfl rfl)) (at_cons (et_var (pv 3)) (at_cons (et_var (pv 2)) at_nil))) (at_cons (et_var (pv 0)) at_nil)))))))
    (bs_cons (ss_set (i := 6) sc_l_three_right.nd rfl (by first | exact Or.inl rfl | exact Or.inr rfl) (et_lst (at_cons (et_var (pv 3)) (at_cons (et_var (pv 5)) (at_cons (et_callD G_quotient hg (hr.mono (by decide)) (by rfl) m_quotient k_quotient (CallD.all b_quotient) (passL2N (L2N.takes_of rfl rfl rfl rfl)) (at_cons (et_var (pv 5)) (at_cons (et_var (pv 3)) at_nil))) (at_cons (et_callD G_quotient hg (hr.mono (by decide)) (by rfl) m_quotient k_quotient (CallD.all b_quotient) (passL2N (L2N.takes_of rfl rfl rfl rfl)) (at_cons (et_var (pv 0)) (at_cons (et_var (pv 1)) at_nil))) (at_cons (et_callS G_product hg (hr.mono (by decide)) (by rfl) m_product k_product (passL2N (L2N.takes_of rfl rfl rfl rfl)) (at_cons (et_var (pv 5)) (at_cons (et_var (pv 5)) at_nil))) at_nil)))))))
    (bs_one (ss_ret (et_and (et_blt (cr_all (by rfl)) cv_all (by rfl) n_all (by decide +kernel) (at_cons (et_lc (x := "_law_found") (j := 7) (by rfl) sc_l_three_right.nd (it_seq (et_var (pv 6))) (blkOk_by (own := [("_law_found", 7)]) (N := ["_law_lead", "_law_more", "_law_last", "_law_whole", "_law_sign", "_law_grand", "_law_rows", "_law_found"]) (sc := defScope s_l_three_right) (by decide +kernel)) (fun _ _ _ _ _ => pg_name (i := 7) sc_l_three_right.nd rfl (by first | exact Or.inl rfl | exact Or.inr rfl)) (fun _ _ _ _ _ => tts_nil) (fun _ _ _ _ _ => (et_callD G_l_kept_right hg (hr.mono (by decide)) (by rfl) m_l_kept_right k_l_kept_right (CallD.all b_l_kept_right) passN (at_cons (et_var (pv 7)) at_nil)))) at_nil)) (et_one (et_cmp (op_eqG hr.units) cv_eq (et_callD G_quotient hg (hr.mono (by decide)) (by rfl) m_quotient k_quotient (CallD.all b_quotient) (passL2N (L2N.takes_of rfl rfl rfl rfl)) (at_cons (et_callS G_product hg (hr.mono (by decide)) (by rfl) m_product k_product (passL2N (L2N.takes_of rfl rfl rfl rfl)) (at_cons (et_var (pv 5)) (at_cons (et_var (pv 5)) at_nil))) (at_cons (et_var (pv 5)) at_nil))) (et_var (pv 5)) (nomark _)))))))))))))))) ?_
  intro ts S R RE h
  unfold sp_l_three at h
  split at h
  · rename_i x y z
    obtain ⟨a, b, c, d, i, j, v, w, u, rfl, rfl, rfl, h, k, l, q⟩ := h
    have hp := h.pos
    have kp := k.pos
    have lp := l.pos
    refine sSeq_i fun N hN => ?_
    simp only [sSeq, sAsg, sDrop, sRet, sRetN, sIf, sNext, sPar, sPar3, sFor, sRaise, sFldT, sNo, rNo, rVar, rFrz, rC, rBin, rTest, bAnd, bOr, bNot, bIf, vAnd, vOr, vNot, rIf, rNeg, aNil, aCons, rTup, rLst, rLstC, rArgs, gNameT, gNilT, gConsT, gTupT, gSubT, iSeq, iRng1T, iRng2T, rLc, rCall, rCallN, rCallS, rFld, rCon, rMake, rMakeN, rMakeP, rMeth, rMethK, rProp, rClsFn, rOpOwn, rSl, oNone, oSome, rFmt, kFmt, rJs, rLidx, rChain, rTru, truT, rStr0, rPart, rSplit, kIntS, gStarT, kStrOwn, kAddC, rDct, kInt1, iEnumT, rMakeStar, rJoin, iZipM, rLcP, kLenOwn, kBoolOwn, rCMeth, rClsStar, rClsMake, rLz, rRevL, rRev2, rCMethK, rExcV, rMut, kAdd, kI2, kI2n, kMul, kIx, kIn, kLen, kU, kA2, kDm, kStrI, kAll, kSl, kAppend, kExtend, kTuple, kList, lenT, seqOf, bYes, startT, one, pickG, selG, insOf, putT, flatT, Bool.false_xor, Bool.true_xor, List.all_cons, List.all_nil, Bool.and_self, T.int.injEq, T.bl.injEq, T.str.injEq, T.lst.injEq, T.tup.injEq, T.cell.injEq, T.ins.injEq, Cell.lst.injEq, Cell.ins.injEq, Prod.mk.injEq, List.cons.injEq, Option.some.injEq, List.map_cons, List.map_nil, List.length_cons, List.length_nil, List.cons_append, List.nil_append, List.append_nil, List.getElem?_cons_zero, List.getElem?_cons_succ, List.set_cons_zero, List.set_cons_succ, List.replicate_succ, List.replicate_zero, exists_eq_left, exists_eq_left', exists_and_left, and_true, true_and, and_self, and_assoc, Nat.sub_self, Nat.reduceAdd, Nat.reduceSub, Nat.zero_add, put_put, put_same, reduceIte, Bool.false_eq_true, Bool.true_eq_false, Bool.not_true, Bool.not_false, at_0, at_1, at_2, at_3, at_4, at_5, at_6, at_7, ix_1_0, ix_2_0, ix_2_1, ix_3_0, ix_3_1, ix_3_2, ix_4_0, ix_4_1, ix_4_2, ix_4_3]
    refine prod_3 h k l (by decide) fun A0 B0 f0 => hN _ _ ?_
    clear hN
    refine sSeq_i fun N hN => ?_
    simp only [sSeq, sAsg, sDrop, sRet, sRetN, sIf, sNext, sPar, sPar3, sFor, sRaise, sFldT, sNo, rNo, rVar, rFrz, rC, rBin, rTest, bAnd, bOr, bNot, bIf, vAnd, vOr, vNot, rIf, rNeg, aNil, aCons, rTup, rLst, rLstC, rArgs, gNameT, gNilT, gConsT, gTupT, gSubT, iSeq, iRng1T, iRng2T, rLc, rCall, rCallN, rCallS, rFld, rCon, rMake, rMakeN, rMakeP, rMeth, rMethK, rProp, rClsFn, rOpOwn, rSl, oNone, oSome, rFmt, kFmt, rJs, rLidx, rChain, rTru, truT, rStr0, rPart, rSplit, kIntS, gStarT, kStrOwn, kAddC, rDct, kInt1, iEnumT, rMakeStar, rJoin, iZipM, rLcP, kLenOwn, kBoolOwn, rCMeth, rClsStar, rClsMake, rLz, rRevL, rRev2, rCMethK, rExcV, rMut, kAdd, kI2, kI2n, kMul, kIx, kIn, kLen, kU, kA2, kDm, kStrI, kAll, kSl, kAppend, kExtend, kTuple, kList, lenT, seqOf, bYes, startT, one, pickG, selG, insOf, putT, flatT, Bool.false_xor, Bool.true_xor, List.all_cons, List.all_nil, Bool.and_self, T.int.injEq, T.bl.injEq, T.str.injEq, T.lst.injEq, T.tup.injEq, T.cell.injEq, T.ins.injEq, Cell.lst.injEq, Cell.ins.injEq, Prod.mk.injEq, List.cons.injEq, Option.some.injEq, List.map_cons, List.map_nil, List.length_cons, List.length_nil, List.cons_append, List.nil_append, List.append_nil, List.getElem?_cons_zero, List.getElem?_cons_succ, List.set_cons_zero, List.set_cons_succ, List.replicate_succ, List.replicate_zero, exists_eq_left, exists_eq_left', exists_and_left, and_true, true_and, and_self, and_assoc, Nat.sub_self, Nat.reduceAdd, Nat.reduceSub, Nat.zero_add, put_put, put_same, reduceIte, Bool.false_eq_true, Bool.true_eq_false, Bool.not_true, Bool.not_false, at_0, at_1, at_2, at_3, at_4, at_5, at_6, at_7, ix_1_0, ix_2_0, ix_2_1, ix_3_0, ix_3_1, ix_3_2, ix_4_0, ix_4_1, ix_4_2, ix_4_3]
    refine prod_2 k l (by decide) fun A1 B1 f1 => prod_2 h f1 (by decide) fun A2 B2 f2 => ne_V f0 f2 (by grind) ⟨_, rfl, ?_⟩
    rw [if_neg Bool.false_ne_true]
    refine prod_2 l h (by decide) fun A1 B1 f1 => prod_2 f1 k (by decide) fun A2 B2 f2 => ne_V f0 f2 (by grind) ⟨_, rfl, ?_⟩
    rw [if_neg Bool.false_ne_true]
    refine hN _ _ ?_
    clear hN
    refine sSeq_i fun N hN => ?_
    simp only [sSeq, sAsg, sDrop, sRet, sRetN, sIf, sNext, sPar, sPar3, sFor, sRaise, sFldT, sNo, rNo, rVar, rFrz, rC, rBin, rTest, bAnd, bOr, bNot, bIf, vAnd, vOr, vNot, rIf, rNeg, aNil, aCons, rTup, rLst, rLstC, rArgs, gNameT, gNilT, gConsT, gTupT, gSubT, iSeq, iRng1T, iRng2T, rLc, rCall, rCallN, rCallS, rFld, rCon, rMake, rMakeN, rMakeP, rMeth, rMethK, rProp, rClsFn, rOpOwn, rSl, oNone, oSome, rFmt, kFmt, rJs, rLidx, rChain, rTru, truT, rStr0, rPart, rSplit, kIntS, gStarT, kStrOwn, kAddC, rDct, kInt1, iEnumT, rMakeStar, rJoin, iZipM, rLcP, kLenOwn, kBoolOwn, rCMeth, rClsStar, rClsMake, rLz, rRevL, rRev2, rCMethK, rExcV, rMut, kAdd, kI2, kI2n, kMul, kIx, kIn, kLen, kU, kA2, kDm, kStrI, kAll, kSl, kAppend, kExtend, kTuple, kList, lenT, seqOf, bYes, startT, one, pickG, selG, insOf, putT, flatT, Bool.false_xor, Bool.true_xor, List.all_cons, List.all_nil, Bool.and_self, T.int.injEq, T.bl.injEq, T.str.injEq, T.lst.injEq, T.tup.injEq, T.cell.injEq, T.ins.injEq, Cell.lst.injEq, Cell.ins.injEq, Prod.mk.injEq, List.cons.injEq, Option.some.injEq, List.map_cons, List.map_nil, List.length_cons, List.length_nil, List.cons_append, List.nil_append, List.append_nil, List.getElem?_cons_zero, List.getElem?_cons_succ, List.set_cons_zero, List.set_cons_succ, List.replicate_succ, List.replicate_zero, exists_eq_left, exists_eq_left', exists_and_left, and_true, true_and, and_self, and_assoc, Nat.sub_self, Nat.reduceAdd, Nat.reduceSub, Nat.zero_add, put_put, put_same, reduceIte, Bool.false_eq_true, Bool.true_eq_false, Bool.not_true, Bool.not_false, at_0, at_1, at_2, at_3, at_4, at_5, at_6, at_7, ix_1_0, ix_2_0, ix_2_1, ix_3_0, ix_3_1, ix_3_2, ix_4_0, ix_4_1, ix_4_2, ix_4_3]
    refine quot_V h k (by decide) fun A1 B1 f1 => quot_V f1 l (by decide) fun A2 B2 f2 => prod_2 k l (by decide) fun A3 B3 f3 => quot_V h f3 (by decide) fun A4 B4 f4 => ne_V f2 f4 (by grind) ⟨_, rfl, ?_⟩
    rw [if_neg Bool.false_ne_true]
    refine hN _ _ ?_
    clear hN
    refine sSeq_i fun N hN => ?_
    simp only [sSeq, sAsg, sDrop, sRet, sRetN, sIf, sNext, sPar, sPar3, sFor, sRaise, sFldT, sNo, rNo, rVar, rFrz, rC, rBin, rTest, bAnd, bOr, bNot, bIf, vAnd, vOr, vNot, rIf, rNeg, aNil, aCons, rTup, rLst, rLstC, rArgs, gNameT, gNilT, gConsT, gTupT, gSubT, iSeq, iRng1T, iRng2T, rLc, rCall, rCallN, rCallS, rFld, rCon, rMake, rMakeN, rMakeP, rMeth, rMethK, rProp, rClsFn, rOpOwn, rSl, oNone, oSome, rFmt, kFmt, rJs, rLidx, rChain, rTru, truT, rStr0, rPart, rSplit, kIntS, gStarT, kStrOwn, kAddC, rDct, kInt1, iEnumT, rMakeStar, rJoin, iZipM, rLcP, kLenOwn, kBoolOwn, rCMeth, rClsStar, rClsMake, rLz, rRevL, rRev2, rCMethK, rExcV, rMut, kAdd, kI2, kI2n, kMul, kIx, kIn, kLen, kU, kA2, kDm, kStrI, kAll, kSl, kAppend, kExtend, kTuple, kList, lenT, seqOf, bYes, startT, one, pickG, selG, insOf, putT, flatT, Bool.false_xor, Bool.true_xor, List.all_cons, List.all_nil, Bool.and_self, T.int.injEq, T.bl.injEq, T.str.injEq, T.lst.injEq, T.tup.injEq, T.cell.injEq, T.ins.injEq, Cell.lst.injEq, Cell.ins.injEq, Prod.mk.injEq, List.cons.injEq, Option.some.injEq, List.map_cons, List.map_nil, List.length_cons, List.length_nil, List.cons_append, List.nil_append, List.append_nil, List.getElem?_cons_zero, List.getElem?_cons_succ, List.set_cons_zero, List.set_cons_succ, List.replicate_succ, List.replicate_zero, exists_eq_left, exists_eq_left', exists_and_left, and_true, true_and, and_self, and_assoc, Nat.sub_self, Nat.reduceAdd, Nat.reduceSub, Nat.zero_add, put_put, put_same, reduceIte, Bool.false_eq_true, Bool.true_eq_false, Bool.not_true, Bool.not_false, at_0, at_1, at_2, at_3, at_4, at_5, at_6, at_7, ix_1_0, ix_2_0, ix_2_1, ix_3_0, ix_3_1, ix_3_2, ix_4_0, ix_4_1, ix_4_2, ix_4_3]
    refine comp_V h k (by decide) (hN _ _ ?_)
    clear hN
    refine sSeq_i fun N hN => ?_
    simp only [sSeq, sAsg, sDrop, sRet, sRetN, sIf, sNext, sPar, sPar3, sFor, sRaise, sFldT, sNo, rNo, rVar, rFrz, rC, rBin, rTest, bAnd, bOr, bNot, bIf, vAnd, vOr, vNot, rIf, rNeg, aNil, aCons, rTup, rLst, rLstC, rArgs, gNameT, gNilT, gConsT, gTupT, gSubT, iSeq, iRng1T, iRng2T, rLc, rCall, rCallN, rCallS, rFld, rCon, rMake, rMakeN, rMakeP, rMeth, rMethK, rProp, rClsFn, rOpOwn, rSl, oNone, oSome, rFmt, kFmt, rJs, rLidx, rChain, rTru, truT, rStr0, rPart, rSplit, kIntS, gStarT, kStrOwn, kAddC, rDct, kInt1, iEnumT, rMakeStar, rJoin, iZipM, rLcP, kLenOwn, kBoolOwn, rCMeth, rClsStar, rClsMake, rLz, rRevL, rRev2, rCMethK, rExcV, rMut, kAdd, kI2, kI2n, kMul, kIx, kIn, kLen, kU, kA2, kDm, kStrI, kAll, kSl, kAppend, kExtend, kTuple, kList, lenT, seqOf, bYes, startT, one, pickG, selG, insOf, putT, flatT, Bool.false_xor, Bool.true_xor, List.all_cons, List.all_nil, Bool.and_self, T.int.injEq, T.bl.injEq, T.str.injEq, T.lst.injEq, T.tup.injEq, T.cell.injEq, T.ins.injEq, Cell.lst.injEq, Cell.ins.injEq, Prod.mk.injEq, List.cons.injEq, Option.some.injEq, List.map_cons, List.map_nil, List.length_cons, List.length_nil, List.cons_append, List.nil_append, List.append_nil, List.getElem?_cons_zero, List.getElem?_cons_succ, List.set_cons_zero, List.set_cons_succ, List.replicate_succ, List.replicate_zero, exists_eq_left, exists_eq_left', exists_and_left, and_true, true_and, and_self, and_assoc, Nat.sub_self, Nat.reduceAdd, Nat.reduceSub, Nat.zero_add, put_put, put_same, reduceIte, Bool.false_eq_true, Bool.true_eq_false, Bool.not_true, Bool.not_false, at_0, at_1, at_2, at_3, at_4, at_5, at_6, at_7, ix_1_0, ix_2_0, ix_2_1, ix_3_0, ix_3_1, ix_3_2, ix_4_0, ix_4_1, ix_4_2, ix_4_3]
    refine prod_2 h l (by decide) fun A1 B1 f1 => prod_2 k l (by decide) fun A2 B2 f2 => comp_V f1 f2 (by decide) (ne_I (sgnR_mul lp) ⟨_, rfl, ?_⟩)
    rw [if_neg Bool.false_ne_true]
    refine hN _ _ ?_
    clear hN
    refine sSeq_i fun N hN => ?_
    simp only [sSeq, sAsg, sDrop, sRet, sRetN, sIf, sNext, sPar, sPar3, sFor, sRaise, sFldT, sNo, rNo, rVar, rFrz, rC, rBin, rTest, bAnd, bOr, bNot, bIf, vAnd, vOr, vNot, rIf, rNeg, aNil, aCons, rTup, rLst, rLstC, rArgs, gNameT, gNilT, gConsT, gTupT, gSubT, iSeq, iRng1T, iRng2T, rLc, rCall, rCallN, rCallS, rFld, rCon, rMake, rMakeN, rMakeP, rMeth, rMethK, rProp, rClsFn, rOpOwn, rSl, oNone, oSome, rFmt, kFmt, rJs, rLidx, rChain, rTru, truT, rStr0, rPart, rSplit, kIntS, gStarT, kStrOwn, kAddC, rDct, kInt1, iEnumT, rMakeStar, rJoin, iZipM, rLcP, kLenOwn, kBoolOwn, rCMeth, rClsStar, rClsMake, rLz, rRevL, rRev2, rCMethK, rExcV, rMut, kAdd, kI2, kI2n, kMul, kIx, kIn, kLen, kU, kA2, kDm, kStrI, kAll, kSl, kAppend, kExtend, kTuple, kList, lenT, seqOf, bYes, startT, one, pickG, selG, insOf, putT, flatT, Bool.false_xor, Bool.true_xor, List.all_cons, List.all_nil, Bool.and_self, T.int.injEq, T.bl.injEq, T.str.injEq, T.lst.injEq, T.tup.injEq, T.cell.injEq, T.ins.injEq, Cell.lst.injEq, Cell.ins.injEq, Prod.mk.injEq, List.cons.injEq, Option.some.injEq, List.map_cons, List.map_nil, List.length_cons, List.length_nil, List.cons_append, List.nil_append, List.append_nil, List.getElem?_cons_zero, List.getElem?_cons_succ, List.set_cons_zero, List.set_cons_succ, List.replicate_succ, List.replicate_zero, exists_eq_left, exists_eq_left', exists_and_left, and_true, true_and, and_self, and_assoc, Nat.sub_self, Nat.reduceAdd, Nat.reduceSub, Nat.zero_add, put_put, put_same, reduceIte, Bool.false_eq_true, Bool.true_eq_false, Bool.not_true, Bool.not_false, at_0, at_1, at_2, at_3, at_4, at_5, at_6, at_7, ix_1_0, ix_2_0, ix_2_1, ix_3_0, ix_3_1, ix_3_2, ix_4_0, ix_4_1, ix_4_2, ix_4_3]
    refine quot_V l h (by decide) fun A1 B1 f1 => quot_V l k (by decide) fun A2 B2 f2 => comp_V f1 f2 (by decide) (ne_I (sgnR_under hp kp lp) ⟨_, rfl, ?_⟩)
    rw [if_neg Bool.false_ne_true]
    refine hN _ _ ?_
    clear hN
    refine sSeq_i fun N hN => sIf_i fun A B hA hB => ?_
    simp only [sSeq, sAsg, sDrop, sRet, sRetN, sIf, sNext, sPar, sPar3, sFor, sRaise, sFldT, sNo, rNo, rVar, rFrz, rC, rBin, rTest, bAnd, bOr, bNot, bIf, vAnd, vOr, vNot, rIf, rNeg, aNil, aCons, rTup, rLst, rLstC, rArgs, gNameT, gNilT, gConsT, gTupT, gSubT, iSeq, iRng1T, iRng2T, rLc, rCall, rCallN, rCallS, rFld, rCon, rMake, rMakeN, rMakeP, rMeth, rMethK, rProp, rClsFn, rOpOwn, rSl, oNone, oSome, rFmt, kFmt, rJs, rLidx, rChain, rTru, truT, rStr0, rPart, rSplit, kIntS, gStarT, kStrOwn, kAddC, rDct, kInt1, iEnumT, rMakeStar, rJoin, iZipM, rLcP, kLenOwn, kBoolOwn, rCMeth, rClsStar, rClsMake, rLz, rRevL, rRev2, rCMethK, rExcV, rMut, kAdd, kI2, kI2n, kMul, kIx, kIn, kLen, kU, kA2, kDm, kStrI, kAll, kSl, kAppend, kExtend, kTuple, kList, lenT, seqOf, bYes, startT, one, pickG, selG, insOf, putT, flatT, Bool.false_xor, Bool.true_xor, List.all_cons, List.all_nil, Bool.and_self, T.int.injEq, T.bl.injEq, T.str.injEq, T.lst.injEq, T.tup.injEq, T.cell.injEq, T.ins.injEq, Cell.lst.injEq, Cell.ins.injEq, Prod.mk.injEq, List.cons.injEq, Option.some.injEq, List.map_cons, List.map_nil, List.length_cons, List.length_nil, List.cons_append, List.nil_append, List.append_nil, List.getElem?_cons_zero, List.getElem?_cons_succ, List.set_cons_zero, List.set_cons_succ, List.replicate_succ, List.replicate_zero, exists_eq_left, exists_eq_left', exists_and_left, and_true, true_and, and_self, and_assoc, Nat.sub_self, Nat.reduceAdd, Nat.reduceSub, Nat.zero_add, put_put, put_same, reduceIte, Bool.false_eq_true, Bool.true_eq_false, Bool.not_true, Bool.not_false, at_0, at_1, at_2, at_3, at_4, at_5, at_6, at_7, ix_1_0, ix_2_0, ix_2_1, ix_3_0, ix_3_1, ix_3_2, ix_4_0, ix_4_1, ix_4_2, ix_4_3]
    have go : B S := hB _ (hN _ _ (by
      clear hN hA hB
      refine sSeq_i fun N hN => ?_
      simp only [sSeq, sAsg, sDrop, sRet, sRetN, sIf, sNext, sPar, sPar3, sFor, sRaise, sFldT, sNo, rNo, rVar, rFrz, rC, rBin, rTest, bAnd, bOr, bNot, bIf, vAnd, vOr, vNot, rIf, rNeg, aNil, aCons, rTup, rLst, rLstC, rArgs, gNameT, gNilT, gConsT, gTupT, gSubT, iSeq, iRng1T, iRng2T, rLc, rCall, rCallN, rCallS, rFld, rCon, rMake, rMakeN, rMakeP, rMeth, rMethK, rProp, rClsFn, rOpOwn, rSl, oNone, oSome, rFmt, kFmt, rJs, rLidx, rChain, rTru, truT, rStr0, rPart, rSplit, kIntS, gStarT, kStrOwn, kAddC, rDct, kInt1, iEnumT, rMakeStar, rJoin, iZipM, rLcP, kLenOwn, kBoolOwn, rCMeth, rClsStar, rClsMake, rLz, rRevL, rRev2, rCMethK, rExcV, rMut, kAdd, kI2, kI2n, kMul, kIx, kIn, kLen, kU, kA2, kDm, kStrI, kAll, kSl, kAppend, kExtend, kTuple, kList, lenT, seqOf, bYes, startT, one, pickG, selG, insOf, putT, flatT, Bool.false_xor, Bool.true_xor, List.all_cons, List.all_nil, Bool.and_self, T.int.injEq, T.bl.injEq, T.str.injEq, T.lst.injEq, T.tup.injEq, T.cell.injEq, T.ins.injEq, Cell.lst.injEq, Cell.ins.injEq, Prod.mk.injEq, List.cons.injEq, Option.some.injEq, List.map_cons, List.map_nil, List.length_cons, List.length_nil, List.cons_append, List.nil_append, List.append_nil, List.getElem?_cons_zero, List.getElem?_cons_succ, List.set_cons_zero, List.set_cons_succ, List.replicate_succ, List.replicate_zero, exists_eq_left, exists_eq_left', exists_and_left, and_true, true_and, and_self, and_assoc, Nat.sub_self, Nat.reduceAdd, Nat.reduceSub, Nat.zero_add, put_put, put_same, reduceIte, Bool.false_eq_true, Bool.true_eq_false, Bool.not_true, Bool.not_false, at_0, at_1, at_2, at_3, at_4, at_5, at_6, at_7, ix_1_0, ix_2_0, ix_2_1, ix_3_0, ix_3_1, ix_3_2, ix_4_0, ix_4_1, ix_4_2, ix_4_3]
      refine quot_V f0 l (by decide) fun A1 B1 f1 => prod_5 f0 f0 f0 f1 h (by decide) fun A2 B2 f2 => hN _ _ ?_
      clear hN
      refine sSeq_i fun N hN => ?_
      simp only [sSeq, sAsg, sDrop, sRet, sRetN, sIf, sNext, sPar, sPar3, sFor, sRaise, sFldT, sNo, rNo, rVar, rFrz, rC, rBin, rTest, bAnd, bOr, bNot, bIf, vAnd, vOr, vNot, rIf, rNeg, aNil, aCons, rTup, rLst, rLstC, rArgs, gNameT, gNilT, gConsT, gTupT, gSubT, iSeq, iRng1T, iRng2T, rLc, rCall, rCallN, rCallS, rFld, rCon, rMake, rMakeN, rMakeP, rMeth, rMethK, rProp, rClsFn, rOpOwn, rSl, oNone, oSome, rFmt, kFmt, rJs, rLidx, rChain, rTru, truT, rStr0, rPart, rSplit, kIntS, gStarT, kStrOwn, kAddC, rDct, kInt1, iEnumT, rMakeStar, rJoin, iZipM, rLcP, kLenOwn, kBoolOwn, rCMeth, rClsStar, rClsMake, rLz, rRevL, rRev2, rCMethK, rExcV, rMut, kAdd, kI2, kI2n, kMul, kIx, kIn, kLen, kU, kA2, kDm, kStrI, kAll, kSl, kAppend, kExtend, kTuple, kList, lenT, seqOf, bYes, startT, one, pickG, selG, insOf, putT, flatT, Bool.false_xor, Bool.true_xor, List.all_cons, List.all_nil, Bool.and_self, T.int.injEq, T.bl.injEq, T.str.injEq, T.lst.injEq, T.tup.injEq, T.cell.injEq, T.ins.injEq, Cell.lst.injEq, Cell.ins.injEq, Prod.mk.injEq, List.cons.injEq, Option.some.injEq, List.map_cons, List.map_nil, List.length_cons, List.length_nil, List.cons_append, List.nil_append, List.append_nil, List.getElem?_cons_zero, List.getElem?_cons_succ, List.set_cons_zero, List.set_cons_succ, List.replicate_succ, List.replicate_zero, exists_eq_left, exists_eq_left', exists_and_left, and_true, true_and, and_self, and_assoc, Nat.sub_self, Nat.reduceAdd, Nat.reduceSub, Nat.zero_add, put_put, put_same, reduceIte, Bool.false_eq_true, Bool.true_eq_false, Bool.not_true, Bool.not_false, at_0, at_1, at_2, at_3, at_4, at_5, at_6, at_7, ix_1_0, ix_2_0, ix_2_1, ix_3_0, ix_3_1, ix_3_2, ix_4_0, ix_4_1, ix_4_2, ix_4_3]
      refine quot_V f2 f0 (by decide) fun A3 B3 f3 => quot_V h k (by decide) fun A4 B4 f4 => prod_2 f2 f2 (by decide) fun A5 B5 f5 => ⟨by decide, hN _ _ ?_⟩
      clear hN
      simp only [sSeq, sAsg, sDrop, sRet, sRetN, sIf, sNext, sPar, sPar3, sFor, sRaise, sFldT, sNo, rNo, rVar, rFrz, rC, rBin, rTest, bAnd, bOr, bNot, bIf, vAnd, vOr, vNot, rIf, rNeg, aNil, aCons, rTup, rLst, rLstC, rArgs, gNameT, gNilT, gConsT, gTupT, gSubT, iSeq, iRng1T, iRng2T, rLc, rCall, rCallN, rCallS, rFld, rCon, rMake, rMakeN, rMakeP, rMeth, rMethK, rProp, rClsFn, rOpOwn, rSl, oNone, oSome, rFmt, kFmt, rJs, rLidx, rChain, rTru, truT, rStr0, rPart, rSplit, kIntS, gStarT, kStrOwn, kAddC, rDct, kInt1, iEnumT, rMakeStar, rJoin, iZipM, rLcP, kLenOwn, kBoolOwn, rCMeth, rClsStar, rClsMake, rLz, rRevL, rRev2, rCMethK, rExcV, rMut, kAdd, kI2, kI2n, kMul, kIx, kIn, kLen, kU, kA2, kDm, kStrI, kAll, kSl, kAppend, kExtend, kTuple, kList, lenT, seqOf, bYes, startT, one, pickG, selG, insOf, putT, flatT, Bool.false_xor, Bool.true_xor, List.all_cons, List.all_nil, Bool.and_self, T.int.injEq, T.bl.injEq, T.str.injEq, T.lst.injEq, T.tup.injEq, T.cell.injEq, T.ins.injEq, Cell.lst.injEq, Cell.ins.injEq, Prod.mk.injEq, List.cons.injEq, Option.some.injEq, List.map_cons, List.map_nil, List.length_cons, List.length_nil, List.cons_append, List.nil_append, List.append_nil, List.getElem?_cons_zero, List.getElem?_cons_succ, List.set_cons_zero, List.set_cons_succ, List.replicate_succ, List.replicate_zero, exists_eq_left, exists_eq_left', exists_and_left, and_true, true_and, and_self, and_assoc, Nat.sub_self, Nat.reduceAdd, Nat.reduceSub, Nat.zero_add, put_put, put_same, reduceIte, Bool.false_eq_true, Bool.true_eq_false, Bool.not_true, Bool.not_false, at_0, at_1, at_2, at_3, at_4, at_5, at_6, at_7, ix_1_0, ix_2_0, ix_2_1, ix_3_0, ix_3_1, ix_3_2, ix_4_0, ix_4_1, ix_4_2, ix_4_3]
      have fs : ∀ t ∈ [frT A0 B0, frT A2 B2, frT A3 B3, frT A4 B4, frT A5 B5], ∃ a b, t = frT a b ∧ Fr 1900 a b := by
        intro t m
        simp only [List.mem_cons, List.not_mem_nil, or_false] at m
        rcases m with rfl | rfl | rfl | rfl | rfl
        · exact ⟨_, _, rfl, f0.f.up (by decide)⟩
        · exact ⟨_, _, rfl, f2.f.up (by decide)⟩
        · exact ⟨_, _, rfl, f3.f.up (by decide)⟩
        · exact ⟨_, _, rfl, f4.f.up (by decide)⟩
        · exact ⟨_, _, rfl, f5.f.up (by decide)⟩
      refine rComp_all (fun _ S2 => S2 = S) (fun _ _ y => y = .bl true) rfl (by rw [sizeLine_eq]; show 5 ≤ _; decide) ?_ ?_
      · rintro i t' S4' hi' rfl N2 hN2
        obtain ⟨x, y, rfl, fx⟩ := fs t' (List.mem_of_getElem? hi')
        simp only [sp_l_kept, sSeq, sAsg, sDrop, sRet, sRetN, sIf, sNext, sPar, sPar3, sFor, sRaise, sFldT, sNo, rNo, rVar, rFrz, rC, rBin, rTest, bAnd, bOr, bNot, bIf, vAnd, vOr, vNot, rIf, rNeg, aNil, aCons, rTup, rLst, rLstC, rArgs, gNameT, gNilT, gConsT, gTupT, gSubT, iSeq, iRng1T, iRng2T, rLc, rCall, rCallN, rCallS, rFld, rCon, rMake, rMakeN, rMakeP, rMeth, rMethK, rProp, rClsFn, rOpOwn, rSl, oNone, oSome, rFmt, kFmt, rJs, rLidx, rChain, rTru, truT, rStr0, rPart, rSplit, kIntS, gStarT, kStrOwn, kAddC, rDct, kInt1, iEnumT, rMakeStar, rJoin, iZipM, rLcP, kLenOwn, kBoolOwn, rCMeth, rClsStar, rClsMake, rLz, rRevL, rRev2, rCMethK, rExcV, rMut, kAdd, kI2, kI2n, kMul, kIx, kIn, kLen, kU, kA2, kDm, kStrI, kAll, kSl, kAppend, kExtend, kTuple, kList, lenT, seqOf, bYes, startT, one, pickG, selG, insOf, putT, flatT, Bool.false_xor, Bool.true_xor, List.all_cons, List.all_nil, Bool.and_self, T.int.injEq, T.bl.injEq, T.str.injEq, T.lst.injEq, T.tup.injEq, T.cell.injEq, T.ins.injEq, Cell.lst.injEq, Cell.ins.injEq, Prod.mk.injEq, List.cons.injEq, Option.some.injEq, List.map_cons, List.map_nil, List.length_cons, List.length_nil, List.cons_append, List.nil_append, List.append_nil, List.getElem?_cons_zero, List.getElem?_cons_succ, List.set_cons_zero, List.set_cons_succ, List.replicate_succ, List.replicate_zero, exists_eq_left, exists_eq_left', exists_and_left, and_true, true_and, and_self, and_assoc, Nat.sub_self, Nat.reduceAdd, Nat.reduceSub, Nat.zero_add, put_put, put_same, reduceIte, Bool.false_eq_true, Bool.true_eq_false, Bool.not_true, Bool.not_false, at_0, at_1, at_2, at_3, at_4, at_5, at_6, at_7, ix_1_0, ix_2_0, ix_2_1, ix_3_0, ix_3_1, ix_3_2, ix_4_0, ix_4_1, ix_4_2, ix_4_3]
        exact ⟨x, y, rfl, fx, hN2 _ _ rfl rfl⟩
      rintro bs S7 hbs hG rfl
      obtain ⟨a1, a2⟩ := allT hbs hG
      refine ⟨_, a1, ?_⟩
      rw [a2, if_pos rfl]
      refine prod_2 f2 f2 (by decide) fun A6 B6 f6 => quot_V f6 f2 (by decide) fun A7 B7 f7 => eq_V f7 f2 ?_
      have p2 := f2.pos
      rw [decide_eq_true (by grind)]
      exact q))
    refine ite_d (fun c1 => comp_V k l (by decide) ?_) (fun c1 => go)
    refine ite_d (fun c2 => comp_V h l (by decide) ?_) (fun c2 => go)
    refine ite_d (fun c3 => absurd c3 (sgnR_tr c1 c2)) (fun c3 => go)
  · exact h.elim
theorem sc_l_right : FnScope ["_law_pool_here", "_law_turn", "_law_lead", "_law_more", "_law_last", "_law_rows", "_law_row"] ["_law_pool_here"] (defScope s_l_right) := ⟨rfl, rfl, rfl, by decide +kernel, rfl, by decide +kernel, by decide +kernel⟩
def sp_l_right : SpT := fun ts S R _ => match ts with
  | [.cell p] => PoolT S p ∧ ∀ S', R (.bl true) S'
  | _ => False
set_option maxHeartbeats 3200000 in
theorem ok_l_right {P : Program} {w : World} {K : PySem.W.Frag} {mg : Str → Option Value} {base : Heap} {f : Addr} {fd : FuncData} {g_l_three_right g_l_two_right g_l_part : Addr} {gd_l_three_right : FuncData} {gd_l_two_right : FuncData} {gd_l_part : FuncData} (F : Fun K "_law_right" "_law_right" s_l_right f fd)
    (n_range : mg "range" = none)
    (G_l_three_right : FnT P w K mg base 9 g_l_three_right gd_l_three_right ["_law_lead", "_law_more", "_law_last"] (sp_l_three K))
    (m_l_three_right : mg "_law_three_right" = some (.ref g_l_three_right))
    (k_l_three_right : PySem.W.keepIn K (.ref g_l_three_right) = true)
    (b_l_three_right : Binds K gd_l_three_right ["_law_lead", "_law_more", "_law_last"] [])
    (G_l_two_right : FnT P w K mg base 6 g_l_two_right gd_l_two_right ["_law_lead", "_law_more"] sp_l_two_right)
    (m_l_two_right : mg "_law_two_right" = some (.ref g_l_two_right))
    (k_l_two_right : PySem.W.keepIn K (.ref g_l_two_right) = true)
    (b_l_two_right : Binds K gd_l_two_right ["_law_lead", "_law_more"] [])
    (G_l_part : FnT P w K mg base 2 g_l_part gd_l_part ["_law_pool_here", "_law_great"] sp_l_part)
    (m_l_part : mg "_law_part" = some (.ref g_l_part))
    (k_l_part : PySem.W.keepIn K (.ref g_l_part) = true)
    (b_l_part : Binds K gd_l_part ["_law_pool_here", "_law_great"] [])
    : FnT P w K mg base 10 f fd ["_law_pool_here"] sp_l_right := by
  refine okT F sc_l_right (by intro ts S R RE h; unfold sp_l_right at h; split at h <;> first | rfl | exact h.elim) (fun cdv A out s H E hg hr => (bs_cons (ss_for (passes_of rfl) rfl (it_range1 (by rfl) n_range (at_cons et_int at_nil)) (gt_name (pg_name (i := 1) sc_l_right.nd rfl (by first | exact Or.inl rfl | exact Or.inr rfl))) (bs_cons (ss_par3 (i := 2) (j := 3) (l := 4) (by rfl) sc_l_right.nd rfl rfl rfl (by decide) (by decide) (by decide) rfl rfl rfl (at_cons (et_callD G_l_part hg (hr.mono (by decide)) (by rfl) m_l_part k_l_part (CallD.all b_l_part) (passL2N (L2N.takes_of rfl rfl rfl rfl)) (at_cons (et_var (pv 0)) (at_cons et_bl at_nil))) (at_cons (et_callD G_l_part hg (hr.mono (by decide)) (by rfl) m_l_part k_l_part (CallD.all b_l_part) (passL2N (L2N.takes_of rfl rfl rfl rfl)) (at_cons (et_var (pv 0)) (at_cons et_bl at_nil))) (at_cons (et_callD G_l_part hg (hr.mono (by decide)) (by rfl) m_l_part k_l_part (CallD.all b_l_part) (passL2N (L2N.takes_of rfl rfl rfl rfl)) (at_cons (et_var (pv 0)) (at_cons et_bl at_nil))) at_nil))) (by rfl))
    (bs_cons (ss_set (i := 5) sc_l_right.nd rfl (by first | exact Or.inl rfl | exact Or.inr rfl) (et_lst (at_cons (et_tup (at_cons (et_var (pv 2)) (at_cons (et_var (pv 3)) (at_cons (et_var (pv 4)) at_nil)))) (at_cons (et_tup (at_cons (et_var (pv 2)) (at_cons (et_var (pv 2)) (at_cons (et_var (pv 4)) at_nil)))) (at_cons (et_tup (at_cons (et_var (pv 2)) (at_cons (et_rev2 (et_var (pv 2))) (at_cons (et_var (pv 3)) at_nil)))) (at_cons (et_tup (at_cons (et_var (pv 3)) (at_cons (et_var (pv 4)) (at_cons (et_var (pv 4)) at_nil)))) at_nil))))))
    (bs_one (ss_for (passes_of rfl) rfl (it_seq (et_var (pv 5))) (gt_name (pg_name (i := 6) sc_l_right.nd rfl (by first | exact Or.inl rfl | exact Or.inr rfl))) (bs_one (ss_if (tt_w (tw_or (tt_not (tt_val (et_callD G_l_two_right hg (hr.mono (by decide)) (by rfl) m_l_two_right k_l_two_right (CallD.all b_l_two_right) (passL2N (L2N.takes_of rfl rfl rfl rfl)) (at_cons (et_ix ix_seq cv_ix (et_var (pv 6)) et_int (fun _ _ => rfl)) (at_cons (et_ix ix_seq cv_ix (et_var (pv 6)) et_int (fun _ _ => rfl)) at_nil))))) (tw_or1 (tt_not (tt_val (et_callD G_l_three_right hg (hr.mono (by decide)) (by rfl) m_l_three_right k_l_three_right (CallD.all b_l_three_right) (passL2N (L2N.takes_of rfl rfl rfl rfl)) (at_cons (et_ix ix_seq cv_ix (et_var (pv 6)) et_int (fun _ _ => rfl)) (at_cons (et_ix ix_seq cv_ix (et_var (pv 6)) et_int (fun _ _ => rfl)) (at_cons (et_ix ix_seq cv_ix (et_var (pv 6)) et_int (fun _ _ => rfl)) at_nil))))))))) (bs_one (ss_ret et_bl)) bs_nil)))))))
    (bs_one (ss_ret et_bl)))) ?_
  intro ts S R RE h
  unfold sp_l_right at h
  split at h
  · rename_i p
    obtain ⟨hp, q⟩ := h
    refine sSeq_i fun N hN => ?_
    simp only [sSeq, sAsg, sDrop, sRet, sRetN, sIf, sNext, sPar, sPar3, sFor, sRaise, sFldT, sNo, rNo, rVar, rFrz, rC, rBin, rTest, bAnd, bOr, bNot, bIf, vAnd, vOr, vNot, rIf, rNeg, aNil, aCons, rTup, rLst, rLstC, rArgs, gNameT, gNilT, gConsT, gTupT, gSubT, iSeq, iRng1T, iRng2T, rLc, rCall, rCallN, rCallS, rFld, rCon, rMake, rMakeN, rMakeP, rMeth, rMethK, rProp, rClsFn, rOpOwn, rSl, oNone, oSome, rFmt, kFmt, rJs, rLidx, rChain, rTru, truT, rStr0, rPart, rSplit, kIntS, gStarT, kStrOwn, kAddC, rDct, kInt1, iEnumT, rMakeStar, rJoin, iZipM, rLcP, kLenOwn, kBoolOwn, rCMeth, rClsStar, rClsMake, rLz, rRevL, rRev2, rCMethK, rExcV, rMut, kAdd, kI2, kI2n, kMul, kIx, kIn, kLen, kU, kA2, kDm, kStrI, kAll, kSl, kAppend, kExtend, kTuple, kList, lenT, seqOf, bYes, startT, one, pickG, selG, insOf, putT, flatT, Bool.false_xor, Bool.true_xor, List.all_cons, List.all_nil, Bool.and_self, T.int.injEq, T.bl.injEq, T.str.injEq, T.lst.injEq, T.tup.injEq, T.cell.injEq, T.ins.injEq, Cell.lst.injEq, Cell.ins.injEq, Prod.mk.injEq, List.cons.injEq, Option.some.injEq, List.map_cons, List.map_nil, List.length_cons, List.length_nil, List.cons_append, List.nil_append, List.append_nil, List.getElem?_cons_zero, List.getElem?_cons_succ, List.set_cons_zero, List.set_cons_succ, List.replicate_succ, List.replicate_zero, exists_eq_left, exists_eq_left', exists_and_left, and_true, true_and, and_self, and_assoc, Nat.sub_self, Nat.reduceAdd, Nat.reduceSub, Nat.zero_add, put_put, put_same, reduceIte, Bool.false_eq_true, Bool.true_eq_false, Bool.not_true, Bool.not_false, at_0, at_1, at_2, at_3, at_4, at_5, at_6, at_7, ix_1_0, ix_2_0, ix_2_1, ix_3_0, ix_3_1, ix_3_2, ix_4_0, ix_4_1, ix_4_2, ix_4_3]
    refine ⟨by decide, by decide, ?_⟩
    refine rLoop_inv (fun _ σ S' => PoolT S' p ∧ ∃ v : List (Option T), σ = some (.cell p) :: v ∧ v.length = 6) ⟨hp, _, by rfl, by rfl⟩ ?_ ?_
    · rintro i t σ S' hi ⟨hp', v, rfl, hv⟩ N2 hN2
      match v, hv with
      | [v1, v2, v3, v4, v5, v6], _ =>
      show sSeq _ _ _ _ _
      refine sSeq_i fun N hN => ?_
      simp only [sp_l_part, sSeq, sAsg, sDrop, sRet, sRetN, sIf, sNext, sPar, sPar3, sFor, sRaise, sFldT, sNo, rNo, rVar, rFrz, rC, rBin, rTest, bAnd, bOr, bNot, bIf, vAnd, vOr, vNot, rIf, rNeg, aNil, aCons, rTup, rLst, rLstC, rArgs, gNameT, gNilT, gConsT, gTupT, gSubT, iSeq, iRng1T, iRng2T, rLc, rCall, rCallN, rCallS, rFld, rCon, rMake, rMakeN, rMakeP, rMeth, rMethK, rProp, rClsFn, rOpOwn, rSl, oNone, oSome, rFmt, kFmt, rJs, rLidx, rChain, rTru, truT, rStr0, rPart, rSplit, kIntS, gStarT, kStrOwn, kAddC, rDct, kInt1, iEnumT, rMakeStar, rJoin, iZipM, rLcP, kLenOwn, kBoolOwn, rCMeth, rClsStar, rClsMake, rLz, rRevL, rRev2, rCMethK, rExcV, rMut, kAdd, kI2, kI2n, kMul, kIx, kIn, kLen, kU, kA2, kDm, kStrI, kAll, kSl, kAppend, kExtend, kTuple, kList, lenT, seqOf, bYes, startT, one, pickG, selG, insOf, putT, flatT, Bool.false_xor, Bool.true_xor, List.all_cons, List.all_nil, Bool.and_self, T.int.injEq, T.bl.injEq, T.str.injEq, T.lst.injEq, T.tup.injEq, T.cell.injEq, T.ins.injEq, Cell.lst.injEq, Cell.ins.injEq, Prod.mk.injEq, List.cons.injEq, Option.some.injEq, List.map_cons, List.map_nil, List.length_cons, List.length_nil, List.cons_append, List.nil_append, List.append_nil, List.getElem?_cons_zero, List.getElem?_cons_succ, List.set_cons_zero, List.set_cons_succ, List.replicate_succ, List.replicate_zero, exists_eq_left, exists_eq_left', exists_and_left, and_true, true_and, and_self, and_assoc, Nat.sub_self, Nat.reduceAdd, Nat.reduceSub, Nat.zero_add, put_put, put_same, reduceIte, Bool.false_eq_true, Bool.true_eq_false, Bool.not_true, Bool.not_false, at_0, at_1, at_2, at_3, at_4, at_5, at_6, at_7, ix_1_0, ix_2_0, ix_2_1, ix_3_0, ix_3_1, ix_3_2, ix_4_0, ix_4_1, ix_4_2, ix_4_3]
      refine ⟨hp', fun a b S1 f1 p1 => ⟨p1.pool, fun c d S2 f2 p2 => ⟨p2.pool, fun i j S3 f3 p3 => hN _ _ ?_⟩⟩⟩
      clear hN
      refine sSeq_i fun N hN => ?_
      simp only [sSeq, sAsg, sDrop, sRet, sRetN, sIf, sNext, sPar, sPar3, sFor, sRaise, sFldT, sNo, rNo, rVar, rFrz, rC, rBin, rTest, bAnd, bOr, bNot, bIf, vAnd, vOr, vNot, rIf, rNeg, aNil, aCons, rTup, rLst, rLstC, rArgs, gNameT, gNilT, gConsT, gTupT, gSubT, iSeq, iRng1T, iRng2T, rLc, rCall, rCallN, rCallS, rFld, rCon, rMake, rMakeN, rMakeP, rMeth, rMethK, rProp, rClsFn, rOpOwn, rSl, oNone, oSome, rFmt, kFmt, rJs, rLidx, rChain, rTru, truT, rStr0, rPart, rSplit, kIntS, gStarT, kStrOwn, kAddC, rDct, kInt1, iEnumT, rMakeStar, rJoin, iZipM, rLcP, kLenOwn, kBoolOwn, rCMeth, rClsStar, rClsMake, rLz, rRevL, rRev2, rCMethK, rExcV, rMut, kAdd, kI2, kI2n, kMul, kIx, kIn, kLen, kU, kA2, kDm, kStrI, kAll, kSl, kAppend, kExtend, kTuple, kList, lenT, seqOf, bYes, startT, one, pickG, selG, insOf, putT, flatT, Bool.false_xor, Bool.true_xor, List.all_cons, List.all_nil, Bool.and_self, T.int.injEq, T.bl.injEq, T.str.injEq, T.lst.injEq, T.tup.injEq, T.cell.injEq, T.ins.injEq, Cell.lst.injEq, Cell.ins.injEq, Prod.mk.injEq, List.cons.injEq, Option.some.injEq, List.map_cons, List.map_nil, List.length_cons, List.length_nil, List.cons_append, List.nil_append, List.append_nil, List.getElem?_cons_zero, List.getElem?_cons_succ, List.set_cons_zero, List.set_cons_succ, List.replicate_succ, List.replicate_zero, exists_eq_left, exists_eq_left', exists_and_left, and_true, true_and, and_self, and_assoc, Nat.sub_self, Nat.reduceAdd, Nat.reduceSub, Nat.zero_add, put_put, put_same, reduceIte, Bool.false_eq_true, Bool.true_eq_false, Bool.not_true, Bool.not_false, at_0, at_1, at_2, at_3, at_4, at_5, at_6, at_7, ix_1_0, ix_2_0, ix_2_1, ix_3_0, ix_3_1, ix_3_2, ix_4_0, ix_4_1, ix_4_2, ix_4_3]
      refine ⟨by decide, by decide, _, _, rfl, by decide, by decide, by decide, hN _ _ ?_⟩
      clear hN
      have V1 : FV 67 a b (rv a b) := ⟨f1, rfl⟩
      have V2 : FV 67 c d (rv c d) := ⟨f2, rfl⟩
      have V3 : FV 67 i j (rv i j) := ⟨f3, rfl⟩
      have rows : ∀ t ∈ [T.tup [frT a b, frT c d, frT i j], T.tup [frT a b, frT a b, frT i j], T.tup [frT a b, frT b a, frT c d], T.tup [frT c d, frT i j, frT i j]],
          ∃ a b c d i j v w u, t = T.tup [frT a b, frT c d, frT i j] ∧ FV 67 a b v ∧ FV 67 c d w ∧ FV 67 i j u := by
        intro t m
        simp only [List.mem_cons, List.not_mem_nil, or_false] at m
        rcases m with rfl | rfl | rfl | rfl
        · exact ⟨_, _, _, _, _, _, _, _, _, rfl, V1, V2, V3⟩
        · exact ⟨_, _, _, _, _, _, _, _, _, rfl, V1, V1, V3⟩
        · exact ⟨_, _, _, _, _, _, _, _, _, rfl, V1, V1.inv, V2⟩
        · exact ⟨_, _, _, _, _, _, _, _, _, rfl, V2, V3, V3⟩
      simp only [sSeq, sAsg, sDrop, sRet, sRetN, sIf, sNext, sPar, sPar3, sFor, sRaise, sFldT, sNo, rNo, rVar, rFrz, rC, rBin, rTest, bAnd, bOr, bNot, bIf, vAnd, vOr, vNot, rIf, rNeg, aNil, aCons, rTup, rLst, rLstC, rArgs, gNameT, gNilT, gConsT, gTupT, gSubT, iSeq, iRng1T, iRng2T, rLc, rCall, rCallN, rCallS, rFld, rCon, rMake, rMakeN, rMakeP, rMeth, rMethK, rProp, rClsFn, rOpOwn, rSl, oNone, oSome, rFmt, kFmt, rJs, rLidx, rChain, rTru, truT, rStr0, rPart, rSplit, kIntS, gStarT, kStrOwn, kAddC, rDct, kInt1, iEnumT, rMakeStar, rJoin, iZipM, rLcP, kLenOwn, kBoolOwn, rCMeth, rClsStar, rClsMake, rLz, rRevL, rRev2, rCMethK, rExcV, rMut, kAdd, kI2, kI2n, kMul, kIx, kIn, kLen, kU, kA2, kDm, kStrI, kAll, kSl, kAppend, kExtend, kTuple, kList, lenT, seqOf, bYes, startT, one, pickG, selG, insOf, putT, flatT, Bool.false_xor, Bool.true_xor, List.all_cons, List.all_nil, Bool.and_self, T.int.injEq, T.bl.injEq, T.str.injEq, T.lst.injEq, T.tup.injEq, T.cell.injEq, T.ins.injEq, Cell.lst.injEq, Cell.ins.injEq, Prod.mk.injEq, List.cons.injEq, Option.some.injEq, List.map_cons, List.map_nil, List.length_cons, List.length_nil, List.cons_append, List.nil_append, List.append_nil, List.getElem?_cons_zero, List.getElem?_cons_succ, List.set_cons_zero, List.set_cons_succ, List.replicate_succ, List.replicate_zero, exists_eq_left, exists_eq_left', exists_and_left, and_true, true_and, and_self, and_assoc, Nat.sub_self, Nat.reduceAdd, Nat.reduceSub, Nat.zero_add, put_put, put_same, reduceIte, Bool.false_eq_true, Bool.true_eq_false, Bool.not_true, Bool.not_false, at_0, at_1, at_2, at_3, at_4, at_5, at_6, at_7, ix_1_0, ix_2_0, ix_2_1, ix_3_0, ix_3_1, ix_3_2, ix_4_0, ix_4_1, ix_4_2, ix_4_3]
      refine rLoop_inv (fun _ σ S' => S' = S3 ∧ ∃ (l : T) (x : Option T), σ = [some (.cell p), some t, some (frT a b), some (frT c d), some (frT i j), some l, x]) ⟨rfl, _, _, rfl⟩ ?_ ?_
      · rintro k t' σ S' hi' ⟨rfl, l, x, rfl⟩ N3 hN3
        obtain ⟨a', b', c', d', i', j', v', w', u', rfl, g1, g2, g3⟩ := rows t' (List.mem_of_getElem? hi')
        simp only [sp_l_two_right, sp_l_three, sSeq, sAsg, sDrop, sRet, sRetN, sIf, sNext, sPar, sPar3, sFor, sRaise, sFldT, sNo, rNo, rVar, rFrz, rC, rBin, rTest, bAnd, bOr, bNot, bIf, vAnd, vOr, vNot, rIf, rNeg, aNil, aCons, rTup, rLst, rLstC, rArgs, gNameT, gNilT, gConsT, gTupT, gSubT, iSeq, iRng1T, iRng2T, rLc, rCall, rCallN, rCallS, rFld, rCon, rMake, rMakeN, rMakeP, rMeth, rMethK, rProp, rClsFn, rOpOwn, rSl, oNone, oSome, rFmt, kFmt, rJs, rLidx, rChain, rTru, truT, rStr0, rPart, rSplit, kIntS, gStarT, kStrOwn, kAddC, rDct, kInt1, iEnumT, rMakeStar, rJoin, iZipM, rLcP, kLenOwn, kBoolOwn, rCMeth, rClsStar, rClsMake, rLz, rRevL, rRev2, rCMethK, rExcV, rMut, kAdd, kI2, kI2n, kMul, kIx, kIn, kLen, kU, kA2, kDm, kStrI, kAll, kSl, kAppend, kExtend, kTuple, kList, lenT, seqOf, bYes, startT, one, pickG, selG, insOf, putT, flatT, Bool.false_xor, Bool.true_xor, List.all_cons, List.all_nil, Bool.and_self, T.int.injEq, T.bl.injEq, T.str.injEq, T.lst.injEq, T.tup.injEq, T.cell.injEq, T.ins.injEq, Cell.lst.injEq, Cell.ins.injEq, Prod.mk.injEq, List.cons.injEq, Option.some.injEq, List.map_cons, List.map_nil, List.length_cons, List.length_nil, List.cons_append, List.nil_append, List.append_nil, List.getElem?_cons_zero, List.getElem?_cons_succ, List.set_cons_zero, List.set_cons_succ, List.replicate_succ, List.replicate_zero, exists_eq_left, exists_eq_left', exists_and_left, and_true, true_and, and_self, and_assoc, Nat.sub_self, Nat.reduceAdd, Nat.reduceSub, Nat.zero_add, put_put, put_same, reduceIte, Bool.false_eq_true, Bool.true_eq_false, Bool.not_true, Bool.not_false, at_0, at_1, at_2, at_3, at_4, at_5, at_6, at_7, ix_1_0, ix_2_0, ix_2_1, ix_3_0, ix_3_1, ix_3_2, ix_4_0, ix_4_1, ix_4_2, ix_4_3]
        refine ⟨_, _, rfl, _, _, rfl, _, g1, _, g2, _, _, rfl, _, _, rfl, _, _, rfl, _, g1, _, g2, _, g3, ?_⟩
        exact hN3 _ _ ⟨rfl, _, _, rfl⟩
      · rintro σ S' ⟨rfl, l, x, rfl⟩
        exact hN2 _ _ ⟨p3.pool, _, rfl, rfl⟩
    · rintro σ S' ⟨hp', v, rfl, hv⟩
      refine hN _ _ ?_
      simp only [sSeq, sAsg, sDrop, sRet, sRetN, sIf, sNext, sPar, sPar3, sFor, sRaise, sFldT, sNo, rNo, rVar, rFrz, rC, rBin, rTest, bAnd, bOr, bNot, bIf, vAnd, vOr, vNot, rIf, rNeg, aNil, aCons, rTup, rLst, rLstC, rArgs, gNameT, gNilT, gConsT, gTupT, gSubT, iSeq, iRng1T, iRng2T, rLc, rCall, rCallN, rCallS, rFld, rCon, rMake, rMakeN, rMakeP, rMeth, rMethK, rProp, rClsFn, rOpOwn, rSl, oNone, oSome, rFmt, kFmt, rJs, rLidx, rChain, rTru, truT, rStr0, rPart, rSplit, kIntS, gStarT, kStrOwn, kAddC, rDct, kInt1, iEnumT, rMakeStar, rJoin, iZipM, rLcP, kLenOwn, kBoolOwn, rCMeth, rClsStar, rClsMake, rLz, rRevL, rRev2, rCMethK, rExcV, rMut, kAdd, kI2, kI2n, kMul, kIx, kIn, kLen, kU, kA2, kDm, kStrI, kAll, kSl, kAppend, kExtend, kTuple, kList, lenT, seqOf, bYes, startT, one, pickG, selG, insOf, putT, flatT, Bool.false_xor, Bool.true_xor, List.all_cons, List.all_nil, Bool.and_self, T.int.injEq, T.bl.injEq, T.str.injEq, T.lst.injEq, T.tup.injEq, T.cell.injEq, T.ins.injEq, Cell.lst.injEq, Cell.ins.injEq, Prod.mk.injEq, List.cons.injEq, Option.some.injEq, List.map_cons, List.map_nil, List.length_cons, List.length_nil, List.cons_append, List.nil_append, List.append_nil, List.getElem?_cons_zero, List.getElem?_cons_succ, List.set_cons_zero, List.set_cons_succ, List.replicate_succ, List.replicate_zero, exists_eq_left, exists_eq_left', exists_and_left, and_true, true_and, and_self, and_assoc, Nat.sub_self, Nat.reduceAdd, Nat.reduceSub, Nat.zero_add, put_put, put_same, reduceIte, Bool.false_eq_true, Bool.true_eq_false, Bool.not_true, Bool.not_false, at_0, at_1, at_2, at_3, at_4, at_5, at_6, at_7, ix_1_0, ix_2_0, ix_2_1, ix_3_0, ix_3_1, ix_3_2, ix_4_0, ix_4_1, ix_4_2, ix_4_3]
      exact q _
  · exact h.elim
theorem sc_law : FnScope ["_law_script", "_law_k"] ["_law_script"] (defScope s_law) := ⟨rfl, rfl, rfl, by decide +kernel, rfl, by decide +kernel, by decide +kernel⟩

theorem ok_law {P : Program} {w : World} {K : PySem.W.Frag} {mg : Str → Option Value} {base : Heap} {f : Addr} {fd : FuncData} {g_l_right g_l_pool g_l_cell : Addr} {gd_l_right : FuncData} {gd_l_pool : FuncData} {gd_l_cell : FuncData} (F : Fun K "law" "law" s_law f fd)
    (n_range : mg "range" = none)
    (n_len : mg "len" = none)
    (n_min : mg "min" = none)
    (n_max : mg "max" = none)
    (n_all : mg "all" = none)
    (G_l_right : FnT P w K mg base 10 g_l_right gd_l_right ["_law_pool_here"] sp_l_right)
    (m_l_right : mg "_law_right" = some (.ref g_l_right))
    (k_l_right : PySem.W.keepIn K (.ref g_l_right) = true)
    (b_l_right : Binds K gd_l_right ["_law_pool_here"] [])
    (G_l_pool : FnT P w K mg base 1 g_l_pool gd_l_pool ["_law_figure"] sp_l_pool)
    (m_l_pool : mg "_law_pool" = some (.ref g_l_pool))
    (k_l_pool : PySem.W.keepIn K (.ref g_l_pool) = true)
    (b_l_pool : Binds K gd_l_pool ["_law_figure"] [])
    (G_l_cell : FnT P w K mg base 1 g_l_cell gd_l_cell ["_law_script", "_law_k"] sp_l_cell)
    (m_l_cell : mg "_law_cell" = some (.ref g_l_cell))
    (k_l_cell : PySem.W.keepIn K (.ref g_l_cell) = true)
    (b_l_cell : Binds K gd_l_cell ["_law_script", "_law_k"] [])
    : FnT P w K mg base 11 f fd ["_law_script"] sp_law := by
  refine okT F sc_law (by intro ts S R RE h; unfold sp_law at h; split at h <;> first | rfl | exact h.elim) (fun cdv A out s H E hg hr => (bs_one (ss_ret (et_blt (cr_all (by rfl)) cv_all (by rfl) n_all (by decide +kernel) (at_cons (et_lc (x := "_law_k") (j := 1) (by rfl) sc_law.nd (it_range1 (by rfl) n_range (at_cons (et_blt (call_max2 (by rfl)) cv_A2 (by rfl) n_max (by decide +kernel) (at_cons et_int (at_cons (et_blt (call_min2 (by rfl)) cv_A2 (by rfl) n_min (by decide +kernel) (at_cons (et_blt call_len cv_len (by rfl) n_len PySem.boot_len (at_cons (et_var (pv 0)) at_nil)) (at_cons et_int at_nil))) at_nil))) at_nil)) (blkOk_by (own := [("_law_k", 1)]) (N := ["_law_script", "_law_k"]) (sc := defScope s_law) (by decide +kernel)) (fun _ _ _ _ _ => pg_name (i := 1) sc_law.nd rfl (by first | exact Or.inl rfl | exact Or.inr rfl)) (fun _ _ _ _ _ => tts_nil) (fun _ _ _ _ _ => (et_callD G_l_right hg (hr.mono (by decide)) (by rfl) m_l_right k_l_right (CallD.all b_l_right) passN (at_cons (et_callD G_l_pool hg (hr.mono (by decide)) (by rfl) m_l_pool k_l_pool (CallD.all b_l_pool) passN (at_cons (et_callD G_l_cell hg (hr.mono (by decide)) (by rfl) m_l_cell k_l_cell (CallD.all b_l_cell) passN (at_cons (et_var (pv 0)) (at_cons (et_var (pv 1)) at_nil))) at_nil)) at_nil)))) at_nil))))) ?_
  intro ts S R RE h
  unfold sp_law at h
  split at h
  · rename_i l
    obtain ⟨⟨ns, rfl, h63⟩, q⟩ := h
    simp only [sSeq, sAsg, sDrop, sRet, sRetN, sIf, sNext, sPar, sPar3, sFor, sRaise, sFldT, sNo, rNo, rVar, rFrz, rC, rBin, rTest, bAnd, bOr, bNot, bIf, vAnd, vOr, vNot, rIf, rNeg, aNil, aCons, rTup, rLst, rLstC, rArgs, gNameT, gNilT, gConsT, gTupT, gSubT, iSeq, iRng1T, iRng2T, rLc, rCall, rCallN, rCallS, rFld, rCon, rMake, rMakeN, rMakeP, rMeth, rMethK, rProp, rClsFn, rOpOwn, rSl, oNone, oSome, rFmt, kFmt, rJs, rLidx, rChain, rTru, truT, rStr0, rPart, rSplit, kIntS, gStarT, kStrOwn, kAddC, rDct, kInt1, iEnumT, rMakeStar, rJoin, iZipM, rLcP, kLenOwn, kBoolOwn, rCMeth, rClsStar, rClsMake, rLz, rRevL, rRev2, rCMethK, rExcV, rMut, kAdd, kI2, kI2n, kMul, kIx, kIn, kLen, kU, kA2, kDm, kStrI, kAll, kSl, kAppend, kExtend, kTuple, kList, lenT, seqOf, bYes, startT, one, pickG, selG, insOf, putT, flatT, Bool.false_xor, Bool.true_xor, List.all_cons, List.all_nil, Bool.and_self, T.int.injEq, T.bl.injEq, T.str.injEq, T.lst.injEq, T.tup.injEq, T.cell.injEq, T.ins.injEq, Cell.lst.injEq, Cell.ins.injEq, Prod.mk.injEq, List.cons.injEq, Option.some.injEq, List.map_cons, List.map_nil, List.length_cons, List.length_nil, List.cons_append, List.nil_append, List.append_nil, List.getElem?_cons_zero, List.getElem?_cons_succ, List.set_cons_zero, List.set_cons_succ, List.replicate_succ, List.replicate_zero, exists_eq_left, exists_eq_left', exists_and_left, and_true, true_and, and_self, and_assoc, Nat.sub_self, Nat.reduceAdd, Nat.reduceSub, Nat.zero_add, put_put, put_same, reduceIte, Bool.false_eq_true, Bool.true_eq_false, Bool.not_true, Bool.not_false, at_0, at_1, at_2, at_3, at_4, at_5, at_6, at_7, ix_1_0, ix_2_0, ix_2_1, ix_3_0, ix_3_1, ix_3_2, ix_4_0, ix_4_1, ix_4_2, ix_4_3]
    have hl : 0 ≤ (((ns.map T.int).length : Nat) : Int) ∧ (((ns.map T.int).length : Nat) : Int) ≤ 63 := by rw [List.length_map]; omega
    have rg := range_le (n := (((ns.map T.int).length : Nat) : Int)) (k := 5) hl (by decide)
    generalize (((ns.map T.int).length : Nat) : Int) = n at rg ⊢
    generalize (if (if n < 5 then n else 5) > 2 then (if n < 5 then n else 5) else 2) = m at rg ⊢
    refine ⟨by omega, by omega, ?_⟩
    refine law_cells (spR := sp_l_right) (i := 0) (j := 1) h63 ⟨by omega, by omega⟩ (fun _ => rfl) (fun _ => rfl) (fun p S hp N hN => ⟨hp, hN⟩) q
  · exact h.elim
set_option maxHeartbeats 0 in
theorem all_mk {l : PySem.W.OpenLaw} {w : World} {K : PySem.W.Frag} {h : Heap} {mg : Str → Option Value} {fa : Addr} (X : K.In h) (G : h.Ns mainGlobals mg) (hfa : mg "law" = some (.ref fa))
    {f_common_divisor : Addr} {od_common_divisor an_common_divisor : Option Addr} {sl_common_divisor : Array (Option Value)} {oc_common_divisor kV_common_divisor dc_common_divisor pm_common_divisor cd_common_divisor ct_common_divisor : Value}
    {f_lowest_terms : Addr} {od_lowest_terms an_lowest_terms : Option Addr} {sl_lowest_terms : Array (Option Value)} {oc_lowest_terms kV_lowest_terms dc_lowest_terms pm_lowest_terms cd_lowest_terms ct_lowest_terms : Value}
    {f_is_integer : Addr} {od_is_integer an_is_integer : Option Addr} {sl_is_integer : Array (Option Value)} {oc_is_integer kV_is_integer dc_is_integer pm_is_integer cd_is_integer ct_is_integer : Value}
    {f_is_positive : Addr} {od_is_positive an_is_positive : Option Addr} {sl_is_positive : Array (Option Value)} {oc_is_positive kV_is_positive dc_is_positive pm_is_positive cd_is_positive ct_is_positive : Value}
    {f_fraction : Addr} {od_fraction an_fraction : Option Addr} {sl_fraction : Array (Option Value)} {oc_fraction kV_fraction dc_fraction pm_fraction cd_fraction ct_fraction : Value}
    {T_fraction : Addr} {toc_fraction : Value} {tod_fraction : Option Addr} {tn_fraction : Nat} {tsl_fraction : Array (Option Value)} {tk_fraction : Tok}
    {f_l_cell : Addr} {od_l_cell an_l_cell : Option Addr} {sl_l_cell : Array (Option Value)} {oc_l_cell kV_l_cell dc_l_cell pm_l_cell cd_l_cell ct_l_cell : Value}
    {f_l_pool : Addr} {od_l_pool an_l_pool : Option Addr} {sl_l_pool : Array (Option Value)} {oc_l_pool kV_l_pool dc_l_pool pm_l_pool cd_l_pool ct_l_pool : Value}
    {f_l_draw : Addr} {od_l_draw an_l_draw : Option Addr} {sl_l_draw : Array (Option Value)} {oc_l_draw kV_l_draw dc_l_draw pm_l_draw cd_l_draw ct_l_draw : Value}
    {f_l_low : Addr} {od_l_low an_l_low : Option Addr} {sl_l_low : Array (Option Value)} {oc_l_low kV_l_low dc_l_low pm_l_low cd_l_low ct_l_low : Value}
    {f_is_fraction : Addr} {od_is_fraction an_is_fraction : Option Addr} {sl_is_fraction : Array (Option Value)} {oc_is_fraction kV_is_fraction dc_is_fraction pm_is_fraction cd_is_fraction ct_is_fraction : Value}
    {f_check_fractions : Addr} {od_check_fractions an_check_fractions : Option Addr} {sl_check_fractions : Array (Option Value)} {oc_check_fractions kV_check_fractions dc_check_fractions pm_check_fractions cd_check_fractions ct_check_fractions : Value}
    {f_quotient : Addr} {od_quotient an_quotient : Option Addr} {sl_quotient : Array (Option Value)} {oc_quotient kV_quotient dc_quotient pm_quotient cd_quotient ct_quotient : Value}
    {f_order : Addr} {od_order an_order : Option Addr} {sl_order : Array (Option Value)} {oc_order kV_order dc_order pm_order cd_order ct_order : Value}
    {f_compare : Addr} {od_compare an_compare : Option Addr} {sl_compare : Array (Option Value)} {oc_compare kV_compare dc_compare pm_compare cd_compare ct_compare : Value}
    {f_format_fraction : Addr} {od_format_fraction an_format_fraction : Option Addr} {sl_format_fraction : Array (Option Value)} {oc_format_fraction kV_format_fraction dc_format_fraction pm_format_fraction cd_format_fraction ct_format_fraction : Value}
    {f_is_numeral : Addr} {od_is_numeral an_is_numeral : Option Addr} {sl_is_numeral : Array (Option Value)} {oc_is_numeral kV_is_numeral dc_is_numeral pm_is_numeral cd_is_numeral ct_is_numeral : Value}
    {f_find_fraction : Addr} {od_find_fraction an_find_fraction : Option Addr} {sl_find_fraction : Array (Option Value)} {oc_find_fraction kV_find_fraction dc_find_fraction pm_find_fraction cd_find_fraction ct_find_fraction : Value}
    {f_l_less : Addr} {od_l_less an_l_less : Option Addr} {sl_l_less : Array (Option Value)} {oc_l_less kV_l_less dc_l_less pm_l_less cd_l_less ct_l_less : Value}
    {f_l_part : Addr} {od_l_part an_l_part : Option Addr} {sl_l_part : Array (Option Value)} {oc_l_part kV_l_part dc_l_part pm_l_part cd_l_part ct_l_part : Value}
    {f_product : Addr} {od_product an_product : Option Addr} {sl_product : Array (Option Value)} {oc_product kV_product dc_product pm_product cd_product ct_product : Value}
    {f_parse_fraction : Addr} {od_parse_fraction an_parse_fraction : Option Addr} {sl_parse_fraction : Array (Option Value)} {oc_parse_fraction kV_parse_fraction dc_parse_fraction pm_parse_fraction cd_parse_fraction ct_parse_fraction : Value}
    {f_l_two_right : Addr} {od_l_two_right an_l_two_right : Option Addr} {sl_l_two_right : Array (Option Value)} {oc_l_two_right kV_l_two_right dc_l_two_right pm_l_two_right cd_l_two_right ct_l_two_right : Value}
    {f_l_kept_right : Addr} {od_l_kept_right an_l_kept_right : Option Addr} {sl_l_kept_right : Array (Option Value)} {oc_l_kept_right kV_l_kept_right dc_l_kept_right pm_l_kept_right cd_l_kept_right ct_l_kept_right : Value}
    {f_l_three_right : Addr} {od_l_three_right an_l_three_right : Option Addr} {sl_l_three_right : Array (Option Value)} {oc_l_three_right kV_l_three_right dc_l_three_right pm_l_three_right cd_l_three_right ct_l_three_right : Value}
    {f_l_right : Addr} {od_l_right an_l_right : Option Addr} {sl_l_right : Array (Option Value)} {oc_l_right kV_l_right dc_l_right pm_l_right cd_l_right ct_l_right : Value}
    {f_law : Addr} {od_law an_law : Option Addr} {sl_law : Array (Option Value)} {oc_law kV_law dc_law pm_law cd_law ct_law : Value}
    (a_common_divisor : PySem.W.nsIn K mainGlobals "common_divisor" = some (some (.ref f_common_divisor)))
    (l_common_divisor : K.lookup f_common_divisor = some ⟨oc_common_divisor, od_common_divisor, .func (PySem.W.fnOf "common_divisor" "common_divisor" (defArgs s_common_divisor) (defBody s_common_divisor) (defScope s_common_divisor) .none kV_common_divisor dc_common_divisor pm_common_divisor an_common_divisor cd_common_divisor ct_common_divisor), sl_common_divisor⟩)
    (c_common_divisor : PySem.W.codeIn K cd_common_divisor "common_divisor" = true)
    (k_common_divisor : PySem.W.keepIn K (.ref f_common_divisor) = true)
    (a_lowest_terms : PySem.W.nsIn K mainGlobals "lowest_terms" = some (some (.ref f_lowest_terms)))
    (l_lowest_terms : K.lookup f_lowest_terms = some ⟨oc_lowest_terms, od_lowest_terms, .func (PySem.W.fnOf "lowest_terms" "lowest_terms" (defArgs s_lowest_terms) (defBody s_lowest_terms) (defScope s_lowest_terms) .none kV_lowest_terms dc_lowest_terms pm_lowest_terms an_lowest_terms cd_lowest_terms ct_lowest_terms), sl_lowest_terms⟩)
    (c_lowest_terms : PySem.W.codeIn K cd_lowest_terms "lowest_terms" = true)
    (k_lowest_terms : PySem.W.keepIn K (.ref f_lowest_terms) = true)
    (a_is_integer : PySem.W.nsIn K mainGlobals "is_integer" = some (some (.ref f_is_integer)))
    (l_is_integer : K.lookup f_is_integer = some ⟨oc_is_integer, od_is_integer, .func (PySem.W.fnOf "is_integer" "is_integer" (defArgs s_is_integer) (defBody s_is_integer) (defScope s_is_integer) .none kV_is_integer dc_is_integer pm_is_integer an_is_integer cd_is_integer ct_is_integer), sl_is_integer⟩)
    (c_is_integer : PySem.W.codeIn K cd_is_integer "is_integer" = true)
    (k_is_integer : PySem.W.keepIn K (.ref f_is_integer) = true)
    (a_is_positive : PySem.W.nsIn K mainGlobals "is_positive" = some (some (.ref f_is_positive)))
    (l_is_positive : K.lookup f_is_positive = some ⟨oc_is_positive, od_is_positive, .func (PySem.W.fnOf "is_positive" "is_positive" (defArgs s_is_positive) (defBody s_is_positive) (defScope s_is_positive) .none kV_is_positive dc_is_positive pm_is_positive an_is_positive cd_is_positive ct_is_positive), sl_is_positive⟩)
    (c_is_positive : PySem.W.codeIn K cd_is_positive "is_positive" = true)
    (k_is_positive : PySem.W.keepIn K (.ref f_is_positive) = true)
    (a_fraction : PySem.W.nsIn K mainGlobals "fraction" = some (some (.ref f_fraction)))
    (l_fraction : K.lookup f_fraction = some ⟨oc_fraction, od_fraction, .func (PySem.W.fnOf "fraction" "fraction" (defArgs s_fraction) (defBody s_fraction) (defScope s_fraction) (.ref T_fraction) kV_fraction dc_fraction pm_fraction an_fraction cd_fraction ct_fraction), sl_fraction⟩)
    (c_fraction : PySem.W.codeIn K cd_fraction "fraction" = true)
    (k_fraction : PySem.W.keepIn K (.ref f_fraction) = true)
    (t_fraction : K.lookup T_fraction = some ⟨toc_fraction, tod_fraction, .seq #[.int 1 tk_fraction] tn_fraction, tsl_fraction⟩)
    (a_l_cell : PySem.W.nsIn K mainGlobals "_law_cell" = some (some (.ref f_l_cell)))
    (l_l_cell : K.lookup f_l_cell = some ⟨oc_l_cell, od_l_cell, .func (PySem.W.fnOf "_law_cell" "_law_cell" (defArgs s_l_cell) (defBody s_l_cell) (defScope s_l_cell) .none kV_l_cell dc_l_cell pm_l_cell an_l_cell cd_l_cell ct_l_cell), sl_l_cell⟩)
    (c_l_cell : PySem.W.codeIn K cd_l_cell "_law_cell" = true)
    (k_l_cell : PySem.W.keepIn K (.ref f_l_cell) = true)
    (a_l_pool : PySem.W.nsIn K mainGlobals "_law_pool" = some (some (.ref f_l_pool)))
    (l_l_pool : K.lookup f_l_pool = some ⟨oc_l_pool, od_l_pool, .func (PySem.W.fnOf "_law_pool" "_law_pool" (defArgs s_l_pool) (defBody s_l_pool) (defScope s_l_pool) .none kV_l_pool dc_l_pool pm_l_pool an_l_pool cd_l_pool ct_l_pool), sl_l_pool⟩)
    (c_l_pool : PySem.W.codeIn K cd_l_pool "_law_pool" = true)
    (k_l_pool : PySem.W.keepIn K (.ref f_l_pool) = true)
    (a_l_draw : PySem.W.nsIn K mainGlobals "_law_draw" = some (some (.ref f_l_draw)))
    (l_l_draw : K.lookup f_l_draw = some ⟨oc_l_draw, od_l_draw, .func (PySem.W.fnOf "_law_draw" "_law_draw" (defArgs s_l_draw) (defBody s_l_draw) (defScope s_l_draw) .none kV_l_draw dc_l_draw pm_l_draw an_l_draw cd_l_draw ct_l_draw), sl_l_draw⟩)
    (c_l_draw : PySem.W.codeIn K cd_l_draw "_law_draw" = true)
    (k_l_draw : PySem.W.keepIn K (.ref f_l_draw) = true)
    (a_l_low : PySem.W.nsIn K mainGlobals "_law_low" = some (some (.ref f_l_low)))
    (l_l_low : K.lookup f_l_low = some ⟨oc_l_low, od_l_low, .func (PySem.W.fnOf "_law_low" "_law_low" (defArgs s_l_low) (defBody s_l_low) (defScope s_l_low) .none kV_l_low dc_l_low pm_l_low an_l_low cd_l_low ct_l_low), sl_l_low⟩)
    (c_l_low : PySem.W.codeIn K cd_l_low "_law_low" = true)
    (k_l_low : PySem.W.keepIn K (.ref f_l_low) = true)
    (a_is_fraction : PySem.W.nsIn K mainGlobals "is_fraction" = some (some (.ref f_is_fraction)))
    (l_is_fraction : K.lookup f_is_fraction = some ⟨oc_is_fraction, od_is_fraction, .func (PySem.W.fnOf "is_fraction" "is_fraction" (defArgs s_is_fraction) (defBody s_is_fraction) (defScope s_is_fraction) .none kV_is_fraction dc_is_fraction pm_is_fraction an_is_fraction cd_is_fraction ct_is_fraction), sl_is_fraction⟩)
    (c_is_fraction : PySem.W.codeIn K cd_is_fraction "is_fraction" = true)
    (k_is_fraction : PySem.W.keepIn K (.ref f_is_fraction) = true)
    (a_check_fractions : PySem.W.nsIn K mainGlobals "check_fractions" = some (some (.ref f_check_fractions)))
    (l_check_fractions : K.lookup f_check_fractions = some ⟨oc_check_fractions, od_check_fractions, .func (PySem.W.fnOf "check_fractions" "check_fractions" (defArgs s_check_fractions) (defBody s_check_fractions) (defScope s_check_fractions) .none kV_check_fractions dc_check_fractions pm_check_fractions an_check_fractions cd_check_fractions ct_check_fractions), sl_check_fractions⟩)
    (c_check_fractions : PySem.W.codeIn K cd_check_fractions "check_fractions" = true)
    (k_check_fractions : PySem.W.keepIn K (.ref f_check_fractions) = true)
    (a_quotient : PySem.W.nsIn K mainGlobals "quotient" = some (some (.ref f_quotient)))
    (l_quotient : K.lookup f_quotient = some ⟨oc_quotient, od_quotient, .func (PySem.W.fnOf "quotient" "quotient" (defArgs s_quotient) (defBody s_quotient) (defScope s_quotient) .none kV_quotient dc_quotient pm_quotient an_quotient cd_quotient ct_quotient), sl_quotient⟩)
    (c_quotient : PySem.W.codeIn K cd_quotient "quotient" = true)
    (k_quotient : PySem.W.keepIn K (.ref f_quotient) = true)
    (a_order : PySem.W.nsIn K mainGlobals "order" = some (some (.ref f_order)))
    (l_order : K.lookup f_order = some ⟨oc_order, od_order, .func (PySem.W.fnOf "order" "order" (defArgs s_order) (defBody s_order) (defScope s_order) .none kV_order dc_order pm_order an_order cd_order ct_order), sl_order⟩)
    (c_order : PySem.W.codeIn K cd_order "order" = true)
    (k_order : PySem.W.keepIn K (.ref f_order) = true)
    (a_compare : PySem.W.nsIn K mainGlobals "compare" = some (some (.ref f_compare)))
    (l_compare : K.lookup f_compare = some ⟨oc_compare, od_compare, .func (PySem.W.fnOf "compare" "compare" (defArgs s_compare) (defBody s_compare) (defScope s_compare) .none kV_compare dc_compare pm_compare an_compare cd_compare ct_compare), sl_compare⟩)
    (c_compare : PySem.W.codeIn K cd_compare "compare" = true)
    (k_compare : PySem.W.keepIn K (.ref f_compare) = true)
    (a_format_fraction : PySem.W.nsIn K mainGlobals "format_fraction" = some (some (.ref f_format_fraction)))
    (l_format_fraction : K.lookup f_format_fraction = some ⟨oc_format_fraction, od_format_fraction, .func (PySem.W.fnOf "format_fraction" "format_fraction" (defArgs s_format_fraction) (defBody s_format_fraction) (defScope s_format_fraction) .none kV_format_fraction dc_format_fraction pm_format_fraction an_format_fraction cd_format_fraction ct_format_fraction), sl_format_fraction⟩)
    (c_format_fraction : PySem.W.codeIn K cd_format_fraction "format_fraction" = true)
    (k_format_fraction : PySem.W.keepIn K (.ref f_format_fraction) = true)
    (a_is_numeral : PySem.W.nsIn K mainGlobals "is_numeral" = some (some (.ref f_is_numeral)))
    (l_is_numeral : K.lookup f_is_numeral = some ⟨oc_is_numeral, od_is_numeral, .func (PySem.W.fnOf "is_numeral" "is_numeral" (defArgs s_is_numeral) (defBody s_is_numeral) (defScope s_is_numeral) .none kV_is_numeral dc_is_numeral pm_is_numeral an_is_numeral cd_is_numeral ct_is_numeral), sl_is_numeral⟩)
    (c_is_numeral : PySem.W.codeIn K cd_is_numeral "is_numeral" = true)
    (k_is_numeral : PySem.W.keepIn K (.ref f_is_numeral) = true)
    (a_find_fraction : PySem.W.nsIn K mainGlobals "find_fraction" = some (some (.ref f_find_fraction)))
    (l_find_fraction : K.lookup f_find_fraction = some ⟨oc_find_fraction, od_find_fraction, .func (PySem.W.fnOf "find_fraction" "find_fraction" (defArgs s_find_fraction) (defBody s_find_fraction) (defScope s_find_fraction) .none kV_find_fraction dc_find_fraction pm_find_fraction an_find_fraction cd_find_fraction ct_find_fraction), sl_find_fraction⟩)
    (c_find_fraction : PySem.W.codeIn K cd_find_fraction "find_fraction" = true)
    (k_find_fraction : PySem.W.keepIn K (.ref f_find_fraction) = true)
    (a_l_less : PySem.W.nsIn K mainGlobals "_law_less" = some (some (.ref f_l_less)))
    (l_l_less : K.lookup f_l_less = some ⟨oc_l_less, od_l_less, .func (PySem.W.fnOf "_law_less" "_law_less" (defArgs s_l_less) (defBody s_l_less) (defScope s_l_less) .none kV_l_less dc_l_less pm_l_less an_l_less cd_l_less ct_l_less), sl_l_less⟩)
    (c_l_less : PySem.W.codeIn K cd_l_less "_law_less" = true)
    (k_l_less : PySem.W.keepIn K (.ref f_l_less) = true)
    (a_l_part : PySem.W.nsIn K mainGlobals "_law_part" = some (some (.ref f_l_part)))
    (l_l_part : K.lookup f_l_part = some ⟨oc_l_part, od_l_part, .func (PySem.W.fnOf "_law_part" "_law_part" (defArgs s_l_part) (defBody s_l_part) (defScope s_l_part) .none kV_l_part dc_l_part pm_l_part an_l_part cd_l_part ct_l_part), sl_l_part⟩)
    (c_l_part : PySem.W.codeIn K cd_l_part "_law_part" = true)
    (k_l_part : PySem.W.keepIn K (.ref f_l_part) = true)
    (a_product : PySem.W.nsIn K mainGlobals "product" = some (some (.ref f_product)))
    (l_product : K.lookup f_product = some ⟨oc_product, od_product, .func (PySem.W.fnOf "product" "product" (defArgs s_product) (defBody s_product) (defScope s_product) .none kV_product dc_product pm_product an_product cd_product ct_product), sl_product⟩)
    (c_product : PySem.W.codeIn K cd_product "product" = true)
    (k_product : PySem.W.keepIn K (.ref f_product) = true)
    (a_parse_fraction : PySem.W.nsIn K mainGlobals "parse_fraction" = some (some (.ref f_parse_fraction)))
    (l_parse_fraction : K.lookup f_parse_fraction = some ⟨oc_parse_fraction, od_parse_fraction, .func (PySem.W.fnOf "parse_fraction" "parse_fraction" (defArgs s_parse_fraction) (defBody s_parse_fraction) (defScope s_parse_fraction) .none kV_parse_fraction dc_parse_fraction pm_parse_fraction an_parse_fraction cd_parse_fraction ct_parse_fraction), sl_parse_fraction⟩)
    (c_parse_fraction : PySem.W.codeIn K cd_parse_fraction "parse_fraction" = true)
    (k_parse_fraction : PySem.W.keepIn K (.ref f_parse_fraction) = true)
    (a_l_two_right : PySem.W.nsIn K mainGlobals "_law_two_right" = some (some (.ref f_l_two_right)))
    (l_l_two_right : K.lookup f_l_two_right = some ⟨oc_l_two_right, od_l_two_right, .func (PySem.W.fnOf "_law_two_right" "_law_two_right" (defArgs s_l_two_right) (defBody s_l_two_right) (defScope s_l_two_right) .none kV_l_two_right dc_l_two_right pm_l_two_right an_l_two_right cd_l_two_right ct_l_two_right), sl_l_two_right⟩)
    (c_l_two_right : PySem.W.codeIn K cd_l_two_right "_law_two_right" = true)
    (k_l_two_right : PySem.W.keepIn K (.ref f_l_two_right) = true)
    (a_l_kept_right : PySem.W.nsIn K mainGlobals "_law_kept_right" = some (some (.ref f_l_kept_right)))
    (l_l_kept_right : K.lookup f_l_kept_right = some ⟨oc_l_kept_right, od_l_kept_right, .func (PySem.W.fnOf "_law_kept_right" "_law_kept_right" (defArgs s_l_kept_right) (defBody s_l_kept_right) (defScope s_l_kept_right) .none kV_l_kept_right dc_l_kept_right pm_l_kept_right an_l_kept_right cd_l_kept_right ct_l_kept_right), sl_l_kept_right⟩)
    (c_l_kept_right : PySem.W.codeIn K cd_l_kept_right "_law_kept_right" = true)
    (k_l_kept_right : PySem.W.keepIn K (.ref f_l_kept_right) = true)
    (a_l_three_right : PySem.W.nsIn K mainGlobals "_law_three_right" = some (some (.ref f_l_three_right)))
    (l_l_three_right : K.lookup f_l_three_right = some ⟨oc_l_three_right, od_l_three_right, .func (PySem.W.fnOf "_law_three_right" "_law_three_right" (defArgs s_l_three_right) (defBody s_l_three_right) (defScope s_l_three_right) .none kV_l_three_right dc_l_three_right pm_l_three_right an_l_three_right cd_l_three_right ct_l_three_right), sl_l_three_right⟩)
    (c_l_three_right : PySem.W.codeIn K cd_l_three_right "_law_three_right" = true)
    (k_l_three_right : PySem.W.keepIn K (.ref f_l_three_right) = true)
    (a_l_right : PySem.W.nsIn K mainGlobals "_law_right" = some (some (.ref f_l_right)))
    (l_l_right : K.lookup f_l_right = some ⟨oc_l_right, od_l_right, .func (PySem.W.fnOf "_law_right" "_law_right" (defArgs s_l_right) (defBody s_l_right) (defScope s_l_right) .none kV_l_right dc_l_right pm_l_right an_l_right cd_l_right ct_l_right), sl_l_right⟩)
    (c_l_right : PySem.W.codeIn K cd_l_right "_law_right" = true)
    (k_l_right : PySem.W.keepIn K (.ref f_l_right) = true)
    (a_law : PySem.W.nsIn K mainGlobals "law" = some (some (.ref f_law)))
    (l_law : K.lookup f_law = some ⟨oc_law, od_law, .func (PySem.W.fnOf "law" "law" (defArgs s_law) (defBody s_law) (defScope s_law) .none kV_law dc_law pm_law an_law cd_law ct_law), sl_law⟩)
    (c_law : PySem.W.codeIn K cd_law "law" = true)
    (k_law : PySem.W.keepIn K (.ref f_law) = true)
    (z_isinstance : PySem.W.nsIn K mainGlobals "isinstance" = some none)
    (z_bool : PySem.W.nsIn K mainGlobals "bool" = some none)
    (z_int : PySem.W.nsIn K mainGlobals "int" = some none)
    (z_len : PySem.W.nsIn K mainGlobals "len" = some none)
    (z_abs : PySem.W.nsIn K mainGlobals "abs" = some none)
    (z_divmod : PySem.W.nsIn K mainGlobals "divmod" = some none)
    (z_tuple : PySem.W.nsIn K mainGlobals "tuple" = some none)
    (z_str : PySem.W.nsIn K mainGlobals "str" = some none)
    (z_all : PySem.W.nsIn K mainGlobals "all" = some none)
    (z_range : PySem.W.nsIn K mainGlobals "range" = some none)
    (z_min : PySem.W.nsIn K mainGlobals "min" = some none)
    (z_max : PySem.W.nsIn K mainGlobals "max" = some none)
    : ∃ fd : FuncData, (∀ (s : Shared) (u : Value), BindsTo s fd ⟨[u], []⟩ [("_law_script", u)]) ∧ ∀ base : Heap, K.In base → base.Ns mainGlobals mg → FnT l.prog w K mg base 11 fa fd ["_law_script"] sp_law := by
  have e := hfa.symm.trans (PySem.W.mg_of X G a_law)
  cases e
  have F_common_divisor := fun_mk (st := s_common_divisor) l_common_divisor c_common_divisor k_common_divisor
  have b_common_divisor := F_common_divisor.binds (ps := ["one", "other"]) fun _ _ _ _ _ _ us hl => match us, hl with | [_, _], _ => rfl
  have m_common_divisor := PySem.W.mg_of X G a_common_divisor
  have F_lowest_terms := fun_mk (st := s_lowest_terms) l_lowest_terms c_lowest_terms k_lowest_terms
  have b_lowest_terms := F_lowest_terms.binds (ps := ["top", "bottom"]) fun _ _ _ _ _ _ us hl => match us, hl with | [_, _], _ => rfl
  have m_lowest_terms := PySem.W.mg_of X G a_lowest_terms
  have F_is_integer := fun_mk (st := s_is_integer) l_is_integer c_is_integer k_is_integer
  have b_is_integer := F_is_integer.binds (ps := ["value"]) fun _ _ _ _ _ _ us hl => match us, hl with | [_], _ => rfl
  have m_is_integer := PySem.W.mg_of X G a_is_integer
  have F_is_positive := fun_mk (st := s_is_positive) l_is_positive c_is_positive k_is_positive
  have b_is_positive := F_is_positive.binds (ps := ["value"]) fun _ _ _ _ _ _ us hl => match us, hl with | [_], _ => rfl
  have m_is_positive := PySem.W.mg_of X G a_is_positive
  have F_fraction : FunD K "fraction" "fraction" (defArgs s_fraction) (defBody s_fraction) (defScope s_fraction) [.int 1] [] f_fraction _ := ⟨⟨_, _, _, _, _, _, _, _, _, _, rfl, l_fraction, c_fraction, .inr ⟨by simp, T_fraction, _, [.int 1 tk_fraction], tn_fraction, rfl, t_fraction, rfl, .cons ⟨_, rfl⟩ .nil⟩, .inl rfl⟩, k_fraction⟩
  have b_fraction : Binds K _ ["top", "bottom"] [] := FunP.b F_fraction (by simp) fun T _ _ _ _ _ _ us its h1 h2 => match us, its, h1, h2 with | [_, _], [_], _, _ => ⟨_, rfl, rfl⟩
  have m_fraction := PySem.W.mg_of X G a_fraction
  have F_l_cell := fun_mk (st := s_l_cell) l_l_cell c_l_cell k_l_cell
  have b_l_cell := F_l_cell.binds (ps := ["_law_script", "_law_k"]) fun _ _ _ _ _ _ us hl => match us, hl with | [_, _], _ => rfl
  have m_l_cell := PySem.W.mg_of X G a_l_cell
  have F_l_pool := fun_mk (st := s_l_pool) l_l_pool c_l_pool k_l_pool
  have b_l_pool := F_l_pool.binds (ps := ["_law_figure"]) fun _ _ _ _ _ _ us hl => match us, hl with | [_], _ => rfl
  have m_l_pool := PySem.W.mg_of X G a_l_pool
  have F_l_draw := fun_mk (st := s_l_draw) l_l_draw c_l_draw k_l_draw
  have b_l_draw := F_l_draw.binds (ps := ["_law_pool_here", "_law_most"]) fun _ _ _ _ _ _ us hl => match us, hl with | [_, _], _ => rfl
  have m_l_draw := PySem.W.mg_of X G a_l_draw
  have F_l_low := fun_mk (st := s_l_low) l_l_low c_l_low k_l_low
  have b_l_low := F_l_low.binds (ps := ["_law_high_part", "_law_low_part"]) fun _ _ _ _ _ _ us hl => match us, hl with | [_, _], _ => rfl
  have m_l_low := PySem.W.mg_of X G a_l_low
  have F_is_fraction := fun_mk (st := s_is_fraction) l_is_fraction c_is_fraction k_is_fraction
  have b_is_fraction := F_is_fraction.binds (ps := ["value"]) fun _ _ _ _ _ _ us hl => match us, hl with | [_], _ => rfl
  have m_is_fraction := PySem.W.mg_of X G a_is_fraction
  have F_check_fractions := fun_mk (st := s_check_fractions) l_check_fractions c_check_fractions k_check_fractions
  have b_check_fractions := F_check_fractions.binds (ps := ["values"]) fun _ _ _ _ _ _ us hl => match us, hl with | [_], _ => rfl
  have m_check_fractions := PySem.W.mg_of X G a_check_fractions
  have F_quotient := fun_mk (st := s_quotient) l_quotient c_quotient k_quotient
  have b_quotient := F_quotient.binds (ps := ["one", "other"]) fun _ _ _ _ _ _ us hl => match us, hl with | [_, _], _ => rfl
  have m_quotient := PySem.W.mg_of X G a_quotient
  have F_order := fun_mk (st := s_order) l_order c_order k_order
  have b_order := F_order.binds (ps := ["left", "right"]) fun _ _ _ _ _ _ us hl => match us, hl with | [_, _], _ => rfl
  have m_order := PySem.W.mg_of X G a_order
  have F_compare := fun_mk (st := s_compare) l_compare c_compare k_compare
  have b_compare := F_compare.binds (ps := ["one", "other"]) fun _ _ _ _ _ _ us hl => match us, hl with | [_, _], _ => rfl
  have m_compare := PySem.W.mg_of X G a_compare
  have F_format_fraction := fun_mk (st := s_format_fraction) l_format_fraction c_format_fraction k_format_fraction
  have b_format_fraction := F_format_fraction.binds (ps := ["number"]) fun _ _ _ _ _ _ us hl => match us, hl with | [_], _ => rfl
  have m_format_fraction := PySem.W.mg_of X G a_format_fraction
  have F_is_numeral := fun_mk (st := s_is_numeral) l_is_numeral c_is_numeral k_is_numeral
  have b_is_numeral := F_is_numeral.binds (ps := ["text"]) fun _ _ _ _ _ _ us hl => match us, hl with | [_], _ => rfl
  have m_is_numeral := PySem.W.mg_of X G a_is_numeral
  have F_find_fraction := fun_mk (st := s_find_fraction) l_find_fraction c_find_fraction k_find_fraction
  have b_find_fraction := F_find_fraction.binds (ps := ["text"]) fun _ _ _ _ _ _ us hl => match us, hl with | [_], _ => rfl
  have m_find_fraction := PySem.W.mg_of X G a_find_fraction
  have F_l_less := fun_mk (st := s_l_less) l_l_less c_l_less k_l_less
  have b_l_less := F_l_less.binds (ps := ["_law_lead", "_law_more"]) fun _ _ _ _ _ _ us hl => match us, hl with | [_, _], _ => rfl
  have m_l_less := PySem.W.mg_of X G a_l_less
  have F_l_part := fun_mk (st := s_l_part) l_l_part c_l_part k_l_part
  have b_l_part := F_l_part.binds (ps := ["_law_pool_here", "_law_great"]) fun _ _ _ _ _ _ us hl => match us, hl with | [_, _], _ => rfl
  have m_l_part := PySem.W.mg_of X G a_l_part
  have F_product := fun_mk (st := s_product) l_product c_product k_product
  have hba_product : ∀ us : List Value, bindArgs (PySem.W.fnOf "product" "product" (defArgs s_product) (defBody s_product) (defScope s_product) .none kV_product dc_product pm_product an_product cd_product ct_product) ⟨us, []⟩ = (newTuple us >>= fun t => pure [(("fractions" : Str), t)]) := fun us => by cases us <;> rfl
  have m_product := PySem.W.mg_of X G a_product
  have F_parse_fraction := fun_mk (st := s_parse_fraction) l_parse_fraction c_parse_fraction k_parse_fraction
  have b_parse_fraction := F_parse_fraction.binds (ps := ["text"]) fun _ _ _ _ _ _ us hl => match us, hl with | [_], _ => rfl
  have m_parse_fraction := PySem.W.mg_of X G a_parse_fraction
  have F_l_two_right := fun_mk (st := s_l_two_right) l_l_two_right c_l_two_right k_l_two_right
  have b_l_two_right := F_l_two_right.binds (ps := ["_law_lead", "_law_more"]) fun _ _ _ _ _ _ us hl => match us, hl with | [_, _], _ => rfl
  have m_l_two_right := PySem.W.mg_of X G a_l_two_right
  have F_l_kept_right := fun_mk (st := s_l_kept_right) l_l_kept_right c_l_kept_right k_l_kept_right
  have b_l_kept_right := F_l_kept_right.binds (ps := ["_law_found"]) fun _ _ _ _ _ _ us hl => match us, hl with | [_], _ => rfl
  have m_l_kept_right := PySem.W.mg_of X G a_l_kept_right
  have F_l_three_right := fun_mk (st := s_l_three_right) l_l_three_right c_l_three_right k_l_three_right
  have b_l_three_right := F_l_three_right.binds (ps := ["_law_lead", "_law_more", "_law_last"]) fun _ _ _ _ _ _ us hl => match us, hl with | [_, _, _], _ => rfl
  have m_l_three_right := PySem.W.mg_of X G a_l_three_right
  have F_l_right := fun_mk (st := s_l_right) l_l_right c_l_right k_l_right
  have b_l_right := F_l_right.binds (ps := ["_law_pool_here"]) fun _ _ _ _ _ _ us hl => match us, hl with | [_], _ => rfl
  have m_l_right := PySem.W.mg_of X G a_l_right
  have F_law := fun_mk (st := s_law) l_law c_law k_law
  have b_law := F_law.binds (ps := ["_law_script"]) fun _ _ _ _ _ _ us hl => match us, hl with | [_], _ => rfl
  have m_law := PySem.W.mg_of X G a_law
  have n_isinstance := PySem.W.mg_none_of X G z_isinstance
  have n_bool := PySem.W.mg_none_of X G z_bool
  have n_int := PySem.W.mg_none_of X G z_int
  have n_len := PySem.W.mg_none_of X G z_len
  have n_abs := PySem.W.mg_none_of X G z_abs
  have n_divmod := PySem.W.mg_none_of X G z_divmod
  have n_tuple := PySem.W.mg_none_of X G z_tuple
  have n_str := PySem.W.mg_none_of X G z_str
  have n_all := PySem.W.mg_none_of X G z_all
  have n_range := PySem.W.mg_none_of X G z_range
  have n_min := PySem.W.mg_none_of X G z_min
  have n_max := PySem.W.mg_none_of X G z_max
  refine ⟨PySem.W.fnOf "law" "law" (defArgs s_law) (defBody s_law) (defScope s_law) .none kV_law dc_law pm_law an_law cd_law ct_law, fun s u => .of_eq rfl, fun base inB nsB => ?_⟩
  have G_common_divisor := ok_common_divisor (P := l.prog) (w := w) (mg := mg) (base := base) F_common_divisor 
  have G_lowest_terms := ok_lowest_terms (P := l.prog) (w := w) (mg := mg) (base := base) F_lowest_terms G_common_divisor m_common_divisor k_common_divisor b_common_divisor
  have G_is_integer := ok_is_integer (P := l.prog) (w := w) (mg := mg) (base := base) F_is_integer n_isinstance n_bool n_int
  have G_is_positive := ok_is_positive (P := l.prog) (w := w) (mg := mg) (base := base) F_is_positive G_is_integer m_is_integer k_is_integer b_is_integer
  have G_fraction := ok_fraction (P := l.prog) (w := w) (mg := mg) (base := base) F_fraction G_lowest_terms m_lowest_terms k_lowest_terms b_lowest_terms G_is_positive m_is_positive k_is_positive b_is_positive
  have G_l_cell := ok_l_cell (P := l.prog) (w := w) (mg := mg) (base := base) F_l_cell n_len
  have G_l_pool := ok_l_pool (P := l.prog) (w := w) (mg := mg) (base := base) F_l_pool n_abs
  have G_l_draw := ok_l_draw (P := l.prog) (w := w) (mg := mg) (base := base) F_l_draw n_divmod
  have G_l_low := ok_l_low (P := l.prog) (w := w) (mg := mg) (base := base) F_l_low 
  have G_is_fraction := ok_is_fraction (P := l.prog) (w := w) (mg := mg) (base := base) F_is_fraction n_len n_isinstance n_tuple G_common_divisor m_common_divisor k_common_divisor b_common_divisor G_is_positive m_is_positive k_is_positive b_is_positive
  have G_check_fractions := ok_check_fractions (P := l.prog) (w := w) (mg := mg) (base := base) F_check_fractions G_is_fraction m_is_fraction k_is_fraction b_is_fraction
  have G_quotient := ok_quotient (P := l.prog) (w := w) (mg := mg) (base := base) F_quotient G_lowest_terms m_lowest_terms k_lowest_terms b_lowest_terms G_check_fractions m_check_fractions k_check_fractions b_check_fractions
  have G_order := ok_order (P := l.prog) (w := w) (mg := mg) (base := base) F_order 
  have G_compare := ok_compare (P := l.prog) (w := w) (mg := mg) (base := base) F_compare G_order m_order k_order b_order G_check_fractions m_check_fractions k_check_fractions b_check_fractions
  have G_format_fraction := ok_format_fraction (P := l.prog) (w := w) (mg := mg) (base := base) F_format_fraction G_check_fractions m_check_fractions k_check_fractions b_check_fractions
  have G_is_numeral := ok_is_numeral (P := l.prog) (w := w) (mg := mg) (base := base) F_is_numeral 
  have G_find_fraction := ok_find_fraction (P := l.prog) (w := w) (mg := mg) (base := base) F_find_fraction n_int n_isinstance n_str G_format_fraction m_format_fraction k_format_fraction b_format_fraction G_is_fraction m_is_fraction k_is_fraction b_is_fraction G_is_numeral m_is_numeral k_is_numeral b_is_numeral
  have G_l_less := ok_l_less (P := l.prog) (w := w) (mg := mg) (base := base) F_l_less 
  have G_l_part := ok_l_part (P := l.prog) (w := w) (mg := mg) (base := base) F_l_part G_l_low m_l_low k_l_low b_l_low G_l_draw m_l_draw k_l_draw b_l_draw
  have G_product := ok_product (P := l.prog) (w := w) (mg := mg) (base := base) F_product G_lowest_terms m_lowest_terms k_lowest_terms b_lowest_terms G_check_fractions m_check_fractions k_check_fractions b_check_fractions hba_product
  have G_parse_fraction := ok_parse_fraction (P := l.prog) (w := w) (mg := mg) (base := base) F_parse_fraction G_find_fraction m_find_fraction k_find_fraction b_find_fraction
  have G_l_two_right := ok_l_two_right (P := l.prog) (w := w) (mg := mg) (base := base) F_l_two_right G_l_less m_l_less k_l_less b_l_less G_compare m_compare k_compare b_compare G_quotient m_quotient k_quotient b_quotient G_product m_product k_product
  have G_l_kept_right := ok_l_kept_right (P := l.prog) (w := w) (mg := mg) (base := base) F_l_kept_right G_compare m_compare k_compare b_compare G_fraction m_fraction k_fraction b_fraction G_parse_fraction m_parse_fraction k_parse_fraction b_parse_fraction G_format_fraction m_format_fraction k_format_fraction b_format_fraction G_is_fraction m_is_fraction k_is_fraction b_is_fraction
  have G_l_three_right := ok_l_three_right (P := l.prog) (w := w) (mg := mg) (base := base) F_l_three_right n_all G_quotient m_quotient k_quotient b_quotient G_product m_product k_product G_l_kept_right m_l_kept_right k_l_kept_right b_l_kept_right G_compare m_compare k_compare b_compare
  have G_l_right := ok_l_right (P := l.prog) (w := w) (mg := mg) (base := base) F_l_right n_range G_l_three_right m_l_three_right k_l_three_right b_l_three_right G_l_two_right m_l_two_right k_l_two_right b_l_two_right G_l_part m_l_part k_l_part b_l_part
  have G_law := ok_law (P := l.prog) (w := w) (mg := mg) (base := base) F_law n_range n_len n_min n_max n_all G_l_right m_l_right k_l_right b_l_right G_l_pool m_l_pool k_l_pool b_l_pool G_l_cell m_l_cell k_l_cell b_l_cell
  exact G_law
end Gd
open PySem PySem.W PyProof.Rows
set_option maxRecDepth 100000 in
set_option maxHeartbeats 0 in
theorem PySem.Challenge.cw_sizechains_k07_whole_rules_of_exact_holds : PySem.Challenge.rw_sizechains_k07_whole_rules_of_exact.Holds := by
  w_on; o_law
  refine PySem.W.holds_open (q := Gd.q0) (loose := Gd.loose0) (Xt := Gd.seen0) (XP := PySem.W.XL Gd.q0 Gd.lv0) Gd.left0 (PySem.W.kHook Gd.K0 Gd.as0 Gd.as0_ok).of
    (PySem.W.kHook Gd.K0 Gd.as0 Gd.as0_ok).keeps (fun s h => PySem.W.xl_of s (Bool.and_eq_true_iff.mp h).1) PySem.W.XL.keeps
    (by rfl) (by rfl) (by rfl) (fun s h => PySem.W.recFacts_of (Bool.and_eq_true_iff.mp h).2) (by rfl) (by assumption) (by decide +kernel)
    ⟨rfl, rfl, rfl, rfl, rfl, by decide +kernel⟩ ?hw ?hc
  (case hw => w_witness2)
  k_fill
  refine Gd.walkT (l := PySem.Challenge.rw_sizechains_k07_whole_rules_of_exact) (k := 11) (x := "_law_script") rfl rfl ⟨rfl, by decide, by decide⟩ (fun w h Y => PySem.W.kIn_of Y) ?F
  case F =>
    intro w mg fa h KX G hmg
    refine' Gd.all_mk KX G hmg ?a_common_divisor ?l_common_divisor ?c_common_divisor ?k_common_divisor ?a_lowest_terms ?l_lowest_terms ?c_lowest_terms ?k_lowest_terms ?a_is_integer ?l_is_integer ?c_is_integer ?k_is_integer ?a_is_positive ?l_is_positive ?c_is_positive ?k_is_positive ?a_fraction ?l_fraction ?c_fraction ?k_fraction ?t_fraction ?a_l_cell ?l_l_cell ?c_l_cell ?k_l_cell ?a_l_pool ?l_l_pool ?c_l_pool ?k_l_pool ?a_l_draw ?l_l_draw ?c_l_draw ?k_l_draw ?a_l_low ?l_l_low ?c_l_low ?k_l_low ?a_is_fraction ?l_is_fraction ?c_is_fraction ?k_is_fraction ?a_check_fractions ?l_check_fractions ?c_check_fractions ?k_check_fractions ?a_quotient ?l_quotient ?c_quotient ?k_quotient ?a_order ?l_order ?c_order ?k_order ?a_compare ?l_compare ?c_compare ?k_compare ?a_format_fraction ?l_format_fraction ?c_format_fraction ?k_format_fraction ?a_is_numeral ?l_is_numeral ?c_is_numeral ?k_is_numeral ?a_find_fraction ?l_find_fraction ?c_find_fraction ?k_find_fraction ?a_l_less ?l_l_less ?c_l_less ?k_l_less ?a_l_part ?l_l_part ?c_l_part ?k_l_part ?a_product ?l_product ?c_product ?k_product ?a_parse_fraction ?l_parse_fraction ?c_parse_fraction ?k_parse_fraction ?a_l_two_right ?l_l_two_right ?c_l_two_right ?k_l_two_right ?a_l_kept_right ?l_l_kept_right ?c_l_kept_right ?k_l_kept_right ?a_l_three_right ?l_l_three_right ?c_l_three_right ?k_l_three_right ?a_l_right ?l_l_right ?c_l_right ?k_l_right ?a_law ?l_law ?c_law ?k_law ?z_isinstance ?z_bool ?z_int ?z_len ?z_abs ?z_divmod ?z_tuple ?z_str ?z_all ?z_range ?z_min ?z_max
    (case a_common_divisor => first | k_is | kernel_rfl | rfl | decide +kernel)
    (case l_common_divisor => first | k_is | kernel_rfl | rfl | decide +kernel)
    (case c_common_divisor => first | k_is | kernel_rfl | rfl | decide +kernel)
    (case k_common_divisor => first | k_is | kernel_rfl | rfl | decide +kernel)
    (case a_lowest_terms => first | k_is | kernel_rfl | rfl | decide +kernel)
    (case l_lowest_terms => first | k_is | kernel_rfl | rfl | decide +kernel)
    (case c_lowest_terms => first | k_is | kernel_rfl | rfl | decide +kernel)
    (case k_lowest_terms => first | k_is | kernel_rfl | rfl | decide +kernel)
    (case a_is_integer => first | k_is | kernel_rfl | rfl | decide +kernel)
    (case l_is_integer => first | k_is | kernel_rfl | rfl | decide +kernel)
    (case c_is_integer => first | k_is | kernel_rfl | rfl | decide +kernel)
    (case k_is_integer => first | k_is | kernel_rfl | rfl | decide +kernel)
    (case a_is_positive => first | k_is | kernel_rfl | rfl | decide +kernel)
    (case l_is_positive => first | k_is | kernel_rfl | rfl | decide +kernel)
    (case c_is_positive => first | k_is | kernel_rfl | rfl | decide +kernel)
    (case k_is_positive => first | k_is | kernel_rfl | rfl | decide +kernel)
    (case a_fraction => first | k_is | kernel_rfl | rfl | decide +kernel)
    (case l_fraction => first | k_is | kernel_rfl | rfl | decide +kernel)
    (case c_fraction => first | k_is | kernel_rfl | rfl | decide +kernel)
    (case k_fraction => first | k_is | kernel_rfl | rfl | decide +kernel)
    (case t_fraction => first | k_is | kernel_rfl | rfl | decide +kernel)
    (case a_l_cell => first | k_is | kernel_rfl | rfl | decide +kernel)
    (case l_l_cell => first | k_is | kernel_rfl | rfl | decide +kernel)
    (case c_l_cell => first | k_is | kernel_rfl | rfl | decide +kernel)
    (case k_l_cell => first | k_is | kernel_rfl | rfl | decide +kernel)
    (case a_l_pool => first | k_is | kernel_rfl | rfl | decide +kernel)
    (case l_l_pool => first | k_is | kernel_rfl | rfl | decide +kernel)
    (case c_l_pool => first | k_is | kernel_rfl | rfl | decide +kernel)
    (case k_l_pool => first | k_is | kernel_rfl | rfl | decide +kernel)
    (case a_l_draw => first | k_is | kernel_rfl | rfl | decide +kernel)
    (case l_l_draw => first | k_is | kernel_rfl | rfl | decide +kernel)
    (case c_l_draw => first | k_is | kernel_rfl | rfl | decide +kernel)
    (case k_l_draw => first | k_is | kernel_rfl | rfl | decide +kernel)
    (case a_l_low => first | k_is | kernel_rfl | rfl | decide +kernel)
    (case l_l_low => first | k_is | kernel_rfl | rfl | decide +kernel)
    (case c_l_low => first | k_is | kernel_rfl | rfl | decide +kernel)
    (case k_l_low => first | k_is | kernel_rfl | rfl | decide +kernel)
    (case a_is_fraction => first | k_is | kernel_rfl | rfl | decide +kernel)
    (case l_is_fraction => first | k_is | kernel_rfl | rfl | decide +kernel)
    (case c_is_fraction => first | k_is | kernel_rfl | rfl | decide +kernel)
    (case k_is_fraction => first | k_is | kernel_rfl | rfl | decide +kernel)
    (case a_check_fractions => first | k_is | kernel_rfl | rfl | decide +kernel)
    (case l_check_fractions => first | k_is | kernel_rfl | rfl | decide +kernel)
    (case c_check_fractions => first | k_is | kernel_rfl | rfl | decide +kernel)
    (case k_check_fractions => first | k_is | kernel_rfl | rfl | decide +kernel)
    (case a_quotient => first | k_is | kernel_rfl | rfl | decide +kernel)
    (case l_quotient => first | k_is | kernel_rfl | rfl | decide +kernel)
    (case c_quotient => first | k_is | kernel_rfl | rfl | decide +kernel)
    (case k_quotient => first | k_is | kernel_rfl | rfl | decide +kernel)
    (case a_order => first | k_is | kernel_rfl | rfl | decide +kernel)
    (case l_order => first | k_is | kernel_rfl | rfl | decide +kernel)
    (case c_order => first | k_is | kernel_rfl | rfl | decide +kernel)
    (case k_order => first | k_is | kernel_rfl | rfl | decide +kernel)
    (case a_compare => first | k_is | kernel_rfl | rfl | decide +kernel)
    (case l_compare => first | k_is | kernel_rfl | rfl | decide +kernel)
    (case c_compare => first | k_is | kernel_rfl | rfl | decide +kernel)
    (case k_compare => first | k_is | kernel_rfl | rfl | decide +kernel)
    (case a_format_fraction => first | k_is | kernel_rfl | rfl | decide +kernel)
    (case l_format_fraction => first | k_is | kernel_rfl | rfl | decide +kernel)
    (case c_format_fraction => first | k_is | kernel_rfl | rfl | decide +kernel)
    (case k_format_fraction => first | k_is | kernel_rfl | rfl | decide +kernel)
    (case a_is_numeral => first | k_is | kernel_rfl | rfl | decide +kernel)
    (case l_is_numeral => first | k_is | kernel_rfl | rfl | decide +kernel)
    (case c_is_numeral => first | k_is | kernel_rfl | rfl | decide +kernel)
    (case k_is_numeral => first | k_is | kernel_rfl | rfl | decide +kernel)
    (case a_find_fraction => first | k_is | kernel_rfl | rfl | decide +kernel)
    (case l_find_fraction => first | k_is | kernel_rfl | rfl | decide +kernel)
    (case c_find_fraction => first | k_is | kernel_rfl | rfl | decide +kernel)
    (case k_find_fraction => first | k_is | kernel_rfl | rfl | decide +kernel)
    (case a_l_less => first | k_is | kernel_rfl | rfl | decide +kernel)
    (case l_l_less => first | k_is | kernel_rfl | rfl | decide +kernel)
    (case c_l_less => first | k_is | kernel_rfl | rfl | decide +kernel)
    (case k_l_less => first | k_is | kernel_rfl | rfl | decide +kernel)
    (case a_l_part => first | k_is | kernel_rfl | rfl | decide +kernel)
    (case l_l_part => first | k_is | kernel_rfl | rfl | decide +kernel)
    (case c_l_part => first | k_is | kernel_rfl | rfl | decide +kernel)
    (case k_l_part => first | k_is | kernel_rfl | rfl | decide +kernel)
    (case a_product => first | k_is | kernel_rfl | rfl | decide +kernel)
    (case l_product => first | k_is | kernel_rfl | rfl | decide +kernel)
    (case c_product => first | k_is | kernel_rfl | rfl | decide +kernel)
    (case k_product => first | k_is | kernel_rfl | rfl | decide +kernel)
    (case a_parse_fraction => first | k_is | kernel_rfl | rfl | decide +kernel)
    (case l_parse_fraction => first | k_is | kernel_rfl | rfl | decide +kernel)
    (case c_parse_fraction => first | k_is | kernel_rfl | rfl | decide +kernel)
    (case k_parse_fraction => first | k_is | kernel_rfl | rfl | decide +kernel)
    (case a_l_two_right => first | k_is | kernel_rfl | rfl | decide +kernel)
    (case l_l_two_right => first | k_is | kernel_rfl | rfl | decide +kernel)
    (case c_l_two_right => first | k_is | kernel_rfl | rfl | decide +kernel)
    (case k_l_two_right => first | k_is | kernel_rfl | rfl | decide +kernel)
    (case a_l_kept_right => first | k_is | kernel_rfl | rfl | decide +kernel)
    (case l_l_kept_right => first | k_is | kernel_rfl | rfl | decide +kernel)
    (case c_l_kept_right => first | k_is | kernel_rfl | rfl | decide +kernel)
    (case k_l_kept_right => first | k_is | kernel_rfl | rfl | decide +kernel)
    (case a_l_three_right => first | k_is | kernel_rfl | rfl | decide +kernel)
    (case l_l_three_right => first | k_is | kernel_rfl | rfl | decide +kernel)
    (case c_l_three_right => first | k_is | kernel_rfl | rfl | decide +kernel)
    (case k_l_three_right => first | k_is | kernel_rfl | rfl | decide +kernel)
    (case a_l_right => first | k_is | kernel_rfl | rfl | decide +kernel)
    (case l_l_right => first | k_is | kernel_rfl | rfl | decide +kernel)
    (case c_l_right => first | k_is | kernel_rfl | rfl | decide +kernel)
    (case k_l_right => first | k_is | kernel_rfl | rfl | decide +kernel)
    (case a_law => first | k_is | kernel_rfl | rfl | decide +kernel)
    (case l_law => first | k_is | kernel_rfl | rfl | decide +kernel)
    (case c_law => first | k_is | kernel_rfl | rfl | decide +kernel)
    (case k_law => first | k_is | kernel_rfl | rfl | decide +kernel)
    (case z_isinstance => first | k_is | kernel_rfl | rfl | decide +kernel)
    (case z_bool => first | k_is | kernel_rfl | rfl | decide +kernel)
    (case z_int => first | k_is | kernel_rfl | rfl | decide +kernel)
    (case z_len => first | k_is | kernel_rfl | rfl | decide +kernel)
    (case z_abs => first | k_is | kernel_rfl | rfl | decide +kernel)
    (case z_divmod => first | k_is | kernel_rfl | rfl | decide +kernel)
    (case z_tuple => first | k_is | kernel_rfl | rfl | decide +kernel)
    (case z_str => first | k_is | kernel_rfl | rfl | decide +kernel)
    (case z_all => first | k_is | kernel_rfl | rfl | decide +kernel)
    (case z_range => first | k_is | kernel_rfl | rfl | decide +kernel)
    (case z_min => first | k_is | kernel_rfl | rfl | decide +kernel)
    (case z_max => first | k_is | kernel_rfl | rfl | decide +kernel)
