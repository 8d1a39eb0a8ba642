import PyProof.Rows.All
import Wide.All
import OpenK.AllK
import Wide.FinOn
import HandS.ForMost
import HandS.Exc
import HandS.TryOnly
import HandS.ExcOwn
import HandS.WordsExc
import HandS.Flow
import HandS.Wide
import HandS.WideBits
import HandS.Defaults
import HandS.IsInst
import HandS.RaiseMore
import HandS.FStr
import HandS.Text
import HandS.StrMore
import HandS.Star
import HandS.Style
import HandS.ClsMeth
import HandS.Property
import HandS.CallLocal
import HandS.MakeKwOnly
import KE.KCallOwn
import PyProof.InstSpecial
import KE.KExcIs
import KE.KTryMore
import HandS.ExcInit
import HandS.ExcCtx
import HandS.HotCalls
import HandS.ExcField
import HandS.CallSlots
import HandS.Lambda
import HandS.EndTab
import HandS.SetFor
import HandS.Codes
import HandS.Walk
import HandS.DeepEq
import KE.KOpsOwn
import OpenK.KMeth
import HandS.TupMul
import HandS.OwnEq
import KE.GoesMore
import HandS.TupAny
import HandS.Deep
import KE.GoesZip
import HandS.Small
import PyProof.Rows.Range3
import KE.KDictZip
import KE.DataEq
import HandS.Iter
import HandS.Dict
import KE.KRevSl
import HandS.Zip
import KE.DatumOrd
import KE.KUnpackStar
import HandS.Strs
import KE.KUnpack
import PyProof.Rows.StrRev
import KE.OsRunLaw
import HandS.Words
import PySem.Challenge.RW_sizechains_k05_texts_of_fractions
set_option Elab.async false
set_option linter.all false
set_option exponentiation.threshold 10000
set_option maxRecDepth 100000
namespace Gd
open PySem PySem.Spec PyProof.Rows L2
/-! the head -/
def top (i : Nat) : Stmt := PySem.Challenge.pw_sizechains_k05_texts_of_fractions.main.body.getD i (.Pass ⟨0, 0, 0, 0⟩)
abbrev s_InvalidFraction_init : Stmt := inClass (top 2) 0
abbrev s_InvalidText_init : Stmt := inClass (top 3) 0
abbrev s_is_integer : Stmt := top 5
abbrev s_is_positive : Stmt := top 6
abbrev s_common_divisor : Stmt := top 7
abbrev s_is_fraction : Stmt := top 8
abbrev s_check_fractions : Stmt := top 9
abbrev s_format_fraction : Stmt := top 10
abbrev s_is_numeral : Stmt := top 11
abbrev s_find_fraction : Stmt := top 12
abbrev s_parse_fraction : Stmt := top 13
abbrev s_l_cell : Stmt := top 15
abbrev s_l_pool : Stmt := top 16
abbrev s_l_draw : Stmt := top 17
abbrev s_l_low : Stmt := top 18
abbrev s_l_part : Stmt := top 19
abbrev s_l_shown : Stmt := top 20
abbrev s_l_read : Stmt := top 21
abbrev s_l_parsed : Stmt := top 22
abbrev s_l_text_right : Stmt := top 23
abbrev s_l_part_right : Stmt := top 24
abbrev s_l_bent : Stmt := top 25
abbrev s_l_by_hand : Stmt := top 26
abbrev s_l_right : Stmt := top 27
abbrev s_law : Stmt := top 28
def q0 : Program := { PySem.Challenge.rw_sizechains_k05_texts_of_fractions.row.prog with main := { PySem.Challenge.rw_sizechains_k05_texts_of_fractions.row.prog.main with body := [top 28] } }
abbrev loose0 : List Str := [Str.ofString "PictureError", Str.ofString "InvalidFraction", Str.ofString "InvalidText", Str.ofString "is_integer", Str.ofString "is_positive", Str.ofString "common_divisor", Str.ofString "is_fraction", Str.ofString "check_fractions", Str.ofString "format_fraction", Str.ofString "is_numeral", Str.ofString "find_fraction", Str.ofString "parse_fraction", Str.ofString "_law_cell", Str.ofString "_law_pool", Str.ofString "_law_draw", Str.ofString "_law_low", Str.ofString "_law_part", Str.ofString "_law_shown", Str.ofString "_law_read", Str.ofString "_law_parsed", Str.ofString "_law_text_right", Str.ofString "_law_part_right", Str.ofString "_law_bent", Str.ofString "_law_by_hand", Str.ofString "_law_right"]
abbrev lv0 : List (Str × PySem.W.WData) := []
abbrev seen0 (s : Shared) : Bool := PySem.W.xlAt q0 lv0 s && PySem.W.recOk (PySem.W.RowW.records (PySem.W.OpenRow.toRowW PySem.Challenge.rw_sizechains_k05_texts_of_fractions.row)) s
def K0 : PySem.Params → PySem.W.Frag := fun P => 
  (nat_lit 2, { cls := Value.none, data := Data.dict #[] }) ::
  (nat_lit 3, { cls := Value.type "dict", data := Data.dict #[{ hash := PyData.keyHash P (Str.ofString "__name__"), key := Value.str (Str.ofString "__name__") 165, val := Value.str (Str.ofString "law_sizechains_k05_texts_of_fractions") 333 }, { hash := PyData.keyHash P (Str.ofString "__doc__"), key := Value.str (Str.ofString "__doc__") 166, val := Value.none }, { hash := PyData.keyHash P (Str.ofString "__package__"), key := Value.str (Str.ofString "__package__") 167, val := Value.none }, { hash := PyData.keyHash P (Str.ofString "__loader__"), key := Value.str (Str.ofString "__loader__") 168, val := Value.builtin "__main__.__loader__#opaque" }, { hash := PyData.keyHash P (Str.ofString "__spec__"), key := Value.str (Str.ofString "__spec__") 169, val := Value.none }, { hash := PyData.keyHash P (Str.ofString "__annotations__"), key := Value.str (Str.ofString "__annotations__") 170, val := Value.ref 6 }, { hash := PyData.keyHash P (Str.ofString "__builtins__"), key := Value.str (Str.ofString "__builtins__") 171, val := Value.ref 4 }, { hash := PyData.keyHash P (Str.ofString "__file__"), key := Value.str (Str.ofString "__file__") 173, val := Value.str (Str.ofString "/claim/cut.py") 172 }, { hash := PyData.keyHash P (Str.ofString "__cached__"), key := Value.str (Str.ofString "__cached__") 174, val := Value.none }, { hash := PyData.keyHash P (Str.ofString "PictureError"), key := Value.str (Str.ofString "PictureError") 206, val := Value.ref 24 }, { hash := PyData.keyHash P (Str.ofString "InvalidFraction"), key := Value.str (Str.ofString "InvalidFraction") 231, val := Value.ref 44 }, { hash := PyData.keyHash P (Str.ofString "InvalidText"), key := Value.str (Str.ofString "InvalidText") 256, val := Value.ref 63 }, { hash := PyData.keyHash P (Str.ofString "is_integer"), key := Value.str (Str.ofString "is_integer") 265, val := Value.ref 72 }, { hash := PyData.keyHash P (Str.ofString "is_positive"), key := Value.str (Str.ofString "is_positive") 272, val := Value.ref 79 }, { hash := PyData.keyHash P (Str.ofString "common_divisor"), key := Value.str (Str.ofString "common_divisor") 280, val := Value.ref 86 }, { hash := PyData.keyHash P (Str.ofString "is_fraction"), key := Value.str (Str.ofString "is_fraction") 289, val := Value.ref 93 }, { hash := PyData.keyHash P (Str.ofString "check_fractions"), key := Value.str (Str.ofString "check_fractions") 297, val := Value.ref 100 }, { hash := PyData.keyHash P (Str.ofString "format_fraction"), key := Value.str (Str.ofString "format_fraction") 306, val := Value.ref 107 }, { hash := PyData.keyHash P (Str.ofString "is_numeral"), key := Value.str (Str.ofString "is_numeral") 313, val := Value.ref 114 }, { hash := PyData.keyHash P (Str.ofString "find_fraction"), key := Value.str (Str.ofString "find_fraction") 324, val := Value.ref 121 }, { hash := PyData.keyHash P (Str.ofString "parse_fraction"), key := Value.str (Str.ofString "parse_fraction") 332, val := Value.ref 128 }, { hash := PyData.keyHash P (Str.ofString "_law_cell"), key := Value.str (Str.ofString "_law_cell") 344, val := Value.ref 135 }, { hash := PyData.keyHash P (Str.ofString "_law_pool"), key := Value.str (Str.ofString "_law_pool") 352, val := Value.ref 142 }, { hash := PyData.keyHash P (Str.ofString "_law_draw"), key := Value.str (Str.ofString "_law_draw") 362, val := Value.ref 149 }, { hash := PyData.keyHash P (Str.ofString "_law_low"), key := Value.str (Str.ofString "_law_low") 372, val := Value.ref 156 }, { hash := PyData.keyHash P (Str.ofString "_law_part"), key := Value.str (Str.ofString "_law_part") 382, val := Value.ref 163 }, { hash := PyData.keyHash P (Str.ofString "_law_shown"), key := Value.str (Str.ofString "_law_shown") 389, val := Value.ref 170 }, { hash := PyData.keyHash P (Str.ofString "_law_read"), key := Value.str (Str.ofString "_law_read") 395, val := Value.ref 175 }, { hash := PyData.keyHash P (Str.ofString "_law_parsed"), key := Value.str (Str.ofString "_law_parsed") 404, val := Value.ref 182 }, { hash := PyData.keyHash P (Str.ofString "_law_text_right"), key := Value.str (Str.ofString "_law_text_right") 414, val := Value.ref 189 }, { hash := PyData.keyHash P (Str.ofString "_law_part_right"), key := Value.str (Str.ofString "_law_part_right") 423, val := Value.ref 196 }, { hash := PyData.keyHash P (Str.ofString "_law_bent"), key := Value.str (Str.ofString "_law_bent") 436, val := Value.ref 203 }, { hash := PyData.keyHash P (Str.ofString "_law_by_hand"), key := Value.str (Str.ofString "_law_by_hand") 442, val := Value.ref 208 }, { hash := PyData.keyHash P (Str.ofString "_law_right"), key := Value.str (Str.ofString "_law_right") 448, val := Value.ref 213 }, { hash := PyData.keyHash P (Str.ofString "law"), key := Value.str (Str.ofString "law") 454, val := Value.ref 218 }] 35 }) ::
  (nat_lit 15, { cls := Value.type "tuple", data := Data.seq #[Value.type "ValueError"] }) ::
  (nat_lit 22, { cls := Value.type "tuple", data := Data.seq #[] }) ::
  (nat_lit 23, { cls := Value.type "dict", data := Data.dict #[{ hash := PyData.keyHash P (Str.ofString "__module__"), key := Value.str (Str.ofString "__module__") 196, val := Value.str (Str.ofString "sizechains.errors") 187 }, { hash := PyData.keyHash P (Str.ofString "__firstlineno__"), key := Value.str (Str.ofString "__firstlineno__") 200, val := Value.int 2 199 }, { hash := PyData.keyHash P (Str.ofString "__static_attributes__"), key := Value.str (Str.ofString "__static_attributes__") 201, val := Value.ref 22 }, { hash := PyData.keyHash P (Str.ofString "__weakref__"), key := Value.str (Str.ofString "__weakref__") 203, val := Value.ref 25 }, { hash := PyData.keyHash P (Str.ofString "__doc__"), key := Value.str (Str.ofString "__doc__") 204, val := Value.none }] 3 }) ::
  (nat_lit 24, { cls := Value.type "type", data := Data.cls { name := Str.ofString "PictureError", bases := [Value.type "ValueError"], mro := [Value.ref 24, Value.type "ValueError", Value.type "Exception", Value.type "BaseException", Value.type "object"], ns := 23, qualname := Str.ofString "PictureError", subclasses := [Value.ref 44, Value.ref 63] }, slots := #[some (Value.ref 15), none, some (Value.str (Str.ofString "PictureError") 189), some (Value.str (Str.ofString "PictureError") 197), some (Value.builtin "ValueError.__new__"), some (Value.bool true)] }) ::
  (nat_lit 25, { cls := Value.type "getset_descriptor", data := Data.fields #[Value.str (Str.ofString "__weakref__") 202, Value.ref 24, Value.builtin "ExceptionGroup.__weakref__", Value.none] }) ::
  (nat_lit 28, { cls := Value.type "tuple", data := Data.seq #[Value.ref 24] }) ::
  (nat_lit 35, { cls := Value.type "tuple", data := Data.seq #[] }) ::
  (nat_lit 37, { cls := Value.type "tuple", data := Data.seq #[Value.str (Str.ofString "self") 222, Value.str (Str.ofString "value") 223] }) ::
  (nat_lit 38, { cls := Value.type "tuple", data := Data.seq #[] }) ::
  (nat_lit 40, { cls := Value.type "code", data := Data.fields #[Value.str (Str.ofString "__init__") 219, Value.str (Str.ofString "InvalidFraction.__init__") 220, Value.str (Str.ofString "/claim/cut.py") 221, Value.int 6 0, Value.int 2 0, Value.int 0 0, Value.int 0 0, Value.int 3 0, Value.ref 35, Value.bool true, Value.int 181 0, Value.ref 36, Value.none, Value.ref 37, Value.ref 38, Value.ref 39, Value.int 224 0, Value.int 6 0, Value.str (Str.ofString "/claim/cut.py") 225] }) ::
  (nat_lit 41, ⟨Value.type "function", none, Data.func (PySem.W.fnOf (Str.ofString "__init__") (Str.ofString "InvalidFraction.__init__") (L2.defArgs s_InvalidFraction_init) (L2.defBody s_InvalidFraction_init) (L2.defScope s_InvalidFraction_init) (Value.none) (Value.none) (Value.none) (Value.str (Str.ofString "sizechains.errors") 187) (none) (Value.ref 40) (Value.none)), #[]⟩) ::
  (nat_lit 42, { cls := Value.type "tuple", data := Data.seq #[Value.str (Str.ofString "value") 227] }) ::
  (nat_lit 43, { cls := Value.type "dict", data := Data.dict #[{ hash := PyData.keyHash P (Str.ofString "__module__"), key := Value.str (Str.ofString "__module__") 214, val := Value.str (Str.ofString "sizechains.errors") 187 }, { hash := PyData.keyHash P (Str.ofString "__firstlineno__"), key := Value.str (Str.ofString "__firstlineno__") 218, val := Value.int 4 217 }, { hash := PyData.keyHash P (Str.ofString "__init__"), key := Value.str (Str.ofString "__init__") 226, val := Value.ref 41 }, { hash := PyData.keyHash P (Str.ofString "__static_attributes__"), key := Value.str (Str.ofString "__static_attributes__") 228, val := Value.ref 42 }, { hash := PyData.keyHash P (Str.ofString "__doc__"), key := Value.str (Str.ofString "__doc__") 229, val := Value.none }] 2 }) ::
  (nat_lit 44, { cls := Value.type "type", data := Data.cls { name := Str.ofString "InvalidFraction", bases := [Value.ref 24], mro := [Value.ref 44, Value.ref 24, Value.type "ValueError", Value.type "Exception", Value.type "BaseException", Value.type "object"], ns := 43, qualname := Str.ofString "InvalidFraction" }, slots := #[some (Value.ref 28), none, some (Value.str (Str.ofString "InvalidFraction") 207), some (Value.str (Str.ofString "InvalidFraction") 215), some (Value.builtin "ValueError.__new__"), some (Value.bool true)] }) ::
  (nat_lit 47, { cls := Value.type "tuple", data := Data.seq #[Value.ref 24] }) ::
  (nat_lit 54, { cls := Value.type "tuple", data := Data.seq #[] }) ::
  (nat_lit 56, { cls := Value.type "tuple", data := Data.seq #[Value.str (Str.ofString "self") 247, Value.str (Str.ofString "value") 248] }) ::
  (nat_lit 57, { cls := Value.type "tuple", data := Data.seq #[] }) ::
  (nat_lit 59, { cls := Value.type "code", data := Data.fields #[Value.str (Str.ofString "__init__") 244, Value.str (Str.ofString "InvalidText.__init__") 245, Value.str (Str.ofString "/claim/cut.py") 246, Value.int 10 0, Value.int 2 0, Value.int 0 0, Value.int 0 0, Value.int 3 0, Value.ref 54, Value.bool true, Value.int 181 0, Value.ref 55, Value.none, Value.ref 56, Value.ref 57, Value.ref 58, Value.int 249 0, Value.int 10 0, Value.str (Str.ofString "/claim/cut.py") 250] }) ::
  (nat_lit 60, ⟨Value.type "function", none, Data.func (PySem.W.fnOf (Str.ofString "__init__") (Str.ofString "InvalidText.__init__") (L2.defArgs s_InvalidText_init) (L2.defBody s_InvalidText_init) (L2.defScope s_InvalidText_init) (Value.none) (Value.none) (Value.none) (Value.str (Str.ofString "sizechains.errors") 187) (none) (Value.ref 59) (Value.none)), #[]⟩) ::
  (nat_lit 61, { cls := Value.type "tuple", data := Data.seq #[Value.str (Str.ofString "value") 252] }) ::
  (nat_lit 62, { cls := Value.type "dict", data := Data.dict #[{ hash := PyData.keyHash P (Str.ofString "__module__"), key := Value.str (Str.ofString "__module__") 239, val := Value.str (Str.ofString "sizechains.errors") 187 }, { hash := PyData.keyHash P (Str.ofString "__firstlineno__"), key := Value.str (Str.ofString "__firstlineno__") 243, val := Value.int 8 242 }, { hash := PyData.keyHash P (Str.ofString "__init__"), key := Value.str (Str.ofString "__init__") 251, val := Value.ref 60 }, { hash := PyData.keyHash P (Str.ofString "__static_attributes__"), key := Value.str (Str.ofString "__static_attributes__") 253, val := Value.ref 61 }, { hash := PyData.keyHash P (Str.ofString "__doc__"), key := Value.str (Str.ofString "__doc__") 254, val := Value.none }] 2 }) ::
  (nat_lit 63, { cls := Value.type "type", data := Data.cls { name := Str.ofString "InvalidText", bases := [Value.ref 24], mro := [Value.ref 63, Value.ref 24, Value.type "ValueError", Value.type "Exception", Value.type "BaseException", Value.type "object"], ns := 62, qualname := Str.ofString "InvalidText" }, slots := #[some (Value.ref 47), none, some (Value.str (Str.ofString "InvalidText") 232), some (Value.str (Str.ofString "InvalidText") 240), some (Value.builtin "ValueError.__new__"), some (Value.bool true)] }) ::
  (nat_lit 66, { cls := Value.type "tuple", data := Data.seq #[] }) ::
  (nat_lit 68, { cls := Value.type "tuple", data := Data.seq #[Value.str (Str.ofString "value") 262] }) ::
  (nat_lit 69, { cls := Value.type "tuple", data := Data.seq #[] }) ::
  (nat_lit 71, { cls := Value.type "code", data := Data.fields #[Value.str (Str.ofString "is_integer") 259, Value.str (Str.ofString "is_integer") 260, Value.str (Str.ofString "/claim/cut.py") 261, Value.int 13 0, Value.int 1 0, Value.int 0 0, Value.int 0 0, Value.int 3 0, Value.ref 66, Value.bool true, Value.int 181 0, Value.ref 67, Value.none, Value.ref 68, Value.ref 69, Value.ref 70, Value.int 263 0, Value.int 13 0, Value.str (Str.ofString "/claim/cut.py") 264] }) ::
  (nat_lit 72, ⟨Value.type "function", none, Data.func (PySem.W.fnOf (Str.ofString "is_integer") (Str.ofString "is_integer") (L2.defArgs s_is_integer) (L2.defBody s_is_integer) (L2.defScope s_is_integer) (Value.none) (Value.none) (Value.none) (Value.str (Str.ofString "sizechains.exact") 257) (none) (Value.ref 71) (Value.none)), #[]⟩) ::
  (nat_lit 73, { cls := Value.type "tuple", data := Data.seq #[] }) ::
  (nat_lit 75, { cls := Value.type "tuple", data := Data.seq #[Value.str (Str.ofString "value") 269] }) ::
  (nat_lit 76, { cls := Value.type "tuple", data := Data.seq #[] }) ::
  (nat_lit 78, { cls := Value.type "code", data := Data.fields #[Value.str (Str.ofString "is_positive") 266, Value.str (Str.ofString "is_positive") 267, Value.str (Str.ofString "/claim/cut.py") 268, Value.int 15 0, Value.int 1 0, Value.int 0 0, Value.int 0 0, Value.int 3 0, Value.ref 73, Value.bool true, Value.int 181 0, Value.ref 74, Value.none, Value.ref 75, Value.ref 76, Value.ref 77, Value.int 270 0, Value.int 15 0, Value.str (Str.ofString "/claim/cut.py") 271] }) ::
  (nat_lit 79, ⟨Value.type "function", none, Data.func (PySem.W.fnOf (Str.ofString "is_positive") (Str.ofString "is_positive") (L2.defArgs s_is_positive) (L2.defBody s_is_positive) (L2.defScope s_is_positive) (Value.none) (Value.none) (Value.none) (Value.str (Str.ofString "sizechains.exact") 257) (none) (Value.ref 78) (Value.none)), #[]⟩) ::
  (nat_lit 80, { cls := Value.type "tuple", data := Data.seq #[] }) ::
  (nat_lit 82, { cls := Value.type "tuple", data := Data.seq #[Value.str (Str.ofString "one") 276, Value.str (Str.ofString "other") 277] }) ::
  (nat_lit 83, { cls := Value.type "tuple", data := Data.seq #[] }) ::
  (nat_lit 85, { cls := Value.type "code", data := Data.fields #[Value.str (Str.ofString "common_divisor") 273, Value.str (Str.ofString "common_divisor") 274, Value.str (Str.ofString "/claim/cut.py") 275, Value.int 17 0, Value.int 2 0, Value.int 0 0, Value.int 0 0, Value.int 3 0, Value.ref 80, Value.bool true, Value.int 181 0, Value.ref 81, Value.none, Value.ref 82, Value.ref 83, Value.ref 84, Value.int 278 0, Value.int 17 0, Value.str (Str.ofString "/claim/cut.py") 279] }) ::
  (nat_lit 86, ⟨Value.type "function", none, Data.func (PySem.W.fnOf (Str.ofString "common_divisor") (Str.ofString "common_divisor") (L2.defArgs s_common_divisor) (L2.defBody s_common_divisor) (L2.defScope s_common_divisor) (Value.none) (Value.none) (Value.none) (Value.str (Str.ofString "sizechains.exact") 257) (none) (Value.ref 85) (Value.none)), #[]⟩) ::
  (nat_lit 87, { cls := Value.type "tuple", data := Data.seq #[] }) ::
  (nat_lit 89, { cls := Value.type "tuple", data := Data.seq #[Value.str (Str.ofString "value") 284, Value.str (Str.ofString "top") 285, Value.str (Str.ofString "bottom") 286] }) ::
  (nat_lit 90, { cls := Value.type "tuple", data := Data.seq #[] }) ::
  (nat_lit 92, { cls := Value.type "code", data := Data.fields #[Value.str (Str.ofString "is_fraction") 281, Value.str (Str.ofString "is_fraction") 282, Value.str (Str.ofString "/claim/cut.py") 283, Value.int 21 0, Value.int 1 0, Value.int 0 0, Value.int 0 0, Value.int 3 0, Value.ref 87, Value.bool true, Value.int 181 0, Value.ref 88, Value.none, Value.ref 89, Value.ref 90, Value.ref 91, Value.int 287 0, Value.int 21 0, Value.str (Str.ofString "/claim/cut.py") 288] }) ::
  (nat_lit 93, ⟨Value.type "function", none, Data.func (PySem.W.fnOf (Str.ofString "is_fraction") (Str.ofString "is_fraction") (L2.defArgs s_is_fraction) (L2.defBody s_is_fraction) (L2.defScope s_is_fraction) (Value.none) (Value.none) (Value.none) (Value.str (Str.ofString "sizechains.exact") 257) (none) (Value.ref 92) (Value.none)), #[]⟩) ::
  (nat_lit 94, { cls := Value.type "tuple", data := Data.seq #[] }) ::
  (nat_lit 96, { cls := Value.type "tuple", data := Data.seq #[Value.str (Str.ofString "values") 293, Value.str (Str.ofString "value") 294] }) ::
  (nat_lit 97, { cls := Value.type "tuple", data := Data.seq #[] }) ::
  (nat_lit 99, { cls := Value.type "code", data := Data.fields #[Value.str (Str.ofString "check_fractions") 290, Value.str (Str.ofString "check_fractions") 291, Value.str (Str.ofString "/claim/cut.py") 292, Value.int 28 0, Value.int 1 0, Value.int 0 0, Value.int 0 0, Value.int 3 0, Value.ref 94, Value.bool true, Value.int 181 0, Value.ref 95, Value.none, Value.ref 96, Value.ref 97, Value.ref 98, Value.int 295 0, Value.int 28 0, Value.str (Str.ofString "/claim/cut.py") 296] }) ::
  (nat_lit 100, ⟨Value.type "function", none, Data.func (PySem.W.fnOf (Str.ofString "check_fractions") (Str.ofString "check_fractions") (L2.defArgs s_check_fractions) (L2.defBody s_check_fractions) (L2.defScope s_check_fractions) (Value.none) (Value.none) (Value.none) (Value.str (Str.ofString "sizechains.exact") 257) (none) (Value.ref 99) (Value.none)), #[]⟩) ::
  (nat_lit 101, { cls := Value.type "tuple", data := Data.seq #[] }) ::
  (nat_lit 103, { cls := Value.type "tuple", data := Data.seq #[Value.str (Str.ofString "number") 301, Value.str (Str.ofString "top") 302, Value.str (Str.ofString "bottom") 303] }) ::
  (nat_lit 104, { cls := Value.type "tuple", data := Data.seq #[] }) ::
  (nat_lit 106, { cls := Value.type "code", data := Data.fields #[Value.str (Str.ofString "format_fraction") 298, Value.str (Str.ofString "format_fraction") 299, Value.str (Str.ofString "/claim/cut.py") 300, Value.int 32 0, Value.int 1 0, Value.int 0 0, Value.int 0 0, Value.int 3 0, Value.ref 101, Value.bool true, Value.int 181 0, Value.ref 102, Value.none, Value.ref 103, Value.ref 104, Value.ref 105, Value.int 304 0, Value.int 32 0, Value.str (Str.ofString "/claim/cut.py") 305] }) ::
  (nat_lit 107, ⟨Value.type "function", none, Data.func (PySem.W.fnOf (Str.ofString "format_fraction") (Str.ofString "format_fraction") (L2.defArgs s_format_fraction) (L2.defBody s_format_fraction) (L2.defScope s_format_fraction) (Value.none) (Value.none) (Value.none) (Value.str (Str.ofString "sizechains.exact") 257) (none) (Value.ref 106) (Value.none)), #[]⟩) ::
  (nat_lit 108, { cls := Value.type "tuple", data := Data.seq #[] }) ::
  (nat_lit 110, { cls := Value.type "tuple", data := Data.seq #[Value.str (Str.ofString "text") 310] }) ::
  (nat_lit 111, { cls := Value.type "tuple", data := Data.seq #[] }) ::
  (nat_lit 113, { cls := Value.type "code", data := Data.fields #[Value.str (Str.ofString "is_numeral") 307, Value.str (Str.ofString "is_numeral") 308, Value.str (Str.ofString "/claim/cut.py") 309, Value.int 38 0, Value.int 1 0, Value.int 0 0, Value.int 0 0, Value.int 3 0, Value.ref 108, Value.bool true, Value.int 181 0, Value.ref 109, Value.none, Value.ref 110, Value.ref 111, Value.ref 112, Value.int 311 0, Value.int 38 0, Value.str (Str.ofString "/claim/cut.py") 312] }) ::
  (nat_lit 114, ⟨Value.type "function", none, Data.func (PySem.W.fnOf (Str.ofString "is_numeral") (Str.ofString "is_numeral") (L2.defArgs s_is_numeral) (L2.defBody s_is_numeral) (L2.defScope s_is_numeral) (Value.none) (Value.none) (Value.none) (Value.str (Str.ofString "sizechains.exact") 257) (none) (Value.ref 113) (Value.none)), #[]⟩) ::
  (nat_lit 115, { cls := Value.type "tuple", data := Data.seq #[] }) ::
  (nat_lit 117, { cls := Value.type "tuple", data := Data.seq #[Value.str (Str.ofString "text") 317, Value.str (Str.ofString "top") 318, Value.str (Str.ofString "slash") 319, Value.str (Str.ofString "bottom") 320, Value.str (Str.ofString "number") 321] }) ::
  (nat_lit 118, { cls := Value.type "tuple", data := Data.seq #[] }) ::
  (nat_lit 120, { cls := Value.type "code", data := Data.fields #[Value.str (Str.ofString "find_fraction") 314, Value.str (Str.ofString "find_fraction") 315, Value.str (Str.ofString "/claim/cut.py") 316, Value.int 40 0, Value.int 1 0, Value.int 0 0, Value.int 0 0, Value.int 3 0, Value.ref 115, Value.bool true, Value.int 181 0, Value.ref 116, Value.none, Value.ref 117, Value.ref 118, Value.ref 119, Value.int 322 0, Value.int 40 0, Value.str (Str.ofString "/claim/cut.py") 323] }) ::
  (nat_lit 121, ⟨Value.type "function", none, Data.func (PySem.W.fnOf (Str.ofString "find_fraction") (Str.ofString "find_fraction") (L2.defArgs s_find_fraction) (L2.defBody s_find_fraction) (L2.defScope s_find_fraction) (Value.none) (Value.none) (Value.none) (Value.str (Str.ofString "sizechains.exact") 257) (none) (Value.ref 120) (Value.none)), #[]⟩) ::
  (nat_lit 122, { cls := Value.type "tuple", data := Data.seq #[] }) ::
  (nat_lit 124, { cls := Value.type "tuple", data := Data.seq #[Value.str (Str.ofString "text") 328, Value.str (Str.ofString "number") 329] }) ::
  (nat_lit 125, { cls := Value.type "tuple", data := Data.seq #[] }) ::
  (nat_lit 127, { cls := Value.type "code", data := Data.fields #[Value.str (Str.ofString "parse_fraction") 325, Value.str (Str.ofString "parse_fraction") 326, Value.str (Str.ofString "/claim/cut.py") 327, Value.int 52 0, Value.int 1 0, Value.int 0 0, Value.int 0 0, Value.int 3 0, Value.ref 122, Value.bool true, Value.int 181 0, Value.ref 123, Value.none, Value.ref 124, Value.ref 125, Value.ref 126, Value.int 330 0, Value.int 52 0, Value.str (Str.ofString "/claim/cut.py") 331] }) ::
  (nat_lit 128, ⟨Value.type "function", none, Data.func (PySem.W.fnOf (Str.ofString "parse_fraction") (Str.ofString "parse_fraction") (L2.defArgs s_parse_fraction) (L2.defBody s_parse_fraction) (L2.defScope s_parse_fraction) (Value.none) (Value.none) (Value.none) (Value.str (Str.ofString "sizechains.exact") 257) (none) (Value.ref 127) (Value.none)), #[]⟩) ::
  (nat_lit 129, { cls := Value.type "tuple", data := Data.seq #[] }) ::
  (nat_lit 131, { cls := Value.type "tuple", data := Data.seq #[Value.str (Str.ofString "_law_script") 338, Value.str (Str.ofString "_law_k") 339, Value.str (Str.ofString "_law_state") 340, Value.str (Str.ofString "_law_figure") 341] }) ::
  (nat_lit 132, { cls := Value.type "tuple", data := Data.seq #[] }) ::
  (nat_lit 134, { cls := Value.type "code", data := Data.fields #[Value.str (Str.ofString "_law_cell") 335, Value.str (Str.ofString "_law_cell") 336, Value.str (Str.ofString "/claim/cut.py") 337, Value.int 58 0, Value.int 2 0, Value.int 0 0, Value.int 0 0, Value.int 3 0, Value.ref 129, Value.bool true, Value.int 181 0, Value.ref 130, Value.none, Value.ref 131, Value.ref 132, Value.ref 133, Value.int 342 0, Value.int 58 0, Value.str (Str.ofString "/claim/cut.py") 343] }) ::
  (nat_lit 135, ⟨Value.type "function", none, Data.func (PySem.W.fnOf (Str.ofString "_law_cell") (Str.ofString "_law_cell") (L2.defArgs s_l_cell) (L2.defBody s_l_cell) (L2.defScope s_l_cell) (Value.none) (Value.none) (Value.none) (Value.str (Str.ofString "law_sizechains_k05_texts_of_fractions") 333) (none) (Value.ref 134) (Value.none)), #[]⟩) ::
  (nat_lit 136, { cls := Value.type "tuple", data := Data.seq #[] }) ::
  (nat_lit 138, { cls := Value.type "tuple", data := Data.seq #[Value.str (Str.ofString "_law_figure") 348, Value.str (Str.ofString "_law_digits") 349] }) ::
  (nat_lit 139, { cls := Value.type "tuple", data := Data.seq #[] }) ::
  (nat_lit 141, { cls := Value.type "code", data := Data.fields #[Value.str (Str.ofString "_law_pool") 345, Value.str (Str.ofString "_law_pool") 346, Value.str (Str.ofString "/claim/cut.py") 347, Value.int 65 0, Value.int 1 0, Value.int 0 0, Value.int 0 0, Value.int 3 0, Value.ref 136, Value.bool true, Value.int 181 0, Value.ref 137, Value.none, Value.ref 138, Value.ref 139, Value.ref 140, Value.int 350 0, Value.int 65 0, Value.str (Str.ofString "/claim/cut.py") 351] }) ::
  (nat_lit 142, ⟨Value.type "function", none, Data.func (PySem.W.fnOf (Str.ofString "_law_pool") (Str.ofString "_law_pool") (L2.defArgs s_l_pool) (L2.defBody s_l_pool) (L2.defScope s_l_pool) (Value.none) (Value.none) (Value.none) (Value.str (Str.ofString "law_sizechains_k05_texts_of_fractions") 333) (none) (Value.ref 141) (Value.none)), #[]⟩) ::
  (nat_lit 143, { cls := Value.type "tuple", data := Data.seq #[] }) ::
  (nat_lit 145, { cls := Value.type "tuple", data := Data.seq #[Value.str (Str.ofString "_law_pool_here") 356, Value.str (Str.ofString "_law_most") 357, Value.str (Str.ofString "_law_state") 358, Value.str (Str.ofString "_law_digit") 359] }) ::
  (nat_lit 146, { cls := Value.type "tuple", data := Data.seq #[] }) ::
  (nat_lit 148, { cls := Value.type "code", data := Data.fields #[Value.str (Str.ofString "_law_draw") 353, Value.str (Str.ofString "_law_draw") 354, Value.str (Str.ofString "/claim/cut.py") 355, Value.int 68 0, Value.int 2 0, Value.int 0 0, Value.int 0 0, Value.int 3 0, Value.ref 143, Value.bool true, Value.int 181 0, Value.ref 144, Value.none, Value.ref 145, Value.ref 146, Value.ref 147, Value.int 360 0, Value.int 68 0, Value.str (Str.ofString "/claim/cut.py") 361] }) ::
  (nat_lit 149, ⟨Value.type "function", none, Data.func (PySem.W.fnOf (Str.ofString "_law_draw") (Str.ofString "_law_draw") (L2.defArgs s_l_draw) (L2.defBody s_l_draw) (L2.defScope s_l_draw) (Value.none) (Value.none) (Value.none) (Value.str (Str.ofString "law_sizechains_k05_texts_of_fractions") 333) (none) (Value.ref 148) (Value.none)), #[]⟩) ::
  (nat_lit 150, { cls := Value.type "tuple", data := Data.seq #[] }) ::
  (nat_lit 152, { cls := Value.type "tuple", data := Data.seq #[Value.str (Str.ofString "_law_high_part") 366, Value.str (Str.ofString "_law_low_part") 367, Value.str (Str.ofString "_law_lead") 368, Value.str (Str.ofString "_law_rest") 369] }) ::
  (nat_lit 153, { cls := Value.type "tuple", data := Data.seq #[] }) ::
  (nat_lit 155, { cls := Value.type "code", data := Data.fields #[Value.str (Str.ofString "_law_low") 363, Value.str (Str.ofString "_law_low") 364, Value.str (Str.ofString "/claim/cut.py") 365, Value.int 76 0, Value.int 2 0, Value.int 0 0, Value.int 0 0, Value.int 3 0, Value.ref 150, Value.bool true, Value.int 181 0, Value.ref 151, Value.none, Value.ref 152, Value.ref 153, Value.ref 154, Value.int 370 0, Value.int 76 0, Value.str (Str.ofString "/claim/cut.py") 371] }) ::
  (nat_lit 156, ⟨Value.type "function", none, Data.func (PySem.W.fnOf (Str.ofString "_law_low") (Str.ofString "_law_low") (L2.defArgs s_l_low) (L2.defBody s_l_low) (L2.defScope s_l_low) (Value.none) (Value.none) (Value.none) (Value.str (Str.ofString "law_sizechains_k05_texts_of_fractions") 333) (none) (Value.ref 155) (Value.none)), #[]⟩) ::
  (nat_lit 157, { cls := Value.type "tuple", data := Data.seq #[] }) ::
  (nat_lit 159, { cls := Value.type "tuple", data := Data.seq #[Value.str (Str.ofString "_law_pool_here") 376, Value.str (Str.ofString "_law_great") 377, Value.str (Str.ofString "_law_way") 378, Value.str (Str.ofString "_law_most") 379] }) ::
  (nat_lit 160, { cls := Value.type "tuple", data := Data.seq #[] }) ::
  (nat_lit 162, { cls := Value.type "code", data := Data.fields #[Value.str (Str.ofString "_law_part") 373, Value.str (Str.ofString "_law_part") 374, Value.str (Str.ofString "/claim/cut.py") 375, Value.int 81 0, Value.int 2 0, Value.int 0 0, Value.int 0 0, Value.int 3 0, Value.ref 157, Value.bool true, Value.int 181 0, Value.ref 158, Value.none, Value.ref 159, Value.ref 160, Value.ref 161, Value.int 380 0, Value.int 81 0, Value.str (Str.ofString "/claim/cut.py") 381] }) ::
  (nat_lit 163, ⟨Value.type "function", none, Data.func (PySem.W.fnOf (Str.ofString "_law_part") (Str.ofString "_law_part") (L2.defArgs s_l_part) (L2.defBody s_l_part) (L2.defScope s_l_part) (Value.none) (Value.none) (Value.none) (Value.str (Str.ofString "law_sizechains_k05_texts_of_fractions") 333) (none) (Value.ref 162) (Value.none)), #[]⟩) ::
  (nat_lit 164, { cls := Value.type "tuple", data := Data.seq #[] }) ::
  (nat_lit 166, { cls := Value.type "tuple", data := Data.seq #[Value.str (Str.ofString "_law_part_here") 386] }) ::
  (nat_lit 167, { cls := Value.type "tuple", data := Data.seq #[] }) ::
  (nat_lit 169, { cls := Value.type "code", data := Data.fields #[Value.str (Str.ofString "_law_shown") 383, Value.str (Str.ofString "_law_shown") 384, Value.str (Str.ofString "/claim/cut.py") 385, Value.int 87 0, Value.int 1 0, Value.int 0 0, Value.int 0 0, Value.int 3 0, Value.ref 164, Value.bool true, Value.int 181 0, Value.ref 165, Value.none, Value.ref 166, Value.ref 167, Value.ref 168, Value.int 387 0, Value.int 87 0, Value.str (Str.ofString "/claim/cut.py") 388] }) ::
  (nat_lit 170, ⟨Value.type "function", none, Data.func (PySem.W.fnOf (Str.ofString "_law_shown") (Str.ofString "_law_shown") (L2.defArgs s_l_shown) (L2.defBody s_l_shown) (L2.defScope s_l_shown) (Value.none) (Value.none) (Value.none) (Value.str (Str.ofString "law_sizechains_k05_texts_of_fractions") 333) (none) (Value.ref 169) (Value.none)), #[]⟩) ::
  (nat_lit 171, { cls := Value.type "tuple", data := Data.seq #[] }) ::
  (nat_lit 174, { cls := Value.type "code", data := Data.fields #[Value.str (Str.ofString "_law_read") 390, Value.str (Str.ofString "_law_read") 391, Value.str (Str.ofString "/claim/cut.py") 392, Value.int 89 0, Value.int 1 0, Value.int 0 0, Value.int 0 0, Value.int 3 0, Value.ref 171, Value.bool true, Value.int 181 0, Value.ref 172, Value.none, Value.none, Value.none, Value.ref 173, Value.int 393 0, Value.int 89 0, Value.str (Str.ofString "/claim/cut.py") 394] }) ::
  (nat_lit 175, ⟨Value.type "function", none, Data.func (PySem.W.fnOf (Str.ofString "_law_read") (Str.ofString "_law_read") (L2.defArgs s_l_read) (L2.defBody s_l_read) (L2.defScope s_l_read) (Value.none) (Value.none) (Value.none) (Value.str (Str.ofString "law_sizechains_k05_texts_of_fractions") 333) (none) (Value.ref 174) (Value.none)), #[]⟩) ::
  (nat_lit 176, { cls := Value.type "tuple", data := Data.seq #[] }) ::
  (nat_lit 178, { cls := Value.type "tuple", data := Data.seq #[Value.str (Str.ofString "_law_said") 399, Value.str (Str.ofString "_law_by_name") 400, Value.str (Str.ofString "e") 401] }) ::
  (nat_lit 179, { cls := Value.type "tuple", data := Data.seq #[] }) ::
  (nat_lit 181, { cls := Value.type "code", data := Data.fields #[Value.str (Str.ofString "_law_parsed") 396, Value.str (Str.ofString "_law_parsed") 397, Value.str (Str.ofString "/claim/cut.py") 398, Value.int 100 0, Value.int 2 0, Value.int 0 0, Value.int 0 0, Value.int 3 0, Value.ref 176, Value.bool true, Value.int 181 0, Value.ref 177, Value.none, Value.ref 178, Value.ref 179, Value.ref 180, Value.int 402 0, Value.int 100 0, Value.str (Str.ofString "/claim/cut.py") 403] }) ::
  (nat_lit 182, ⟨Value.type "function", none, Data.func (PySem.W.fnOf (Str.ofString "_law_parsed") (Str.ofString "_law_parsed") (L2.defArgs s_l_parsed) (L2.defBody s_l_parsed) (L2.defScope s_l_parsed) (Value.none) (Value.none) (Value.none) (Value.str (Str.ofString "law_sizechains_k05_texts_of_fractions") 333) (none) (Value.ref 181) (Value.none)), #[]⟩) ::
  (nat_lit 183, { cls := Value.type "tuple", data := Data.seq #[] }) ::
  (nat_lit 185, { cls := Value.type "tuple", data := Data.seq #[Value.str (Str.ofString "_law_said") 408, Value.str (Str.ofString "_law_found") 409, Value.str (Str.ofString "_law_due") 410, Value.str (Str.ofString "_law_told") 411] }) ::
  (nat_lit 186, { cls := Value.type "tuple", data := Data.seq #[] }) ::
  (nat_lit 188, { cls := Value.type "code", data := Data.fields #[Value.str (Str.ofString "_law_text_right") 405, Value.str (Str.ofString "_law_text_right") 406, Value.str (Str.ofString "/claim/cut.py") 407, Value.int 105 0, Value.int 1 0, Value.int 0 0, Value.int 0 0, Value.int 3 0, Value.ref 183, Value.bool true, Value.int 181 0, Value.ref 184, Value.none, Value.ref 185, Value.ref 186, Value.ref 187, Value.int 412 0, Value.int 105 0, Value.str (Str.ofString "/claim/cut.py") 413] }) ::
  (nat_lit 189, ⟨Value.type "function", none, Data.func (PySem.W.fnOf (Str.ofString "_law_text_right") (Str.ofString "_law_text_right") (L2.defArgs s_l_text_right) (L2.defBody s_l_text_right) (L2.defScope s_l_text_right) (Value.none) (Value.none) (Value.none) (Value.str (Str.ofString "law_sizechains_k05_texts_of_fractions") 333) (none) (Value.ref 188) (Value.none)), #[]⟩) ::
  (nat_lit 190, { cls := Value.type "tuple", data := Data.seq #[] }) ::
  (nat_lit 192, { cls := Value.type "tuple", data := Data.seq #[Value.str (Str.ofString "_law_part_here") 418, Value.str (Str.ofString "_law_due") 419, Value.str (Str.ofString "_law_told") 420] }) ::
  (nat_lit 193, { cls := Value.type "tuple", data := Data.seq #[] }) ::
  (nat_lit 195, { cls := Value.type "code", data := Data.fields #[Value.str (Str.ofString "_law_part_right") 415, Value.str (Str.ofString "_law_part_right") 416, Value.str (Str.ofString "/claim/cut.py") 417, Value.int 112 0, Value.int 1 0, Value.int 0 0, Value.int 0 0, Value.int 3 0, Value.ref 190, Value.bool true, Value.int 181 0, Value.ref 191, Value.none, Value.ref 192, Value.ref 193, Value.ref 194, Value.int 421 0, Value.int 112 0, Value.str (Str.ofString "/claim/cut.py") 422] }) ::
  (nat_lit 196, ⟨Value.type "function", none, Data.func (PySem.W.fnOf (Str.ofString "_law_part_right") (Str.ofString "_law_part_right") (L2.defArgs s_l_part_right) (L2.defBody s_l_part_right) (L2.defScope s_l_part_right) (Value.none) (Value.none) (Value.none) (Value.str (Str.ofString "law_sizechains_k05_texts_of_fractions") 333) (none) (Value.ref 195) (Value.none)), #[]⟩) ::
  (nat_lit 197, { cls := Value.type "tuple", data := Data.seq #[] }) ::
  (nat_lit 199, { cls := Value.type "tuple", data := Data.seq #[Value.str (Str.ofString "_law_pool_here") 427, Value.str (Str.ofString "_law_part_here") 428, Value.str (Str.ofString "_law_said") 429, Value.str (Str.ofString "_law_many") 430, Value.str (Str.ofString "_law_at") 431, Value.str (Str.ofString "_law_sign") 432, Value.str (Str.ofString "_law_some") 433] }) ::
  (nat_lit 200, { cls := Value.type "tuple", data := Data.seq #[] }) ::
  (nat_lit 202, { cls := Value.type "code", data := Data.fields #[Value.str (Str.ofString "_law_bent") 424, Value.str (Str.ofString "_law_bent") 425, Value.str (Str.ofString "/claim/cut.py") 426, Value.int 116 0, Value.int 2 0, Value.int 0 0, Value.int 0 0, Value.int 3 0, Value.ref 197, Value.bool true, Value.int 181 0, Value.ref 198, Value.none, Value.ref 199, Value.ref 200, Value.ref 201, Value.int 434 0, Value.int 116 0, Value.str (Str.ofString "/claim/cut.py") 435] }) ::
  (nat_lit 203, ⟨Value.type "function", none, Data.func (PySem.W.fnOf (Str.ofString "_law_bent") (Str.ofString "_law_bent") (L2.defArgs s_l_bent) (L2.defBody s_l_bent) (L2.defScope s_l_bent) (Value.none) (Value.none) (Value.none) (Value.str (Str.ofString "law_sizechains_k05_texts_of_fractions") 333) (none) (Value.ref 202) (Value.none)), #[]⟩) ::
  (nat_lit 204, { cls := Value.type "tuple", data := Data.seq #[] }) ::
  (nat_lit 207, { cls := Value.type "code", data := Data.fields #[Value.str (Str.ofString "_law_by_hand") 437, Value.str (Str.ofString "_law_by_hand") 438, Value.str (Str.ofString "/claim/cut.py") 439, Value.int 123 0, Value.int 0 0, Value.int 0 0, Value.int 0 0, Value.int 3 0, Value.ref 204, Value.bool true, Value.int 181 0, Value.ref 205, Value.none, Value.none, Value.none, Value.ref 206, Value.int 440 0, Value.int 123 0, Value.str (Str.ofString "/claim/cut.py") 441] }) ::
  (nat_lit 208, ⟨Value.type "function", none, Data.func (PySem.W.fnOf (Str.ofString "_law_by_hand") (Str.ofString "_law_by_hand") (L2.defArgs s_l_by_hand) (L2.defBody s_l_by_hand) (L2.defScope s_l_by_hand) (Value.none) (Value.none) (Value.none) (Value.str (Str.ofString "law_sizechains_k05_texts_of_fractions") 333) (none) (Value.ref 207) (Value.none)), #[]⟩) ::
  (nat_lit 209, { cls := Value.type "tuple", data := Data.seq #[] }) ::
  (nat_lit 212, { cls := Value.type "code", data := Data.fields #[Value.str (Str.ofString "_law_right") 443, Value.str (Str.ofString "_law_right") 444, Value.str (Str.ofString "/claim/cut.py") 445, Value.int 131 0, Value.int 1 0, Value.int 0 0, Value.int 0 0, Value.int 3 0, Value.ref 209, Value.bool true, Value.int 181 0, Value.ref 210, Value.none, Value.none, Value.none, Value.ref 211, Value.int 446 0, Value.int 131 0, Value.str (Str.ofString "/claim/cut.py") 447] }) ::
  (nat_lit 213, ⟨Value.type "function", none, Data.func (PySem.W.fnOf (Str.ofString "_law_right") (Str.ofString "_law_right") (L2.defArgs s_l_right) (L2.defBody s_l_right) (L2.defScope s_l_right) (Value.none) (Value.none) (Value.none) (Value.str (Str.ofString "law_sizechains_k05_texts_of_fractions") 333) (none) (Value.ref 212) (Value.none)), #[]⟩) ::
  (nat_lit 214, { cls := Value.type "tuple", data := Data.seq #[] }) ::
  (nat_lit 217, { cls := Value.type "code", data := Data.fields #[Value.str (Str.ofString "law") 449, Value.str (Str.ofString "law") 450, Value.str (Str.ofString "/claim/cut.py") 451, Value.int 139 0, Value.int 1 0, Value.int 0 0, Value.int 0 0, Value.int 3 0, Value.ref 214, Value.bool true, Value.int 181 0, Value.ref 215, Value.none, Value.none, Value.none, Value.ref 216, Value.int 452 0, Value.int 139 0, Value.str (Str.ofString "/claim/cut.py") 453] }) ::
  (nat_lit 218, ⟨Value.type "function", none, Data.func (PySem.W.fnOf (Str.ofString "law") (Str.ofString "law") (L2.defArgs s_law) (L2.defBody s_law) (L2.defScope s_law) (Value.none) (Value.none) (Value.none) (Value.str (Str.ofString "law_sizechains_k05_texts_of_fractions") 333) (none) (Value.ref 217) (Value.none)), #[]⟩) :: []
def as0 : List Nat := [2, 3, 15, 22, 23, 24, 25, 28, 35, 37, 38, 40, 41, 42, 43, 44, 47, 54, 56, 57, 59, 60, 61, 62, 63, 66, 68, 69, 71, 72, 73, 75, 76, 78, 79, 80, 82, 83, 85, 86, 87, 89, 90, 92, 93, 94, 96, 97, 99, 100, 101, 103, 104, 106, 107, 108, 110, 111, 113, 114, 115, 117, 118, 120, 121, 122, 124, 125, 127, 128, 129, 131, 132, 134, 135, 136, 138, 139, 141, 142, 143, 145, 146, 148, 149, 150, 152, 153, 155, 156, 157, 159, 160, 162, 163, 164, 166, 167, 169, 170, 171, 174, 175, 176, 178, 179, 181, 182, 183, 185, 186, 188, 189, 190, 192, 193, 195, 196, 197, 199, 200, 202, 203, 204, 207, 208, 209, 212, 213, 214, 217, 218]
abbrev ts0 : List PySem.Addr := []
theorem as0_ok : ∀ P, as0 = (K0 P).map (·.1) := fun _ => by kernel_rfl
theorem left_oneKm {p q : Program} {loose : List PySem.Str} {Xt : Shared → Bool} {K : PySem.Params → PySem.W.Frag} {as ts : List PySem.Addr} {ek : ∀ P, as = (K P).map (·.1)} {N M : Nat}
    (e : PySem.W.opening p = PySem.W.plainProg p.main.scope.names) (hN : Nat.ble 600 N = true) (f : ∀ s, PySem.fenceModules? p s = some s) (le : Nat.ble M N = true)
    (run : ∀ (w : World) (os : OsState), (HeadRun.endF (HeadRun.stepQ (HeadRun.denQ HeadRun.tabQ) p w) M p w os).map (fun s => (HeadRun.looksF p (PySem.W.boot_heap w.params) s.abs, HeadRun.seenQ q loose (importedModules p.main.body) Xt s.abs, as.map (HeadRun.getT s), ts.map (HeadRun.getT s))) = some (true, PySem.W.openGood q loose, (K w.params).map fun x => some x.2, ts.map fun _ => some (PySem.W.tabObj #[]))) :
    PySem.W.LeftO p q loose Xt (PySem.W.Hook.obs (PySem.W.kmHook K as ek ts)) (PySem.W.Hook.val (PySem.W.kmHook K as ek ts)) N true :=
  HeadRun.left_one (M := M) e hN f le fun w os => by
    have z := run w os
    have eo : (fun s : PySem.W.SharedT => (HeadRun.looksF p (PySem.W.boot_heap w.params) s.abs, HeadRun.seenQ q loose (importedModules p.main.body) Xt s.abs, as.map (HeadRun.getT s), ts.map (HeadRun.getT s))) = fun s => (HeadRun.looksF p (PySem.W.boot_heap w.params) s.abs, HeadRun.seenQ q loose (importedModules p.main.body) Xt s.abs, PySem.W.Hook.obs (PySem.W.kmHook K as ek ts) s.abs) := by
      funext s
      have q1 : (as.map (HeadRun.getT s), ts.map (HeadRun.getT s)) = PySem.W.Hook.obs (PySem.W.kmHook K as ek ts) s.abs := Prod.ext (List.map_congr_left fun a _ => HeadRun.getT_eq s a) (List.map_congr_left fun a _ => HeadRun.getT_eq s a)
      rw [q1]
      rfl
    rw [eo] at z
    simp only [HeadRun.endQ_eq, HeadRun.seenQ_eq]
    exact z
set_option maxHeartbeats 0 in
theorem left0 : PySem.W.LeftO PySem.Challenge.rw_sizechains_k05_texts_of_fractions.row.prog q0 loose0 seen0 (PySem.W.kmHook K0 as0 as0_ok ts0).obs (PySem.W.kmHook K0 as0 as0_ok ts0).val 3616 true :=
  left_oneKm (M := 2916) (by kernel_rfl) (by rfl) (fun s => by kernel_rfl) (by rfl) (fun w os => by kernel_rfl)


/-! repr of data at any depth, where no repr is running around -/
structure RRepr (K : PySem.W.Frag) (xs : List V) (H : Hp) (Q : VK) : Prop where
  ex : ∃ (v : V) (d : PyData), xs = [v] ∧ Dp K H v d ∧ isDisplay d = true ∧ d.showable = true ∧ d.hasDict = false ∧ d.depth ≤ 64 ∧ d.shown.length ≤ sizeLine ∧ Q (.str d.shown) H
/-! a def's promise where it is known that no repr is running around -/
structure FnG (P : Program) (w : World) (K : PySem.W.Frag) (mg : Str → Option Value) (base : Heap) (CX : CXT) (k : Nat) (f : Addr) (fd : FuncData) (ps : List Str) (sp : Sp) : Prop where
  len : ∀ vs H Q E, sp vs H Q E → vs.length = ps.length
  go : ∀ (A : Around) (out : List Env) (st : Shared) (H : Hp) (as : Args) (us : List Value) (vs : List V) (Q : VK) (E : XK), A.guards = some [] → Room k A → Env0 P w K mg base A out st H →
    BindsTo st fd as (ps.zip us) → Vals vs us → sp vs H Q E → codeAny (model P w) A (.call (.ref f) as) (CR CX out P w H st Q E) st
section
variable {P : Program} {w : World} {K : PySem.W.Frag} {mg : Str → Option Value} {base : Heap} {CX : CXT} {k : Nat} {f : Addr} {fd : FuncData} {ps : List Str} {sp : Sp}
theorem FnG.of (F : FnOk P w K mg base CX k f fd ps sp) : FnG P w K mg base CX k f fd ps sp :=
  ⟨F.len, fun A out st H as us vs Q E _ r e b v h => F.run A out st H as us vs Q E r e b v h⟩
theorem FnG.up {j : Nat} (F : FnG P w K mg base CX j f fd ps sp) (h : j ≤ k) : FnG P w K mg base CX k f fd ps sp :=
  ⟨F.len, fun A out st H as us vs Q E g r e b v s => F.go A out st H as us vs Q E g (r.mono h) e b v s⟩
theorem FnG.imp {sp' : Sp} (F : FnG P w K mg base CX k f fd ps sp) (h : ∀ vs H Q E, sp' vs H Q E → sp vs H Q E) : FnG P w K mg base CX k f fd ps sp' :=
  ⟨fun vs H Q E q => F.len vs H Q E (h _ _ _ _ q), fun A out st H as us vs Q E g r e b v s => F.go A out st H as us vs Q E g r e b v (h _ _ _ _ s)⟩

/-- by the body -/
theorem okG0 {name qual : Str} {params : Arguments} {body : List Stmt} {scope : Scope} {dV kV doc pm cdv ct oc : Value} {an od : Option Addr} {osl : Array (Option Value)} {N : List Str}
    (lk : K.lookup f = some ⟨oc, od, .func (PySem.W.fnOf name qual params body scope dV kV doc pm an cdv ct), osl⟩) (code : PySem.W.codeIn K cdv qual = true) (S : FnScope N ps scope)
    (len : ∀ vs H Q E, sp vs H Q E → vs.length = ps.length)
    (walk : ∀ (A : Around) (out : List Env) (st : Shared) (H : Hp) (vs : List V) (Q : VK) (E : XK), A.guards = some [] → Room k (A.deeper (envOfC qual scope st.heap.objs.size f cdv)) → sp vs H Q E →
      ∃ t, PSs (cxOf CX P w K mg base N qual scope f cdv A out st H E) body t ∧ t { nx := fun _ H' => Q .non H', rt := Q } (start N vs) H) :
    FnG P w K mg base CX (k + 1) f (PySem.W.fnOf name qual params body scope dV kV doc pm an cdv ct) ps sp := by
  refine ⟨len, ?_⟩
  intro A out st H as us vs Q E gds room env binds vals want
  have size := len _ _ _ _ want
  have lim : st.heap.NoLimit := env.mod.nolimit.keeps fun b o e => (env.bs b o e).1
  have inK : K.In st.heap := env.mod.kin.keeps fun b o e => (env.bs b o e).1
  have kinds : ∀ y ∈ ps.zip us, scope.names.lookup y.1 = some .local ∨ (scope.names.lookup y.1 = some .cell ∧ ((cellsFrom (st.heap.objs.size + 1) scope.names []).lookup y.1).isSome = true) := by
    rintro ⟨n, v⟩ mem
    have mem1 : n ∈ ps := (List.of_mem_zip mem).1
    cases S.par n mem1 with
    | inl loc => exact Or.inl loc
    | inr cel => exact Or.inr ⟨cel, PySem.W.cellsFrom_some _ _ _ (Or.inl cel)⟩
  refine codeAny_call_function room.depth (inK _ _ lk) rfl S.co S.gen rfl (PySem.W.codeRec_of inK code) (binds _ _ _ _ ?_)
  refine wpAny_newFunctionEnv_cells S.kind kinds fun en hen s1 inn => ?_
  subst hen
  refine ⟨lim.keeps inn.toInCall.keep, codeAny_func ?_⟩
  obtain ⟨t, term, read⟩ := walk A out st H vs Q E gds (room.deeper _) want
  have inv := inv_start (CX := CX) (E := E) S room.hd env size vals inn
  refine wpAny_mono (term.run [] s1 (start N vs) H _ inv read) (fun fl s' hs => ?_) fun _ _ hs => hs
  have done : ∀ {sl' : L2.St} {H' : Hp} {v : V} {u : Value}, Inv (cxOf CX P w K mg base N qual scope f cdv A out st H E) [] sl' H' s' → RelV v u → Q v H' → CE out P w H st Q u s' := by
    intro sl' H' v u J rel q
    exact ⟨v, H', J.os, J.bare, J.base, J.hok, rel, q⟩
  cases fl with
  | next =>
    obtain ⟨_, _, J, q⟩ := hs
    exact done (v := V.non) (u := Value.none) J rfl q
  | ret u =>
    obtain ⟨_, _, _, J, rel, q⟩ := hs
    exact done J rel q
  | brk => exact (hs.choose_spec.choose_spec.2).elim
  | cont => exact (hs.choose_spec.choose_spec.2).elim

end

/-! calls -/
section
variable {X : Cx} {CX : CXT} {k n : Nat} {f : Addr} {fd : FuncData} {ps ks : List Str} {sp : Sp} {dvs : List V} {ds : List Value} {E : XK} {x : Str} {p pos : Pos} {e : Expr} {es : List Expr} {kws : List Keyword} {t tk : TA} {g : List Value → List Value → List Value} {gV : List V → List V → List V}
theorem goG {pins : List (Addr × Obj)} {sl : L2.St} {H : Hp} {s : Shared} {Q : VK} {us0 us : List Value} {kw : List (Str × Value)} {vs : List V} (F : FnG X.prog X.w X.K X.mg X.base CX k f fd ps sp) (gds : X.A.guards = some []) (hr : Room k X.A) (hx : Passes CX X E)
    (inv : Inv X pins sl H s) (b : BindsTo s fd ⟨us0, kw⟩ (ps.zip us)) (r : Vals vs us) (want : sp vs H Q E) : wpAny (model X.prog X.w) X.A (call (.ref f) us0 kw) (EP X pins sl Q) X.xe s := by
  refine wpAny_call (codeAny_mono (F.go X.A X.stack s H ⟨us0, kw⟩ us vs Q E gds hr inv.env0 b r want) fun r s' got => ?_)
  cases r with
  | error e => exact hx pins sl H s e s' inv got
  | ok fl =>
    cases fl with
    | ret u => exact inv.after got
    | next => exact got.elim
    | brk => exact got.elim
    | cont => exact got.elim
theorem callG (F : FnG X.prog X.w X.K X.mg X.base CX k f fd ps sp) (gds : X.A.guards = some []) (hr : Room k X.A) (hg : Gl X x) (hm : X.mg x = some (.ref f)) (hk : PySem.W.keepIn X.K (.ref f) = true) (hb : Binds X.K fd ps ds) (hd : Vals dvs ds) (hx : Passes CX X E)
    (ha : PA X (e :: es) t) (hdb : (x == ("__debug__" : Str)) = false := by decide) (he : starEach (e :: es) X.env = (false, eval e X.env) :: starEach es X.env := by rfl) (hpl : (backTo pos (starEach es X.env)).any (·.1) = false := by rfl) :
    PE X (.Call (.Name x p) (e :: es) [] pos) (tCall sp dvs E t) := by
  constructor
  intro pins s sl H Q inv want
  refine wpAny_Call_Name_kw (ld_glob inv hg hm ?_ hdb)
  refine PySem.W.callWith_K (h₀ := X.base) inv.ok.mod.kin hk (thn (ha.run pos pins s sl H _ inv want) ?_) he hpl
  rintro us s1 ⟨vs, H1, inv1, rel, q⟩
  refine ⟨inv1.kIn, ?_⟩
  have rel2 : Vals (vs ++ dvs) (us ++ ds) := rel.append hd
  have sz : (us ++ ds).length = ps.length := rel2.length.symm.trans (F.len _ _ _ _ q)
  exact goG F gds hr hx inv1 (hb s1 us inv1.kIn sz) rel2 q
theorem callG0 (F : FnG X.prog X.w X.K X.mg X.base CX k f fd ps sp) (gds : X.A.guards = some []) (hr : Room k X.A) (hg : Gl X x) (hm : X.mg x = some (.ref f)) (hk : PySem.W.keepIn X.K (.ref f) = true) (hb : Binds X.K fd ps ds) (hd : Vals dvs ds) (hx : Passes CX X E)
    (hdb : (x == ("__debug__" : Str)) = false := by decide) : PE X (.Call (.Name x p) [] [] pos) (tCall sp dvs E tNil) := by
  constructor
  intro pins s sl H Q inv want
  refine wpAny_Call_Name_kw (ld_glob inv hg hm ?_ hdb)
  refine PySem.W.callWith_K0 inv.kIn hk ?_
  have q : sp dvs H Q E := want
  have sz : (([] : List Value) ++ ds).length = ps.length := hd.length.symm.trans (F.len _ _ _ _ q)
  exact goG F gds hr hx inv (hb s [] inv.kIn sz) hd q
/-- f(k = v, ..) -/
theorem callGK (F : FnG X.prog X.w X.K X.mg X.base CX k f fd ps sp) (gds : X.A.guards = some []) (hr : Room k X.A) (hg : Gl X x) (hm : X.mg x = some (.ref f)) (hk : PySem.W.keepIn X.K (.ref f) = true) (hb : KBn X.K fd ps 0 ks g gV) (hx : Passes CX X E)
    (hkw : PK X kws tk) (hall : (backToKw pos (keywordEach kws X.env)).all (·.1.isSome) = true := by rfl) (hks : (backToKw pos (keywordEach kws X.env)).filterMap (·.1) = ks := by rfl)
    (hdb : (x == ("__debug__" : Str)) = false := by decide)
    (hpl : ((backTo pos (starEach [] X.env)).any (·.1) || (backToKw pos (keywordEach kws X.env)).any (·.1.isNone)) = false := by rfl) :
    PE X (.Call (.Name x p) [] kws pos) (tCallN 0 ks.length sp gV E tNil tk) := by
  constructor
  intro pins s sl H Q inv want
  refine wpAny_Call_Name_kw (ld_glob inv hg hm ?_ hdb)
  refine PySem.W.callWith_KW0 (h₀ := X.base) inv.ok.mod.kin hk hall ?_ hpl
  refine thn (hkw.run pos pins s sl H _ inv want) ?_
  rintro ws s2 ⟨zs, H2, inv2, relz, l1, l2, q2⟩
  refine ⟨inv2.kIn, ?_⟩
  rw [hks]
  exact goG F gds hr hx inv2 (hb.to s2 [] ws inv2.kIn rfl (relz.length.symm.trans l2)) (hb.rel .nil relz) q2
end


/-! the end: the law's promise at the heap behind the top -/
section
variable {P : Program} {w : World} {K : PySem.W.Frag} {mg mb : Str → Option Value} {k : Nat} {fa a : Addr} {fd : FuncData} {x : Str} {sp : Sp} {st : Shared} {vs : List Value} {ns : List Int}
end

/-! arguments where some parameters have defaults -/
/-! ### values as trees -/
inductive T where
  | non | bl (b : Bool) | int (i : Int) | str (z : Str) | ty (n : String) | st (a : Addr) | cell (a : Addr)
  | tup (l : List T) | lst (l : List T) | scr (l : List T) | ins (C : Addr) (l : List (Str × T)) | dct | exc (C : Addr) (l : List (Str × T))
/-- what changes: a list, an instance -/
inductive Cell where
  | lst (l : List T) | ins (C : Addr) (l : List (Str × T)) | tab (q : Str)
abbrev Store := Addr → Option Cell
def Store.put (S : Store) (a : Addr) (c : Cell) : Store := fun b => if b = a then some c else S b
def Store.drop (S : Store) (a : Addr) : Store := fun b => if b = a then none else S b
theorem put_same {S : Store} {a : Addr} {c : Cell} : S.put a c a = some c := by unfold Store.put; rw [if_pos rfl]
theorem put_ne {S : Store} {a b : Addr} {c : Cell} (h : b ≠ a) : S.put a c b = S b := by unfold Store.put; rw [if_neg h]
theorem drop_same {S : Store} {a : Addr} : S.drop a a = none := by unfold Store.drop; rw [if_pos rfl]
theorem drop_ne {S : Store} {a b : Addr} (h : b ≠ a) : S.drop a b = S b := by unfold Store.drop; rw [if_neg h]
theorem put_put {S : Store} {a : Addr} {c d : Cell} : (S.put a c).put a d = S.put a d := by
  funext b; unfold Store.put; split <;> rfl
/-- what may be hidden: a list, a dict -/
inductive Hi where
  | l (vs : List V) | d (kvs : List (Key × V))
def Hi.ho : Hi → HO
  | .l vs => .lst vs
  | .d kvs => .dK kvs
theorem Hi.nt (o : Hi) (ps) : o.ho ≠ .tbl ps := by cases o <;> exact fun e => nomatch e
section
variable (K : PySem.W.Frag) (Z : Addr → Prop) (S : Store) (H : Hp)
def TupAt (p : Addr) (vs : List V) : Prop := (Rd H p (.tup vs) ∧ S p = none ∧ ¬ Z p) ∨
  ∃ (o : Obj) (its : Array Value) (n : Nat), K.lookup p = some o ∧ o.cls = .type "tuple" ∧ o.data = .seq its n ∧ its.size ≤ sizeLine ∧ Vals vs its.toList
def LstAt (p : Addr) (vs : List V) : Prop := H p = some (.lst vs) ∧ S p = none ∧ ¬ Z p
def ScrAt (p : Addr) (vs : List V) : Prop := ((∃ o, H p = some (.frz o (.lst vs))) ∧ S p = none ∧ ¬ Z p) ∨
  ∃ (o : Obj) (its : Array Value) (n : Nat), K.lookup p = some o ∧ o.cls = .type "list" ∧ o.dict = none ∧ o.data = .seq its n ∧ its.size ≤ sizeLine ∧ Vals vs its.toList
/-- an error of a class of the program's own, with its own dict -/
def ExcAt (p C dx : Addr) : Heap → Prop := fun h => ∃ (oe : Obj) (t1 : Addr), h.get? p = some oe ∧ oe.cls = .ref C ∧ oe.dict = some dx ∧ oe.data = .fields #[.ref t1, .none, .none, .none, .bool false, .none]
mutual
inductive Rep : V → T → Prop
  | non : Rep .non .non
  | bl (b : Bool) : Rep (.bl b) (.bl b)
  | int (i : Int) : Rep (.int i) (.int i)
  | str (z : Str) : Rep (.str z) (.str z)
  | ty (n : String) : Rep (.ty n) (.ty n)
  | st (a : Addr) : Rep (.ref a) (.st a)
  | cell (a : Addr) : Rep (.ref a) (.cell a)
  | tup {p : Addr} {vs : List V} {ts : List T} (h : TupAt K Z S H p vs) (r : Reps vs ts) : Rep (.ref p) (.tup ts)
  | lst {p : Addr} {vs : List V} {ts : List T} (h : LstAt Z S H p vs) (r : Reps vs ts) : Rep (.ref p) (.lst ts)
  | scr {p : Addr} {vs : List V} {ts : List T} (h : ScrAt K Z S H p vs) (r : Reps vs ts) : Rep (.ref p) (.scr ts)
  | ins {p C dx : Addr} {fs : List (Str × V)} {gs : List (Str × T)} (h : H p = some (.ins C dx fs)) (n : S p = none ∧ ¬ Z p) (r : RepF fs gs) : Rep (.ref p) (.ins C gs)
  | dct {p : Addr} (h : H p = some (.dK [])) (n : S p = none ∧ ¬ Z p) : Rep (.ref p) .dct
  | exc {p C dx : Addr} {fs : List (Str × V)} {gs : List (Str × T)} (h : H p = some (.ext (ExcAt p C dx))) (n : S p = none ∧ ¬ Z p) (hd : H dx = some (.xd fs)) (nd : S dx = none ∧ ¬ Z dx) (r : RepF fs gs) : Rep (.ref p) (.exc C gs)
inductive Reps : List V → List T → Prop
  | nil : Reps [] []
  | cons {v : V} {t : T} {vs : List V} {ts : List T} (h : Rep v t) (r : Reps vs ts) : Reps (v :: vs) (t :: ts)
inductive RepF : List (Str × V) → List (Str × T) → Prop
  | nil : RepF [] []
  | cons {n : Str} {v : V} {t : T} {vs : List (Str × V)} {ts : List (Str × T)} (h : Rep v t) (r : RepF vs ts) : RepF ((n, v) :: vs) ((n, t) :: ts)
end
def CellOk (a : Addr) : Option Cell → Prop
  | none => True
  | some (.lst ts) => ∃ vs, H a = some (.lst vs) ∧ Reps K Z S H vs ts
  | some (.ins C gs) => ∃ dx fs, H a = some (.ins C dx fs) ∧ RepF K Z S H fs gs
  | some (.tab q) => LamX.TabS H a q
structure Ok : Prop where
  cl : ∀ a, CellOk K Z S H a (S a)
  hid : ∀ a, Z a → S a = none ∧ ∃ o : Hi, H a = some o.ho
end
/-- what stands, but for the cells, stands later -/
def Le (S : Store) (H : Hp) (S' : Store) (H' : Hp) : Prop := ∀ a o, H a = some o → S a = none → (∀ ps, o ≠ .tbl ps) → H' a = some o ∧ S' a = none
/-- .. and but for what is hidden -/
def LeZ (Z : Addr → Prop) (S : Store) (H : Hp) (S' : Store) (H' : Hp) : Prop := ∀ a o, H a = some o → S a = none → ¬ Z a → (∀ ps, o ≠ .tbl ps) → H' a = some o ∧ S' a = none
section
variable {K : PySem.W.Frag} {Z : Addr → Prop} {S S' S2 : Store} {H H' H2 : Hp}
theorem Le.refl : Le S H S H := fun _ _ h n _ => ⟨h, n⟩
theorem Le.z (l : Le S H S' H') : LeZ Z S H S' H' := fun a o h n _ => l a o h n
theorem Le.trans (a : Le S H S' H') (b : Le S' H' S2 H2) : Le S H S2 H2 := fun p o h n nt => b p o (a p o h n nt).1 (a p o h n nt).2 nt
theorem TupAt.lz {p : Addr} {vs : List V} (h : TupAt K Z S H p vs) (l : LeZ Z S H S' H') : TupAt K Z S' H' p vs := by
  rcases h with ⟨r, n, z⟩ | h
  · rcases r with r | ⟨o, r⟩
    · exact .inl ⟨.inl (l _ _ r n z (fun _ e => nomatch e)).1, (l _ _ r n z (fun _ e => nomatch e)).2, z⟩
    · exact .inl ⟨.inr ⟨o, (l _ _ r n z (fun _ e => nomatch e)).1⟩, (l _ _ r n z (fun _ e => nomatch e)).2, z⟩
  · exact .inr h
theorem TupAt.le {p : Addr} {vs : List V} (h : TupAt K Z S H p vs) (l : Le S H S' H') : TupAt K Z S' H' p vs := h.lz l.z
theorem LstAt.lz {p : Addr} {vs : List V} (h : LstAt Z S H p vs) (l : LeZ Z S H S' H') : LstAt Z S' H' p vs := ⟨(l _ _ h.1 h.2.1 h.2.2 (fun _ e => nomatch e)).1, (l _ _ h.1 h.2.1 h.2.2 (fun _ e => nomatch e)).2, h.2.2⟩
theorem ScrAt.lz {p : Addr} {vs : List V} (h : ScrAt K Z S H p vs) (l : LeZ Z S H S' H') : ScrAt K Z S' H' p vs := by
  rcases h with ⟨⟨o, r⟩, n, z⟩ | h
  · exact .inl ⟨⟨o, (l _ _ r n z (fun _ e => nomatch e)).1⟩, (l _ _ r n z (fun _ e => nomatch e)).2, z⟩
  · exact .inr h
theorem LstAt.le {p : Addr} {vs : List V} (h : LstAt Z S H p vs) (l : Le S H S' H') : LstAt Z S' H' p vs := h.lz l.z
theorem ScrAt.le {p : Addr} {vs : List V} (h : ScrAt K Z S H p vs) (l : Le S H S' H') : ScrAt K Z S' H' p vs := h.lz l.z
theorem TupAt.sq {p : Addr} {vs : List V} (h : TupAt K Z S H p vs) : SqT K H p vs := h.imp And.left id
theorem LstAt.sq {p : Addr} {vs : List V} (h : LstAt Z S H p vs) : SqL K H p vs := .inl (.inl h.1)
theorem ScrAt.sq {p : Addr} {vs : List V} (h : ScrAt K Z S H p vs) : SqL K H p vs := h.imp (fun a => .inr a.1) id
mutual
theorem Rep.lz (l : LeZ Z S H S' H') : ∀ {v : V} {t : T}, Rep K Z S H v t → Rep K Z S' H' v t
  | _, _, .non => .non
  | _, _, .bl b => .bl b
  | _, _, .int i => .int i
  | _, _, .str z => .str z
  | _, _, .ty n => .ty n
  | _, _, .st a => .st a
  | _, _, .cell a => .cell a
  | _, _, .tup h r => .tup (h.lz l) (Reps.lz l r)
  | _, _, .lst h r => .lst (h.lz l) (Reps.lz l r)
  | _, _, .scr h r => .scr (h.lz l) (Reps.lz l r)
  | _, _, .ins h n r => .ins (l _ _ h n.1 n.2 (fun _ e => nomatch e)).1 ⟨(l _ _ h n.1 n.2 (fun _ e => nomatch e)).2, n.2⟩ (RepF.lz l r)
  | _, _, .dct h n => .dct (l _ _ h n.1 n.2 (fun _ e => nomatch e)).1 ⟨(l _ _ h n.1 n.2 (fun _ e => nomatch e)).2, n.2⟩
  | _, _, .exc h n hd nd r => .exc (l _ _ h n.1 n.2 (fun _ e => nomatch e)).1 ⟨(l _ _ h n.1 n.2 (fun _ e => nomatch e)).2, n.2⟩ (l _ _ hd nd.1 nd.2 (fun _ e => nomatch e)).1 ⟨(l _ _ hd nd.1 nd.2 (fun _ e => nomatch e)).2, nd.2⟩ (RepF.lz l r)
theorem Reps.lz (l : LeZ Z S H S' H') : ∀ {vs : List V} {ts : List T}, Reps K Z S H vs ts → Reps K Z S' H' vs ts
  | _, _, .nil => .nil
  | _, _, .cons h r => .cons (Rep.lz l h) (Reps.lz l r)
theorem RepF.lz (l : LeZ Z S H S' H') : ∀ {vs : List (Str × V)} {ts : List (Str × T)}, RepF K Z S H vs ts → RepF K Z S' H' vs ts
  | _, _, .nil => .nil
  | _, _, .cons h r => .cons (Rep.lz l h) (RepF.lz l r)
end
theorem Rep.le {v : V} {t : T} (r : Rep K Z S H v t) (l : Le S H S' H') : Rep K Z S' H' v t := r.lz l.z
theorem Reps.le {vs : List V} {ts : List T} (r : Reps K Z S H vs ts) (l : Le S H S' H') : Reps K Z S' H' vs ts := r.lz l.z
theorem RepF.le {vs : List (Str × V)} {ts : List (Str × T)} (r : RepF K Z S H vs ts) (l : Le S H S' H') : RepF K Z S' H' vs ts := r.lz l.z
theorem Reps.length : ∀ {ts : List T} {vs : List V}, Reps K Z S H vs ts → vs.length = ts.length
  | [], _, .nil => rfl
  | _ :: _, _, .cons _ r => by simp [Reps.length r]
theorem Reps.append {vs ws : List V} {ts us : List T} (r : Reps K Z S H vs ts) (q : Reps K Z S H ws us) : Reps K Z S H (vs ++ ws) (ts ++ us) := by
  induction ts generalizing vs with
  | nil => cases r; exact q
  | cons t ts ih => cases r with | cons h r => exact .cons h (ih r)
theorem Reps.get {vs : List V} {ts : List T} {i : Nat} {t : T} (r : Reps K Z S H vs ts) (h : ts[i]? = some t) : ∃ v, vs[i]? = some v ∧ Rep K Z S H v t := by
  induction ts generalizing vs i with
  | nil => cases h
  | cons u ts ih =>
    cases r with
    | cons q r =>
      cases i with
      | zero => cases h; exact ⟨_, rfl, q⟩
      | succ i =>
        have hh : ts[i]? = some t := h
        obtain ⟨w, a, b⟩ := ih r hh
        exact ⟨w, a, b⟩
theorem Reps.take {vs : List V} {ts : List T} (n : Nat) (r : Reps K Z S H vs ts) : Reps K Z S H (vs.take n) (ts.take n) := by
  induction ts generalizing vs n with
  | nil => cases r; simp; exact .nil
  | cons t ts ih =>
    cases r with
    | cons h r =>
      cases n with
      | zero => exact .nil
      | succ n => exact .cons h (ih n r)
theorem Reps.drop {vs : List V} {ts : List T} (n : Nat) (r : Reps K Z S H vs ts) : Reps K Z S H (vs.drop n) (ts.drop n) := by
  induction ts generalizing vs n with
  | nil => cases r; simp; exact .nil
  | cons t ts ih =>
    cases r with
    | cons h r =>
      cases n with
      | zero => exact .cons h r
      | succ n => exact ih n r
theorem Reps.set {vs : List V} {ts : List T} {v : V} {t : T} (n : Nat) (r : Reps K Z S H vs ts) (h : Rep K Z S H v t) : Reps K Z S H (vs.set n v) (ts.set n t) := by
  induction ts generalizing vs n with
  | nil => cases r; exact .nil
  | cons u ts ih =>
    cases r with
    | cons q r =>
      cases n with
      | zero => exact .cons h r
      | succ n => exact .cons q (ih n r)
theorem Reps.reverse {vs : List V} {ts : List T} (r : Reps K Z S H vs ts) : Reps K Z S H vs.reverse ts.reverse := by
  induction ts generalizing vs with
  | nil => cases r; exact .nil
  | cons u ts ih =>
    cases r with
    | cons q r => rw [List.reverse_cons, List.reverse_cons]; exact (ih r).append (.cons q .nil)
theorem RepF.look {fs : List (Str × V)} {gs : List (Str × T)} {f : Str} {t : T} (r : RepF K Z S H fs gs) (h : gs.lookup f = some t) : ∃ v, fs.lookup f = some v ∧ Rep K Z S H v t := by
  induction gs generalizing fs with
  | nil => cases h
  | cons g gs ih =>
    cases r with
    | @cons n v u vs ts q r =>
      by_cases e : f = n
      · subst e
        simp only [List.lookup, beq_self_eq_true] at h ⊢
        cases h
        exact ⟨_, rfl, q⟩
      · have e' : (f == n) = false := by simpa using e
        simp only [List.lookup, e'] at h ⊢
        exact ih r h
theorem RepF.length {fs : List (Str × V)} {gs : List (Str × T)} (r : RepF K Z S H fs gs) : fs.length = gs.length := by
  induction gs generalizing fs with
  | nil => cases r; rfl
  | cons g gs ih => cases r with | cons q r => simp [ih r]
/-- a new thing is laid -/
theorem le_new {p : Addr} {o : HO} (h : H p = none) : Le S H S (upd H p o) := fun a u e n _ => ⟨by rw [upd_ne (ne_of_none e h)]; exact e, n⟩
theorem Ok.free {p : Addr} (ok : Ok K Z S H) (h : H p = none) : S p = none := by
  have := ok.cl p
  cases e : S p with
  | none => rfl
  | some c =>
    rw [e] at this
    cases c with
    | lst ts => obtain ⟨vs, q, _⟩ := this; rw [h] at q; cases q
    | ins C gs => obtain ⟨dx, fs, q, _⟩ := this; rw [h] at q; cases q
    | tab z => obtain ⟨ps, q, _⟩ := this; rw [h] at q; cases q
theorem Ok.nz {p : Addr} (ok : Ok K Z S H) (h : H p = none) : ¬ Z p := fun z => by
  obtain ⟨_, o, e⟩ := ok.hid p z
  rw [h] at e; cases e
theorem Ok.nzc {p : Addr} {c : Cell} (ok : Ok K Z S H) (h : S p = some c) : ¬ Z p := fun z => by
  obtain ⟨e, _⟩ := ok.hid p z
  rw [h] at e; cases e
theorem Ok.codeN {c : Addr} {q : Str} (ok : Ok K Z S H) (h : H c = some (LamX.CodeO c q)) : S c = none := by
  have k := ok.cl c
  cases e : S c with
  | none => rfl
  | some x =>
    rw [e] at k
    cases x with
    | lst ts => obtain ⟨vs, z, _⟩ := k; rw [h] at z; cases z
    | ins C gs => obtain ⟨dx, fs, z, _⟩ := k; rw [h] at z; cases z
    | tab w => obtain ⟨ps, z, _⟩ := k; rw [h] at z; cases z
theorem tab_le {P : Addr} {q : Str} (k : LamX.TabS H P q) (e : H' P = H P) (f : ∀ c, H c = some (LamX.CodeO c q) → H' c = some (LamX.CodeO c q)) : LamX.TabS H' P q := by
  obtain ⟨ps, h, tr, g⟩ := k
  refine ⟨ps, by rw [e]; exact h, tr, fun pos cv hc => ?_⟩
  obtain ⟨c, e1, e2⟩ := g pos cv hc
  exact ⟨c, e1, f c e2⟩
theorem CellOk.le {a : Addr} (ok : Ok K Z S H) (k : CellOk K Z S H a (S a)) (l : Le S H S' H') (c : S a ≠ none → H' a = H a) : CellOk K Z S' H' a (S a) := by
  cases e : S a with
  | none => trivial
  | some x =>
    rw [e] at k
    have ca := c (by rw [e]; exact fun z => nomatch z)
    cases x with
    | lst ts => obtain ⟨vs, q, r⟩ := k; exact ⟨vs, by rw [ca]; exact q, r.le l⟩
    | ins C gs => obtain ⟨dx, fs, q, r⟩ := k; exact ⟨dx, fs, by rw [ca]; exact q, r.le l⟩
    | tab q => exact tab_le k ca fun c h => (l c _ h (ok.codeN h) (fun _ e => nomatch e)).1
theorem Ok.le (ok : Ok K Z S H) (l : Le S H S H') (c : ∀ a, S a ≠ none → H' a = H a) : Ok K Z S H' :=
  ⟨fun a => (ok.cl a).le ok l (c a), fun a z => by
    obtain ⟨n, o, e⟩ := ok.hid a z
    exact ⟨n, o, (l a _ e n o.nt).1⟩⟩
theorem Ok.new {p : Addr} {o : HO} (ok : Ok K Z S H) (h : H p = none) : Ok K Z S (upd H p o) :=
  ok.le (le_new h) fun a n => upd_ne fun e => n (by rw [e]; exact ok.free h)
theorem Rep.tupN {p : Addr} {vs : List V} {ts : List T} (ok : Ok K Z S H) (h : H p = none) (r : Reps K Z S H vs ts) : Rep K Z S (upd H p (.tup vs)) (.ref p) (.tup ts) :=
  .tup (.inl ⟨.inl upd_same, ok.free h, ok.nz h⟩) (r.le (le_new h))
theorem Rep.lstN {p : Addr} {vs : List V} {ts : List T} (ok : Ok K Z S H) (h : H p = none) (r : Reps K Z S H vs ts) : Rep K Z S (upd H p (.lst vs)) (.ref p) (.lst ts) :=
  .lst ⟨upd_same, ok.free h, ok.nz h⟩ (r.le (le_new h))
/-- a new cell -/
theorem le_newc {p : Addr} {o : HO} {c : Cell} (h : H p = none) : Le S H (S.put p c) (upd H p o) := fun a u e n _ => by
  have ne := ne_of_none e h
  exact ⟨by rw [upd_ne ne]; exact e, by rw [put_ne ne]; exact n⟩
theorem Ok.putG {p : Addr} {c : Cell} (ok : Ok K Z S H) (l : Le S H (S.put p c) H') (nz : ¬ Z p) (st : ∀ a, a ≠ p → S a ≠ none → H' a = H a) (new : CellOk K Z (S.put p c) H' p (some c)) : Ok K Z (S.put p c) H' := by
  refine ⟨fun a => ?_, fun a z => ?_⟩
  · by_cases e : a = p
    · subst e; rw [put_same]; exact new
    · rw [put_ne e]
      exact (ok.cl a).le ok l (st a e)
  · have e : a ≠ p := fun e => nz (e ▸ z)
    obtain ⟨n, o, h⟩ := ok.hid a z
    exact ⟨by rw [put_ne e]; exact n, o, (l a _ h n o.nt).1⟩
theorem Ok.put {p : Addr} {o : HO} {c : Cell} (ok : Ok K Z S H) (l : Le S H (S.put p c) (upd H p o)) (nz : ¬ Z p) (new : CellOk K Z (S.put p c) (upd H p o) p (some c)) : Ok K Z (S.put p c) (upd H p o) :=
  ok.putG l nz (fun a e _ => upd_ne e) new
/-- a cell changes -/
theorem le_setc {p : Addr} {o : HO} {c d : Cell} (h : S p = some d) : Le S H (S.put p c) (upd H p o) := fun a u e n _ => by
  have ne : a ≠ p := fun z => by rw [z, h] at n; cases n
  exact ⟨by rw [upd_ne ne]; exact e, by rw [put_ne ne]; exact n⟩
/-- a cell ceases to change -/
theorem le_drop {p : Addr} : Le S H (S.drop p) H := fun a u e n _ => ⟨e, by
  by_cases z : a = p
  · rw [z]; exact drop_same
  · rw [drop_ne z]; exact n⟩
theorem Ok.drop {p : Addr} (ok : Ok K Z S H) : Ok K Z (S.drop p) H := by
  refine ⟨fun a => ?_, fun a z => ?_⟩
  · by_cases e : a = p
    · rw [e, drop_same]; trivial
    · rw [drop_ne e]
      exact (ok.cl a).le ok le_drop fun _ => rfl
  · obtain ⟨n, h⟩ := ok.hid a z
    refine ⟨?_, h⟩
    by_cases e : a = p
    · rw [e]; exact drop_same
    · rw [drop_ne e]; exact n
theorem Rep.frz {p : Addr} {ts : List T} (ok : Ok K Z S H) (h : S p = some (.lst ts)) : Rep K Z (S.drop p) H (.ref p) (.lst ts) := by
  have := ok.cl p
  rw [h] at this
  obtain ⟨vs, q, r⟩ := this
  exact .lst ⟨q, drop_same, ok.nzc h⟩ (r.le le_drop)
/-- p is hidden from now on; it was new -/
def hideA (Z : Addr → Prop) (p : Addr) : Addr → Prop := fun a => Z a ∨ a = p
/-- more is hidden, of what was not there -/
def Hid (H : Hp) (Z Z' : Addr → Prop) : Prop := ∀ a, Z' a → Z a ∨ H a = none
theorem hid_a {p : Addr} (h : H p = none) : Hid H Z (hideA Z p) := fun a z => z.imp id fun e => by rw [e]; exact h
theorem Hid.rd {Z' : Addr → Prop} {p : Addr} {u : HO} (x : Hid H Z Z') (n : ¬ Z p) (r : Rd H p u) : ¬ Z' p := fun z => by
  rcases x p z with z | e
  · exact n z
  · rcases r with r | ⟨_, r⟩ <;> (rw [e] at r; cases r)
theorem TupAt.hide {Z' : Addr → Prop} {p : Addr} {vs : List V} (x : Hid H Z Z') (h : TupAt K Z S H p vs) : TupAt K Z' S H p vs := h.imp (fun ⟨a, b, c⟩ => ⟨a, b, x.rd c a⟩) id
theorem LstAt.hide {Z' : Addr → Prop} {p : Addr} {vs : List V} (x : Hid H Z Z') (h : LstAt Z S H p vs) : LstAt Z' S H p vs := ⟨h.1, h.2.1, x.rd h.2.2 (.inl h.1)⟩
theorem ScrAt.hide {Z' : Addr → Prop} {p : Addr} {vs : List V} (x : Hid H Z Z') (h : ScrAt K Z S H p vs) : ScrAt K Z' S H p vs := h.imp (fun ⟨⟨o, a⟩, b, c⟩ => ⟨⟨o, a⟩, b, fun z => by
  rcases x p z with z | e
  · exact c z
  · rw [e] at a; cases a⟩) id
mutual
theorem Rep.hide {Z' : Addr → Prop} (x : Hid H Z Z') : ∀ {v : V} {t : T}, Rep K Z S H v t → Rep K Z' S H v t
  | _, _, .non => .non
  | _, _, .bl b => .bl b
  | _, _, .int i => .int i
  | _, _, .str z => .str z
  | _, _, .ty n => .ty n
  | _, _, .st a => .st a
  | _, _, .cell a => .cell a
  | _, _, .tup h r => .tup (h.hide x) (Reps.hide x r)
  | _, _, .lst h r => .lst (h.hide x) (Reps.hide x r)
  | _, _, .scr h r => .scr (h.hide x) (Reps.hide x r)
  | _, _, .ins h n r => .ins h ⟨n.1, x.rd n.2 (.inl h)⟩ (RepF.hide x r)
  | _, _, .dct h n => .dct h ⟨n.1, x.rd n.2 (.inl h)⟩
  | _, _, .exc h n hd nd r => .exc h ⟨n.1, x.rd n.2 (.inl h)⟩ hd ⟨nd.1, x.rd nd.2 (.inl hd)⟩ (RepF.hide x r)
theorem Reps.hide {Z' : Addr → Prop} (x : Hid H Z Z') : ∀ {vs : List V} {ts : List T}, Reps K Z S H vs ts → Reps K Z' S H vs ts
  | _, _, .nil => .nil
  | _, _, .cons h r => .cons (Rep.hide x h) (Reps.hide x r)
theorem RepF.hide {Z' : Addr → Prop} (x : Hid H Z Z') : ∀ {vs : List (Str × V)} {ts : List (Str × T)}, RepF K Z S H vs ts → RepF K Z' S H vs ts
  | _, _, .nil => .nil
  | _, _, .cons h r => .cons (Rep.hide x h) (RepF.hide x r)
end
mutual
theorem Rep.show {p : Addr} : ∀ {v : V} {t : T}, Rep K (hideA Z p) S H v t → Rep K Z S H v t
  | _, _, .non => .non
  | _, _, .bl b => .bl b
  | _, _, .int i => .int i
  | _, _, .str z => .str z
  | _, _, .ty n => .ty n
  | _, _, .st a => .st a
  | _, _, .cell a => .cell a
  | _, _, .tup h r => .tup (h.imp (fun ⟨a, b, c⟩ => ⟨a, b, fun z => c (.inl z)⟩) id) (Reps.show r)
  | _, _, .lst h r => .lst ⟨h.1, h.2.1, fun z => h.2.2 (.inl z)⟩ (Reps.show r)
  | _, _, .scr h r => .scr (h.imp (fun ⟨a, b, c⟩ => ⟨a, b, fun z => c (.inl z)⟩) id) (Reps.show r)
  | _, _, .ins h n r => .ins h ⟨n.1, fun z => n.2 (.inl z)⟩ (RepF.show r)
  | _, _, .dct h n => .dct h ⟨n.1, fun z => n.2 (.inl z)⟩
  | _, _, .exc h n hd nd r => .exc h ⟨n.1, fun z => n.2 (.inl z)⟩ hd ⟨nd.1, fun z => nd.2 (.inl z)⟩ (RepF.show r)
theorem Reps.show {p : Addr} : ∀ {vs : List V} {ts : List T}, Reps K (hideA Z p) S H vs ts → Reps K Z S H vs ts
  | _, _, .nil => .nil
  | _, _, .cons h r => .cons (Rep.show h) (Reps.show r)
theorem RepF.show {p : Addr} : ∀ {vs : List (Str × V)} {ts : List (Str × T)}, RepF K (hideA Z p) S H vs ts → RepF K Z S H vs ts
  | _, _, .nil => .nil
  | _, _, .cons h r => .cons (Rep.show h) (RepF.show r)
end
theorem CellOk.map {Z' : Addr → Prop} {a : Addr} {c : Option Cell} (k : CellOk K Z S H a c) (f : ∀ {vs ts}, Reps K Z S H vs ts → Reps K Z' S' H' vs ts) (g : ∀ {vs ts}, RepF K Z S H vs ts → RepF K Z' S' H' vs ts) (e : c ≠ none → H' a = H a) (hc : ∀ c q, H c = some (LamX.CodeO c q) → H' c = some (LamX.CodeO c q)) : CellOk K Z' S' H' a c := by
  cases c with
  | none => trivial
  | some x =>
    have ca := e (fun z => nomatch z)
    cases x with
    | lst ts => obtain ⟨vs, q, r⟩ := k; exact ⟨vs, by rw [ca]; exact q, f r⟩
    | ins C gs => obtain ⟨dx, fs, q, r⟩ := k; exact ⟨dx, fs, by rw [ca]; exact q, g r⟩
    | tab q => exact tab_le k ca fun c h => hc c q h
/-- a hidden thing is laid -/
theorem Ok.hideO {p : Addr} {o : Hi} (ok : Ok K Z S H) (h : H p = none) : Ok K (hideA Z p) S (upd H p o.ho) := by
  have ne : ∀ a, S a ≠ none → a ≠ p := fun a n e => n (by rw [e]; exact ok.free h)
  refine ⟨fun a => (ok.cl a).map (fun r => (r.hide (hid_a h)).le (le_new h)) (fun r => (r.hide (hid_a h)).le (le_new h)) (fun n => upd_ne (ne a n)) fun c q e => by rw [upd_ne (ne_of_none e h)]; exact e, fun a z => ?_⟩
  rcases z with z | rfl
  · obtain ⟨n, u, e⟩ := ok.hid a z
    exact ⟨n, u, ((le_new (S := S) (o := o.ho) h) a _ e n u.nt).1⟩
  · exact ⟨ok.free h, o, upd_same⟩
theorem Ok.hide {p : Addr} {us : List V} (ok : Ok K Z S H) (h : H p = none) : Ok K (hideA Z p) S (upd H p (.lst us)) := ok.hideO (o := .l us) h
/-- it changes -/
theorem lz_hid {p : Addr} {o : HO} : LeZ (hideA Z p) S H S (upd H p o) := fun a u e n z _ => ⟨by rw [upd_ne fun q => z (.inr q)]; exact e, n⟩
theorem Ok.hidSetO {p : Addr} {o : Hi} (ok : Ok K (hideA Z p) S H) : Ok K (hideA Z p) S (upd H p o.ho) := by
  have ne : ∀ a, S a ≠ none → a ≠ p := fun a n e => n (by rw [e]; exact (ok.hid p (.inr rfl)).1)
  refine ⟨fun a => (ok.cl a).map (fun r => r.lz lz_hid) (fun r => r.lz lz_hid) (fun n => upd_ne (ne a n)) fun c q e => ?_, fun a z => ?_⟩
  · have nc : c ≠ p := fun z => by
      obtain ⟨_, u, h⟩ := ok.hid p (.inr rfl)
      rw [z, h] at e
      cases u <;> cases e
    rw [upd_ne nc]; exact e
  obtain ⟨n, u, e⟩ := ok.hid a z
  by_cases q : a = p
  · subst q; exact ⟨n, o, upd_same⟩
  · exact ⟨n, u, by rw [upd_ne q]; exact e⟩
theorem Ok.hidSet {p : Addr} {us : List V} (ok : Ok K (hideA Z p) S H) : Ok K (hideA Z p) S (upd H p (.lst us)) := ok.hidSetO (o := .l us)
/-- it is shown -/
theorem Ok.show {p : Addr} (ok : Ok K (hideA Z p) S H) : Ok K Z S H :=
  ⟨fun a => (ok.cl a).map (fun r => r.show) (fun r => r.show) (fun _ => rfl) fun _ _ e => e, fun a z => ok.hid a (.inl z)⟩
end
/-! ### the names of a def -/
inductive FrR (K : PySem.W.Frag) (Z : Addr → Prop) (S : Store) (H : Hp) : List (Option V) → List (Option T) → Prop
  | nil : FrR K Z S H [] []
  | skip {x : Option V} {l : List (Option V)} {m : List (Option T)} (r : FrR K Z S H l m) : FrR K Z S H (x :: l) (none :: m)
  | cons {v : V} {t : T} {l : List (Option V)} {m : List (Option T)} (h : Rep K Z S H v t) (r : FrR K Z S H l m) : FrR K Z S H (some v :: l) (some t :: m)
section
variable {K : PySem.W.Frag} {Z : Addr → Prop} {S S' S2 : Store} {H H' H2 : Hp}
theorem FrR.le {sl : List (Option V)} {σ : List (Option T)} (f : FrR K Z S H sl σ) (l : Le S H S' H') : FrR K Z S' H' sl σ := by
  induction f with
  | nil => exact .nil
  | skip _ ih => exact .skip ih
  | cons h _ ih => exact .cons (h.le l) ih
theorem FrR.get {sl : List (Option V)} {σ : List (Option T)} {i : Nat} {t : T} (f : FrR K Z S H sl σ) (h : σ[i]? = some (some t)) : ∃ v, sl[i]? = some (some v) ∧ Rep K Z S H v t := by
  induction f generalizing i with
  | nil => cases h
  | skip _ ih =>
    cases i with
    | zero => cases h
    | succ i => exact ih h
  | cons q _ ih =>
    cases i with
    | zero => cases h; exact ⟨_, rfl, q⟩
    | succ i => exact ih h
theorem FrR.set {sl : List (Option V)} {σ : List (Option T)} {v : V} {t : T} (i : Nat) (f : FrR K Z S H sl σ) (h : Rep K Z S H v t) : FrR K Z S H (sl.set i (some v)) (σ.set i (some t)) := by
  induction f generalizing i with
  | nil => exact .nil
  | skip r ih =>
    cases i with
    | zero => exact .cons h r
    | succ i => exact .skip (ih i)
  | cons q r ih =>
    cases i with
    | zero => exact .cons h r
    | succ i => exact .cons q (ih i)
theorem FrR.hide {Z' : Addr → Prop} {sl : List (Option V)} {σ : List (Option T)} (x : Hid H Z Z') (f : FrR K Z S H sl σ) : FrR K Z' S H sl σ := by
  induction f with
  | nil => exact .nil
  | skip _ ih => exact .skip ih
  | cons h _ ih => exact .cons (h.hide x) ih
theorem FrR.lz {sl : List (Option V)} {σ : List (Option T)} (f : FrR K Z S H sl σ) (l : LeZ Z S H S' H') : FrR K Z S' H' sl σ := by
  induction f with
  | nil => exact .nil
  | skip _ ih => exact .skip ih
  | cons h _ ih => exact .cons (h.lz l) ih
theorem FrR.length {sl : List (Option V)} {σ : List (Option T)} (f : FrR K Z S H sl σ) : sl.length = σ.length := by
  induction f with
  | nil => rfl
  | skip _ ih => simp [ih]
  | cons _ _ ih => simp [ih]
def startT (N : List Str) (ts : List T) : List (Option T) := ts.map some ++ List.replicate (N.length - ts.length) none
theorem FrR.reps {vs : List V} {ts : List T} (r : Reps K Z S H vs ts) {l : List (Option V)} {m : List (Option T)} (f : FrR K Z S H l m) : FrR K Z S H (vs.map some ++ l) (ts.map some ++ m) := by
  induction ts generalizing vs with
  | nil => cases r; exact f
  | cons t ts ih => cases r with | cons h r => exact .cons h (ih r)
theorem FrR.nones (n : Nat) : FrR K Z S H (List.replicate n none) (List.replicate n none) := by
  induction n with
  | zero => exact .nil
  | succ n ih => exact .skip ih
theorem FrR.start {N : List Str} {vs : List V} {ts : List T} (r : Reps K Z S H vs ts) : FrR K Z S H (start N vs) (startT N ts) := by
  unfold L2.start startT
  rw [r.length]
  exact FrR.reps r (FrR.nones _)
end

theorem pe_weak {X : Cx} {e : Expr} {t t' : TE} (he : PE X e t) (imp : ∀ sl H Q, t' sl H Q → t sl H Q) : PE X e t' := ⟨fun pins s sl H Q inv h => he.run pins s sl H Q inv (imp sl H Q h)⟩
/-! ### what trees are to fulfil -/
abbrev Fm := List (Option T)
abbrev XT := Addr → List (Str × T) → Store → Prop
abbrev TR := Fm → Store → (T → Store → Prop) → XT → Prop
abbrev TRB := Fm → Store → (Bool → Store → Prop) → XT → Prop
abbrev TRA := Fm → Store → (List T → Store → Prop) → XT → Prop
structure EnT where
  nx : Fm → Store → Prop
  rt : T → Store → Prop
  ex : XT
  bk : Fm → Store → Prop := fun _ _ => False
  ct : Fm → Store → Prop := fun _ _ => False
abbrev TRS := EnT → Fm → Store → Prop
def XD (H : Hp) (od : Option Addr) (fs : List (Str × V)) : Prop := match od with
  | some d => H d = some (.xd fs)
  | none => fs = []
section
variable (K : PySem.W.Frag) (Z : Addr → Prop) (S : Store) (H : Hp)
def XOk (RE : XT) (E : XK) : Prop := ∀ C gs S' od fs H', RE C gs S' → Le S H S' H' → Ok K Z S' H' → XD H' od fs → RepF K Z S' H' fs gs → E (.ref C) od H'
def PO (R : T → Store → Prop) (Q : VK) : Prop := ∀ t S' v H', R t S' → Le S H S' H' → Ok K Z S' H' → Rep K Z S' H' v t → Q v H'
def POB (R : Bool → Store → Prop) (Q : Bool → Hp → Prop) : Prop := ∀ b S' H', R b S' → Le S H S' H' → Ok K Z S' H' → Q b H'
def POA (R : List T → Store → Prop) (Q : List V → Hp → Prop) : Prop := ∀ ts S' vs H', R ts S' → Le S H S' H' → Ok K Z S' H' → Reps K Z S' H' vs ts → Q vs H'
def POF (R : Fm → Store → Prop) (Q : L2.St → Hp → Prop) : Prop := ∀ σ S' sl H', R σ S' → Le S H S' H' → Ok K Z S' H' → FrR K Z S' H' sl σ → Q sl H'
end
structure UpE (K : PySem.W.Frag) (E : XK) (r : TR) (sl : L2.St) (H : Hp) (Q : VK) : Prop where
  ex : ∃ Z σ S R RE, FrR K Z S H sl σ ∧ Ok K Z S H ∧ r σ S R RE ∧ PO K Z S H R Q ∧ XOk K Z S H RE E
structure UpB (K : PySem.W.Frag) (E : XK) (r : TRB) (sl : L2.St) (H : Hp) (Q : Bool → Hp → Prop) : Prop where
  ex : ∃ Z σ S R RE, FrR K Z S H sl σ ∧ Ok K Z S H ∧ r σ S R RE ∧ POB K Z S H R Q ∧ XOk K Z S H RE E
structure UpA (K : PySem.W.Frag) (E : XK) (r : TRA) (sl : L2.St) (H : Hp) (Q : List V → Hp → Prop) : Prop where
  ex : ∃ Z σ S R RE, FrR K Z S H sl σ ∧ Ok K Z S H ∧ r σ S R RE ∧ POA K Z S H R Q ∧ XOk K Z S H RE E
structure EO (K : PySem.W.Frag) (Z : Addr → Prop) (S : Store) (H : Hp) (DT : EnT) (D : Ends) : Prop where
  nx : POF K Z S H DT.nx D.nx
  rt : PO K Z S H DT.rt D.rt
  bk : POF K Z S H DT.bk D.bk
  ct : POF K Z S H DT.ct D.ct
structure UpS (K : PySem.W.Frag) (E : XK) (r : TRS) (D : Ends) (sl : L2.St) (H : Hp) : Prop where
  ex : ∃ Z σ S DT, FrR K Z S H sl σ ∧ Ok K Z S H ∧ r DT σ S ∧ EO K Z S H DT D ∧ XOk K Z S H DT.ex E
structure ET (X : Cx) (E : XK) (e : Expr) (r : TR) : Prop where
  pe : PE X e (UpE X.K E r)
structure TT' (X : Cx) (E : XK) (e : Expr) (r : TRB) : Prop where
  pt : PT X e (UpB X.K E r)
structure TW' (X : Cx) (E : XK) (e : Expr) (r : TRB) : Prop where
  pw : PW X e (UpB X.K E r)
structure AT (X : Cx) (E : XK) (es : List Expr) (r : TRA) : Prop where
  pa : PA X es (UpA X.K E r)
structure SS (X : Cx) (E : XK) (st : Stmt) (r : TRS) : Prop where
  ps : PS X st (UpS X.K E r)
structure BS (X : Cx) (E : XK) (st : List Stmt) (r : TRS) : Prop where
  ps : PSs X st (UpS X.K E r)
section
variable {K : PySem.W.Frag} {Z : Addr → Prop} {S S1 S2 : Store} {H H1 H2 : Hp} {E : XK} {Q : VK} {sl : L2.St} {ra rb : TR}
theorem XOk.le {RE : XT} (x : XOk K Z S H RE E) (l : Le S H S1 H1) : XOk K Z S1 H1 RE E := fun C gs S' od fs H' r l' ok d rf => x C gs S' od fs H' r (l.trans l') ok d rf
theorem PO.le {R : T → Store → Prop} (x : PO K Z S H R Q) (l : Le S H S1 H1) : PO K Z S1 H1 R Q := fun t S' v H' r l' ok rep => x t S' v H' r (l.trans l') ok rep
theorem POB.le {R : Bool → Store → Prop} {Q : Bool → Hp → Prop} (x : POB K Z S H R Q) (l : Le S H S1 H1) : POB K Z S1 H1 R Q := fun t S' H' r l' ok => x t S' H' r (l.trans l') ok
theorem POA.le {R : List T → Store → Prop} {Q : List V → Hp → Prop} (x : POA K Z S H R Q) (l : Le S H S1 H1) : POA K Z S1 H1 R Q := fun t S' v H' r l' ok rep => x t S' v H' r (l.trans l') ok rep
theorem POF.le {R : Fm → Store → Prop} {Q : L2.St → Hp → Prop} (x : POF K Z S H R Q) (l : Le S H S1 H1) : POF K Z S1 H1 R Q := fun t S' v H' r l' ok rep => x t S' v H' r (l.trans l') ok rep
theorem EO.le {DT : EnT} {D : Ends} (x : EO K Z S H DT D) (l : Le S H S1 H1) : EO K Z S1 H1 DT D := ⟨x.nx.le l, x.rt.le l, x.bk.le l, x.ct.le l⟩
/-- one part, then the rest -/
theorem UpE.one {k : Fm → T → Store → (T → Store → Prop) → XT → Prop} {Q' : VK} (h : UpE K E (fun σ S R RE => ra σ S (fun x S1 => k σ x S1 R RE) RE) sl H Q)
    (step : ∀ Z σ x S1 v H1 R RE, FrR K Z S1 H1 sl σ → Ok K Z S1 H1 → Rep K Z S1 H1 v x → k σ x S1 R RE → PO K Z S1 H1 R Q → XOk K Z S1 H1 RE E → Q' v H1) : UpE K E ra sl H Q' := by
  obtain ⟨Z, σ, S, R, RE, fr, ok, w, po, xo⟩ := h.ex
  exact ⟨_, σ, S, _, RE, fr, ok, w, fun x S1 v H1 kk le ok1 rep => step Z σ x S1 v H1 R RE (fr.le le) ok1 rep kk (po.le le) (xo.le le), xo⟩
/-- two parts, then the rest -/
theorem UpE.two {k : T → T → Store → (T → Store → Prop) → XT → Prop} {Q2 : V → V → Hp → Prop} (h : UpE K E (fun σ S R RE => ra σ S (fun x S1 => rb σ S1 (fun y S2 => k x y S2 R RE) RE) RE) sl H Q)
    (step : ∀ Z x y S2 v u H2 R RE, Ok K Z S2 H2 → Rep K Z S2 H2 v x → Rep K Z S2 H2 u y → k x y S2 R RE → PO K Z S2 H2 R Q → XOk K Z S2 H2 RE E → Q2 v u H2) :
    UpE K E ra sl H (fun v H1 => UpE K E rb sl H1 (fun u H2 => Q2 v u H2)) := by
  obtain ⟨Z, σ, S, R, RE, fr, ok, w, po, xo⟩ := h.ex
  refine ⟨_, σ, S, _, RE, fr, ok, w, fun x S1 v H1 kk le ok1 rep => ?_, xo⟩
  exact ⟨_, σ, S1, _, RE, fr.le le, ok1, kk, fun y S2 u H2 k2 le2 ok2 rep2 => step Z x y S2 v u H2 R RE ok2 (rep.le le2) rep2 k2 ((po.le le).le le2) ((xo.le le).le le2), xo.le le⟩
theorem UpA.args {t : TRA} {k : List T → Store → (T → Store → Prop) → XT → Prop} {Q' : List V → Hp → Prop} (h : UpE K E (fun σ S R RE => t σ S (fun x S1 => k x S1 R RE) RE) sl H Q)
    (step : ∀ Z x S1 v H1 R RE, Ok K Z S1 H1 → Reps K Z S1 H1 v x → k x S1 R RE → PO K Z S1 H1 R Q → XOk K Z S1 H1 RE E → Q' v H1) : UpA K E t sl H Q' := by
  obtain ⟨Z, σ, S, R, RE, fr, ok, w, po, xo⟩ := h.ex
  exact ⟨_, σ, S, _, RE, fr, ok, w, fun x S1 v H1 kk le ok1 rep => step Z x S1 v H1 R RE ok1 rep kk (po.le le) (xo.le le), xo⟩
end
section
variable {X : Cx} {E : XK} {e a b c : Expr} {es : List Expr} {pos : Pos} {ra rb rc : TR}
/-! ### names, constants -/
def rVar (i : Nat) : TR := fun σ S R _ => ∃ t, σ[i]? = some (some t) ∧ R t S
theorem et_var {i : Nat} (h : PE X e (tVar i)) : ET X E e (rVar i) := ⟨pe_weak h fun sl H Q ⟨⟨Z, σ, S, R, RE, fr, ok, ⟨t, hi, r⟩, po, _⟩⟩ => by
  obtain ⟨v, hv, rep⟩ := fr.get hi
  exact ⟨v, hv, po t S v H r .refl ok rep⟩⟩
/-- a name whose list changes no more -/
def rFrz (i : Nat) : TR := fun σ S R _ => ∃ a ts, σ[i]? = some (some (.cell a)) ∧ S a = some (.lst ts) ∧ R (.lst ts) (S.drop a)
def rC (t : T) : TR := fun _ S R _ => R t S
theorem et_c {v : V} {t : T} (h : PE X e (tC v)) (rep : ∀ Z S H, Rep X.K Z S H v t) : ET X E e (rC t) := ⟨pe_weak h fun sl H Q ⟨⟨Z, σ, S, R, RE, fr, ok, r, po, _⟩⟩ => po t S v H r .refl ok (rep Z S H)⟩
theorem et_int {i : Int} {j} : ET X E (.Constant (.int i) j pos) (rC (.int i)) := et_c pe_int fun _ _ _ => .int i
theorem et_bl {i : Bool} {j} : ET X E (.Constant (.bool i) j pos) (rC (.bl i)) := et_c pe_bl fun _ _ _ => .bl i
theorem et_non {j} : ET X E (.Constant .none j pos) (rC .non) := et_c pe_non fun _ _ _ => .non
theorem et_str {z : Str} {j} : ET X E (.Constant (.str z) j pos) (rC (.str z)) := et_c pe_str fun _ _ _ => .str z
theorem et_blty {x : Str} {n : String} (hg : Gl X x) (hm : X.mg x = none) (hv : bootBuiltins x = some (.type n)) (hn : x ≠ "__name__" := by decide) (hd : (x == ("__debug__" : Str)) = false := by decide) : ET X E (.Name x pos) (rC (.ty n)) :=
  et_c (pe_bltn (v := .ty n) hg hm hv rfl hn hd) fun _ _ _ => .ty n
/-! ### operators, by values -/
def rBin (k : T → T → Store → (T → Store → Prop) → XT → Prop) (ra rb : TR) : TR := fun σ S R RE => ra σ S (fun x S1 => rb σ S1 (fun y S2 => k x y S2 R RE) RE) RE
/-- an operator's rule in the layer follows from one about trees -/
def Conv (K : PySem.W.Frag) (E : XK) (k : T → T → Store → (T → Store → Prop) → XT → Prop) (r : R2) : Prop := ∀ Z x y S v u H R RE Q, Ok K Z S H → Rep K Z S H v x → Rep K Z S H u y → k x y S R RE → PO K Z S H R Q → XOk K Z S H RE E → r v u H Q
theorem et_op {op : Operator} {r : R2} {k} (ho : OpR X (binaryOp op) r) (cv : Conv X.K E k r) (ha : ET X E a ra) (hb : ET X E b rb) : ET X E (.BinOp a op b pos) (rBin k ra rb) :=
  ⟨pe_weak (pe_op ho ha.pe hb.pe) fun sl H Q h => UpE.two h fun Z x y S2 v u H2 R RE ok rx ry kk po xo => cv Z x y S2 v u H2 R RE Q ok rx ry kk po xo⟩
theorem et_cmp {op : CmpOp} {r : R2} {k} (ho : OpR X (compareOp op) r) (cv : Conv X.K E k r) (ha : ET X E a ra) (hb : ET X E b rb) (hm : behindInMarks op b = false) : ET X E (.Compare a [op] [b] pos) (rBin k ra rb) :=
  ⟨pe_weak (pe_cmpR ho ha.pe hb.pe hm) fun sl H Q h => UpE.two h fun Z x y S2 v u H2 R RE ok rx ry kk po xo => cv Z x y S2 v u H2 R RE Q ok rx ry kk po xo⟩
theorem et_ix {r : R2} {k} (ho : IxR X r) (cv : Conv X.K E k r) (ha : ET X E a ra) (hb : ET X E b rb) (hs : PlainIx b) : ET X E (.Subscript a b pos) (rBin k ra rb) :=
  ⟨pe_weak (pe_ix ho ha.pe hb.pe hs) fun sl H Q h => UpE.two h fun Z x y S2 v u H2 R RE ok rx ry kk po xo => cv Z x y S2 v u H2 R RE Q ok rx ry kk po xo⟩
/-- a bool from a value -/
def rTest (ra : TR) : TRB := fun σ S R RE => ra σ S (fun x S1 => ∃ c, x = .bl c ∧ R c S1) RE
theorem UpB.test {K : PySem.W.Frag} {sl : L2.St} {H : Hp} {Q : Bool → Hp → Prop} (h : UpB K E (rTest ra) sl H Q) : UpE K E ra sl H (fun x H1 => ∃ c, x = .bl c ∧ Q c H1) := by
  obtain ⟨Z, σ, S, R, RE, fr, ok, w, po, xo⟩ := h.ex
  refine ⟨_, σ, S, _, RE, fr, ok, w, fun x S1 v H1 kk le ok1 rep => ?_, xo⟩
  obtain ⟨c, rfl, r⟩ := kk
  cases rep
  exact ⟨c, rfl, po c S1 H1 r le ok1⟩
theorem tt_val (ha : ET X E a ra) (he : ∀ whole, isTrue a X.env whole = (do let v ← whole; standAt a.pos; holding [v] (truthy v)) := by intro _; rfl) : TT' X E a (rTest ra) :=
  ⟨⟨fun pins s sl H Q I h => (pt_val ha.pe he).run pins s sl H Q I h.test⟩⟩
theorem tt_cmp {op : CmpOp} {r : R2} {k} (ho : OpR X (compareOp op) r) (cv : Conv X.K E k r) (ha : ET X E a ra) (hb : ET X E b rb) (hm : behindInMarks op b = false) : TT' X E (.Compare a [op] [b] pos) (rTest (rBin k ra rb)) :=
  ⟨⟨fun pins s sl H Q I h => (pt_cmpR ho ha.pe hb.pe hm).run pins s sl H Q I (UpE.two (k := k) h.test fun Z x y S2 v u H2 R RE ok rx ry kk po xo => cv Z x y S2 v u H2 R RE _ ok rx ry kk po xo)⟩⟩
/-! ### and, or, not -/
variable {rest : List Expr} {ta tb tc : TRB}
def bAnd (ta tb : TRB) : TRB := fun σ S R RE => ta σ S (fun c S1 => if c = true then tb σ S1 R RE else R false S1) RE
def bOr (ta tb : TRB) : TRB := fun σ S R RE => ta σ S (fun c S1 => if c = true then R true S1 else tb σ S1 R RE) RE
def bNot (ta : TRB) : TRB := fun σ S R RE => ta σ S (fun c S1 => R (!c) S1) RE
theorem tw_and1 (h : TT' X E a ta) : TW' X E (.BoolOp .And [a] pos) ta := ⟨pw_and1 h.pt⟩
theorem tw_or1 (h : TT' X E a ta) : TW' X E (.BoolOp .Or [a] pos) ta := ⟨pw_or1 h.pt⟩
theorem tw_and (ha : TT' X E a ta) (hb : TW' X E (.BoolOp .And (b :: rest) pos) tb) : TW' X E (.BoolOp .And (a :: b :: rest) pos) (bAnd ta tb) := by
  refine ⟨⟨fun wh pins s sl H Q I h => (pw_and ha.pt hb.pw).run wh pins s sl H Q I ?_⟩⟩
  obtain ⟨Z, σ, S, R, RE, fr, ok, w, po, xo⟩ := h.ex
  refine ⟨_, σ, S, _, RE, fr, ok, w, fun c S1 H1 kk le ok1 => ?_, xo⟩
  cases c with
  | true => exact ⟨_, σ, S1, R, RE, fr.le le, ok1, kk, po.le le, xo.le le⟩
  | false => exact po false S1 H1 kk le ok1
theorem tw_or (ha : TT' X E a ta) (hb : TW' X E (.BoolOp .Or (b :: rest) pos) tb) : TW' X E (.BoolOp .Or (a :: b :: rest) pos) (bOr ta tb) := by
  refine ⟨⟨fun wh pins s sl H Q I h => (pw_or ha.pt hb.pw).run wh pins s sl H Q I ?_⟩⟩
  obtain ⟨Z, σ, S, R, RE, fr, ok, w, po, xo⟩ := h.ex
  refine ⟨_, σ, S, _, RE, fr, ok, w, fun c S1 H1 kk le ok1 => ?_, xo⟩
  cases c with
  | false => exact ⟨_, σ, S1, R, RE, fr.le le, ok1, kk, po.le le, xo.le le⟩
  | true => exact po true S1 H1 kk le ok1
theorem tt_w (h : TW' X E a ta) : TT' X E a ta := ⟨h.pw.pt⟩
theorem tt_not (ha : TT' X E a ta) : TT' X E (.UnaryOp .Not a pos) (bNot ta) := by
  refine ⟨⟨fun pins s sl H Q I h => (pt_not ha.pt).run pins s sl H Q I ?_⟩⟩
  obtain ⟨Z, σ, S, R, RE, fr, ok, w, po, xo⟩ := h.ex
  exact ⟨_, σ, S, _, RE, fr, ok, w, fun c S1 H1 kk le ok1 => po _ S1 H1 kk le ok1, xo⟩
/-- .. as values -/
def vAnd (ra rb : TR) : TR := fun σ S R RE => ra σ S (fun x S1 => ∃ c, x = .bl c ∧ if c = true then rb σ S1 R RE else R (.bl false) S1) RE
def vOr (ra rb : TR) : TR := fun σ S R RE => ra σ S (fun x S1 => ∃ c, x = .bl c ∧ if c = true then R (.bl true) S1 else rb σ S1 R RE) RE
def vNot (ra : TR) : TR := fun σ S R RE => ra σ S (fun x S1 => ∃ c, x = .bl c ∧ R (.bl (!c)) S1) RE
theorem et_one {op} (h : ET X E a ra) : ET X E (.BoolOp op [a] pos) ra := ⟨pe_one h.pe⟩
theorem et_and (ha : ET X E a ra) (hb : ET X E (.BoolOp .And (b :: rest) pos) rb) : ET X E (.BoolOp .And (a :: b :: rest) pos) (vAnd ra rb) :=
  ⟨pe_weak (pe_and ha.pe hb.pe) fun sl H Q h => UpE.one (k := fun σ x S1 R RE => ∃ c, x = .bl c ∧ if c = true then rb σ S1 R RE else R (.bl false) S1) h fun Z σ x S1 v H1 R RE fr ok rx kk po xo => by
    obtain ⟨c, rfl, kk⟩ := kk
    cases rx
    refine ⟨c, rfl, ?_⟩
    cases c with
    | true => exact ⟨_, σ, S1, R, RE, fr, ok, kk, po, xo⟩
    | false => exact po _ S1 _ H1 kk .refl ok (.bl false)⟩
theorem et_or (ha : ET X E a ra) (hb : ET X E (.BoolOp .Or (b :: rest) pos) rb) : ET X E (.BoolOp .Or (a :: b :: rest) pos) (vOr ra rb) :=
  ⟨pe_weak (pe_or ha.pe hb.pe) fun sl H Q h => UpE.one (k := fun σ x S1 R RE => ∃ c, x = .bl c ∧ if c = true then R (.bl true) S1 else rb σ S1 R RE) h fun Z σ x S1 v H1 R RE fr ok rx kk po xo => by
    obtain ⟨c, rfl, kk⟩ := kk
    cases rx
    refine ⟨c, rfl, ?_⟩
    cases c with
    | false => exact ⟨_, σ, S1, R, RE, fr, ok, kk, po, xo⟩
    | true => exact po _ S1 _ H1 kk .refl ok (.bl true)⟩
theorem et_not (ha : ET X E a ra) : ET X E (.UnaryOp .Not a pos) (vNot ra) :=
  ⟨pe_weak (pe_not ha.pe) fun sl H Q h => UpE.one (k := fun σ x S1 R RE => ∃ c, x = .bl c ∧ R (.bl (!c)) S1) h fun Z σ x S1 v H1 R RE fr ok rx kk po xo => by
    obtain ⟨c, rfl, kk⟩ := kk
    cases rx
    exact ⟨c, rfl, po _ S1 _ H1 kk .refl ok (.bl _)⟩⟩
def rIf (tc : TRB) (ra rb : TR) : TR := fun σ S R RE => tc σ S (fun c S1 => if c = true then ra σ S1 R RE else rb σ S1 R RE) RE
theorem et_if (hc : TT' X E c tc) (ha : ET X E a ra) (hb : ET X E b rb) : ET X E (.IfExp c a b pos) (rIf tc ra rb) := by
  refine ⟨pe_weak (pe_ifExp hc.pt ha.pe hb.pe) fun sl H Q h => ?_⟩
  obtain ⟨Z, σ, S, R, RE, fr, ok, w, po, xo⟩ := h.ex
  refine ⟨_, σ, S, _, RE, fr, ok, w, fun c S1 H1 kk le ok1 => ?_, xo⟩
  cases c with
  | true => exact ⟨_, σ, S1, R, RE, fr.le le, ok1, kk, po.le le, xo.le le⟩
  | false => exact ⟨_, σ, S1, R, RE, fr.le le, ok1, kk, po.le le, xo.le le⟩
/-! ### argument lists, displays -/
def aNil : TRA := fun _ S R _ => R [] S
def aCons (ra : TR) (t : TRA) : TRA := fun σ S R RE => ra σ S (fun x S1 => t σ S1 (fun xs S2 => R (x :: xs) S2) RE) RE
theorem at_nil : AT X E [] aNil := ⟨⟨fun pos pins s sl H Q I h => pa_nil.run pos pins s sl H Q I (by
  obtain ⟨Z, σ, S, R, RE, fr, ok, w, po, xo⟩ := h.ex
  exact po [] S [] H w .refl ok .nil)⟩⟩
theorem at_cons {t : TRA} (ha : ET X E e ra) (hr : AT X E es t) (hs : starEach (e :: es) X.env = (false, eval e X.env) :: starEach es X.env := by rfl) : AT X E (e :: es) (aCons ra t) := ⟨⟨fun pos pins s sl H Q I h => (pa_cons ha.pe hr.pa hs).run pos pins s sl H Q I (by
  obtain ⟨Z, σ, S, R, RE, fr, ok, w, po, xo⟩ := h.ex
  refine ⟨_, σ, S, _, RE, fr, ok, w, fun x S1 v H1 kk le ok1 rep => ?_, xo⟩
  exact ⟨_, σ, S1, _, RE, fr.le le, ok1, kk, fun xs S2 vs H2 k2 le2 ok2 rs => po (x :: xs) S2 (v :: vs) H2 k2 (le.trans le2) ok2 (.cons (rep.le le2) rs), xo.le le⟩)⟩⟩
def rTup (t : TRA) : TR := fun σ S R RE => t σ S (fun xs S1 => xs.length ≤ sizeLine ∧ R (.tup xs) S1) RE
def rLst (t : TRA) : TR := fun σ S R RE => t σ S (fun xs S1 => xs.length ≤ sizeLine ∧ R (.lst xs) S1) RE
def rLstC (t : TRA) : TR := fun σ S R RE => t σ S (fun xs S1 => xs.length ≤ sizeLine ∧ ∀ a, S1 a = none → R (.cell a) (S1.put a (.lst xs))) RE
variable {t : TRA}
theorem et_tup {x1} (h : AT X E es t) : ET X E (.Tuple es x1 pos) (rTup t) :=
  ⟨pe_weak (pe_tup h.pa) fun sl H Q h => UpA.args (k := fun xs S1 R RE => xs.length ≤ sizeLine ∧ R (.tup xs) S1) h fun Z xs S1 vs H1 R RE ok rs kk po xo =>
    ⟨by rw [rs.length]; exact kk.1, fun p hp => po _ S1 _ _ kk.2 (le_new hp) (ok.new hp) (.tupN ok hp rs)⟩⟩
theorem et_lst (h : AT X E es t) : ET X E (.List es pos) (rLst t) :=
  ⟨pe_weak (pe_lst h.pa) fun sl H Q h => UpA.args (k := fun xs S1 R RE => xs.length ≤ sizeLine ∧ R (.lst xs) S1) h fun Z xs S1 vs H1 R RE ok rs kk po xo =>
    ⟨by rw [rs.length]; exact kk.1, fun p hp => po _ S1 _ _ kk.2 (le_new hp) (ok.new hp) (.lstN ok hp rs)⟩⟩
theorem et_lstC (h : AT X E es t) : ET X E (.List es pos) (rLstC t) :=
  ⟨pe_weak (pe_lst h.pa) fun sl H Q h => UpA.args (k := fun xs S1 R RE => xs.length ≤ sizeLine ∧ ∀ a, S1 a = none → R (.cell a) (S1.put a (.lst xs))) h fun Z xs S1 vs H1 R RE ok rs kk po xo =>
    ⟨by rw [rs.length]; exact kk.1, fun p hp => by
      have l := le_newc (S := S1) (o := .lst vs) (c := .lst xs) hp
      exact po _ _ _ _ (kk.2 p (ok.free hp)) l (ok.put l (ok.nz hp) ⟨vs, upd_same, rs.le l⟩) (.cell p)⟩⟩
/-- a built-in called with values -/
def rArgs (k : List T → Store → (T → Store → Prop) → XT → Prop) (t : TRA) : TR := fun σ S R RE => t σ S (fun xs S1 => k xs S1 R RE) RE
def ConvA (K : PySem.W.Frag) (E : XK) (k : List T → Store → (T → Store → Prop) → XT → Prop) (r : List V → Hp → VK → Prop) : Prop := ∀ Z xs S vs H R RE Q, Ok K Z S H → Reps K Z S H vs xs → k xs S R RE → PO K Z S H R Q → XOk K Z S H RE E → r vs H Q
theorem et_blt {id : String} {x : Str} {p : Pos} {r : List V → Hp → VK → Prop} {k} (hc : CallR X (.builtin id) r) (cv : ConvA X.K E k r) (hg : Gl X x) (hm : X.mg x = none) (hv : bootBuiltins x = some (.builtin id)) (ha : AT X E (e :: es) t) (hn : x ≠ "__name__" := by decide) (hdb : (x == ("__debug__" : Str)) = false := by decide)
    (he : starEach (e :: es) X.env = (false, eval e X.env) :: starEach es X.env := by rfl) (hpl : (backTo pos (starEach es X.env)).any (·.1) = false := by rfl) : ET X E (.Call (.Name x p) (e :: es) [] pos) (rArgs k t) :=
  ⟨pe_weak (pe_callB hc hg hm hv ha.pa hn hdb he hpl) fun sl H Q h => UpA.args h fun Z xs S1 vs H1 R RE ok rs kk po xo => cv Z xs S1 vs H1 R RE Q ok rs kk po xo⟩
theorem et_typ {T' : String} {x : Str} {p : Pos} {r : List V → Hp → VK → Prop} {k} (hc : CallR X (.type T') r) (cv : ConvA X.K E k r) (hg : Gl X x) (hm : X.mg x = none) (hv : bootBuiltins x = some (.type T')) (ha : AT X E (e :: es) t) (hn : x ≠ "__name__" := by decide) (hdb : (x == ("__debug__" : Str)) = false := by decide)
    (he : starEach (e :: es) X.env = (false, eval e X.env) :: starEach es X.env := by rfl) (hpl : (backTo pos (starEach es X.env)).any (·.1) = false := by rfl) : ET X E (.Call (.Name x p) (e :: es) [] pos) (rArgs k t) :=
  ⟨pe_weak (pe_callTy hc hg hm hv ha.pa hn hdb he hpl) fun sl H Q h => UpA.args h fun Z xs S1 vs H1 R RE ok rs kk po xo => cv Z xs S1 vs H1 R RE Q ok rs kk po xo⟩
end

/-! ### targets -/
abbrev TRG := T → Fm → Store → (Fm → Store → Prop) → XT → Prop
abbrev TRGs := List T → Fm → Store → (Fm → Store → Prop) → XT → Prop
structure UpG (K : PySem.W.Frag) (E : XK) (r : TRG) (v : V) (sl : L2.St) (H : Hp) (Q : L2.St → Hp → Prop) : Prop where
  ex : ∃ Z σ S t R RE, FrR K Z S H sl σ ∧ Ok K Z S H ∧ Rep K Z S H v t ∧ r t σ S R RE ∧ POF K Z S H R Q ∧ XOk K Z S H RE E
structure UpGs (K : PySem.W.Frag) (E : XK) (r : TRGs) (vs : List V) (sl : L2.St) (H : Hp) (Q : L2.St → Hp → Prop) : Prop where
  ex : ∃ Z σ S ts R RE, FrR K Z S H sl σ ∧ Ok K Z S H ∧ Reps K Z S H vs ts ∧ r ts σ S R RE ∧ POF K Z S H R Q ∧ XOk K Z S H RE E
structure GT (X : Cx) (E : XK) (tg : Expr) (r : TRG) : Prop where
  pg : PG X tg (UpG X.K E r)
structure GTs (X : Cx) (E : XK) (ts : List Expr) (r : TRGs) : Prop where
  pg : PGs X ts (UpGs X.K E r)
section
variable {X : Cx} {E : XK} {e a b c : Expr} {es : List Expr} {pos : Pos} {ra rb rc : TR} {g : TRG} {gs : TRGs} {t : TRA}
def gNameT (i : Nat) : TRG := fun t σ S R _ => R (σ.set i (some t)) S
theorem pg_weak {X : Cx} {e : Expr} {t t' : TG} (he : PG X e t) (imp : ∀ v sl H Q, t' v sl H Q → t v sl H Q) : PG X e t' := ⟨fun pins s sl H v u Q inv r h => he.run pins s sl H v u Q inv r (imp v sl H Q h)⟩
theorem gt_name {i : Nat} (h : PG X e (gName i)) : GT X E e (gNameT i) := ⟨pg_weak h fun v sl H Q ⟨⟨Z, σ, S, t, R, RE, fr, ok, rep, r, po, _⟩⟩ => po _ S _ H r .refl ok (fr.set i rep)⟩
def gNilT : TRGs := fun ts σ S R _ => ts = [] ∧ R σ S
def gConsT (g : TRG) (gs : TRGs) : TRGs := fun ts σ S R RE => ∃ x r, ts = x :: r ∧ g x σ S (fun σ1 S1 => gs r σ1 S1 R RE) RE
theorem gts_nil : GTs X E [] gNilT := ⟨⟨fun pins s sl H vs us Q I r ⟨⟨Z, σ, S, ts, R, RE, fr, ok, rep, ⟨e, w⟩, po, _⟩⟩ => by
  subst e
  cases rep
  exact pgs_nil.run pins s sl H [] us Q I r ⟨rfl, po σ S sl H w .refl ok fr⟩⟩⟩
theorem gts_cons (h1 : GT X E e g) (h2 : GTs X E es gs) (hs : (assignEach (e :: es) X.env).map (·.2) = assign e X.env :: (assignEach es X.env).map (·.2) := by rfl) : GTs X E (e :: es) (gConsT g gs) :=
  ⟨⟨fun pins s sl H vs us Q I r ⟨⟨Z, σ, S, ts, R, RE, fr, ok, rep, ⟨x, xs, e, w⟩, po, xo⟩⟩ => by
    subst e
    cases rep with
    | cons rx rr =>
      refine (pgs_cons h1.pg h2.pg hs).run pins s sl H _ us Q I r ⟨_, _, rfl, _, σ, S, x, _, RE, fr, ok, rx, w, fun σ1 S1 sl1 H1 k le ok1 fr1 => ?_, xo⟩
      exact ⟨_, σ1, S1, xs, R, RE, fr1, ok1, rr.le le, k, po.le le, xo.le le⟩⟩⟩
def gTupT (n : Nat) (gs : TRGs) : TRG := fun t σ S R RE => ∃ ts, t = .tup ts ∧ ts.length = n ∧ gs ts σ S R RE
theorem gt_tup {k : Nat} {n : Nat} (hc : X.calm = true) (h : GTs X E es gs) (hn : (assignEach es X.env).length = n := by rfl) (hst : (assignEach es X.env).findIdx? (·.1) = none := by rfl) : GT X E (.Tuple es k pos) (gTupT n gs) :=
  ⟨pg_weak (pg_tup hc h.pg hn hst) fun v sl H Q ⟨⟨Z, σ, S, t, R, RE, fr, ok, rep, ⟨ts, e, l, w⟩, po, xo⟩⟩ => by
    subst e
    cases rep with
    | tup h r => exact ⟨_, _, rfl, h.sq, r.length.trans l, _, σ, S, ts, R, RE, fr, ok, r, w, po, xo⟩⟩
/-- xs[i] = .., xs a list that changes -/
def gSubT (ra rb : TR) : TRG := fun t σ S R RE => ra σ S (fun x S1 => rb σ S1 (fun y S2 => ∃ a ts i j, x = .cell a ∧ y = .int i ∧ S2 a = some (.lst ts) ∧ ixN ts.length i = some j ∧ R σ (S2.put a (.lst (ts.set j t)))) RE) RE
theorem gt_sub {o i : Expr} (ho : ET X E o ra) (hi : ET X E i rb) (ha : ∀ v, assign (.Subscript o i pos) X.env v = (do
      let ov ← holding [v] (eval o X.env)
      let iv ← holding [v, ov] (eval i X.env)
      standAt pos
      holding [v, ov, iv] (setItem ov iv v)
      release [v, ov, iv] []) := by intro _; rfl) : GT X E (.Subscript o i pos) (gSubT ra rb) :=
  ⟨pg_weak (pg_sub ho.pe hi.pe set_list ha) fun v sl H Q ⟨⟨Z, σ, S, t, R, RE, fr, ok, rep, w, po, xo⟩⟩ => by
    refine ⟨_, σ, S, _, RE, fr, ok, w, fun x S1 vx H1 k1 le1 ok1 rx => ?_, xo⟩
    refine ⟨_, σ, S1, _, RE, fr.le le1, ok1, k1, fun y S2 vy H2 k2 le2 ok2 ry => ?_, xo.le le1⟩
    obtain ⟨a, ts, i, j, rfl, rfl, hs, hj, w⟩ := k2
    cases rx; cases ry
    have ca := ok2.cl a
    rw [hs] at ca
    obtain ⟨vs, hv, rs⟩ := ca
    refine ⟨a, vs, i, j, rfl, rfl, hv, by rw [rs.length]; exact hj, ?_⟩
    have l3 : Le S2 H2 (S2.put a (.lst (ts.set j t))) (upd H2 a (.lst (vs.set j v))) := le_setc hs
    exact po _ _ _ _ w ((le1.trans le2).trans l3) (ok2.put l3 (ok2.nzc hs) ⟨_, upd_same, (rs.le l3).set j (((rep.le le1).le le2).le l3)⟩) (((fr.le le1).le le2).le l3)⟩
/-! ### statements -/
def sAsg (ra : TR) (g : TRG) : TRS := fun D σ S => ra σ S (fun x S1 => g x σ S1 D.nx D.ex) D.ex
theorem ps_weak {X : Cx} {e : Stmt} {t t' : TS} (he : PS X e t) (imp : ∀ D sl H, t' D sl H → t D sl H) : PS X e t' := ⟨fun pins s sl H D inv h => he.run pins s sl H D inv (imp D sl H h)⟩
theorem pss_weak {X : Cx} {e : List Stmt} {t t' : TS} (he : PSs X e t) (imp : ∀ D sl H, t' D sl H → t D sl H) : PSs X e t' := ⟨fun pins s sl H D inv h => he.run pins s sl H D inv (imp D sl H h)⟩
theorem ss_asg {tg : Expr} (he : ET X E e ra) (hg : GT X E tg g) (hs : swapsWithSole [tg] e pos.line X.env = pure false := by rfl) (hw : swappedStores [tg] e X.env = pure none := by rfl)
    (h1 : (assignEach [tg] X.env).map (·.2) = [assign tg X.env] := by rfl) : SS X E (.Assign [tg] e pos) (sAsg ra g) :=
  ⟨ps_weak (ps_asg he.pe hg.pg hs hw h1) fun D sl H ⟨⟨Z, σ, S, DT, fr, ok, w, eo, xo⟩⟩ =>
    ⟨_, σ, S, _, DT.ex, fr, ok, w, fun x S1 v H1 k le ok1 rep => ⟨_, σ, S1, x, DT.nx, DT.ex, fr.le le, ok1, rep, k, eo.nx.le le, xo.le le⟩, xo⟩⟩
theorem ss_set {i : Nat} {x : Str} {pos' : Pos} (hN : X.N.Nodup) (hi : X.N[i]? = some x) (hx : Loc X.env.scope x) (he : ET X E e ra) (hs : swapsWith e (some (.Name x pos')) pos.line X.env = pure false := by rfl)
    (hf : X.fn x = true ∨ X.env.scope.names.lookup x = some .local := by first | exact .inl rfl | exact .inr rfl | assumption) : SS X E (.Assign [.Name x pos'] e pos) (sAsg ra (gNameT i)) :=
  ⟨ps_weak (ps_set hN hi hx he.pe hs hf) fun D sl H ⟨⟨Z, σ, S, DT, fr, ok, w, eo, xo⟩⟩ =>
    ⟨_, σ, S, _, DT.ex, fr, ok, w, fun x S1 v H1 k le ok1 rep => eo.nx _ S1 _ H1 k le ok1 ((fr.le le).set i rep), xo⟩⟩
/-- a, b = e1, e2 -/
def sPar (i j : Nat) (t : TRA) : TRS := fun D σ S => t σ S (fun ts S1 => ∃ x y, ts = [x, y] ∧ D.nx ((σ.set i (some x)).set j (some y)) S1) D.ex
theorem ss_par {i j : Nat} {x y : Str} {px py pt : Pos} {kt k2 pt2} (hc : X.calm = true) (hN : X.N.Nodup) (hi : X.N[i]? = some x) (hj : X.N[j]? = some y) (hij : i ≠ j)
    (hx : X.env.scope.names.lookup x = some .local) (hy : X.env.scope.names.lookup y = some .local) (ha : AT X E [a, b] t)
    (hw : swappedStores [.Tuple [.Name x px, .Name y py] kt pt] (.Tuple [a, b] k2 pt2) X.env = pure (some [x, y]))
    (hs : swapsWithSole [.Tuple [.Name x px, .Name y py] kt pt] (.Tuple [a, b] k2 pt2) pos.line X.env = pure false := by rfl) :
    SS X E (.Assign [.Tuple [.Name x px, .Name y py] kt pt] (.Tuple [a, b] k2 pt2) pos) (sPar i j t) :=
  ⟨ps_weak (ps_par hc hN hi hj hij hx hy ha.pa hw hs) fun D sl H ⟨⟨Z, σ, S, DT, fr, ok, w, eo, xo⟩⟩ =>
    ⟨_, σ, S, _, DT.ex, fr, ok, w, fun xs S1 vs H1 k le ok1 rep => by
      obtain ⟨x, y, rfl, k⟩ := k
      cases rep with
      | cons r1 rr =>
        cases rr with
        | cons r2 rr =>
          cases rr
          exact ⟨_, _, rfl, eo.nx _ S1 _ H1 k le ok1 (((fr.le le).set i r1).set j r2)⟩, xo⟩⟩
def sDrop (ra : TR) : TRS := fun D σ S => ra σ S (fun _ S1 => D.nx σ S1) D.ex
theorem ss_expr (he : ET X E e ra) (hs : swapsWith e none pos.line X.env = pure false := by rfl) : SS X E (.Expr e pos) (sDrop ra) :=
  ⟨ps_weak (ps_expr he.pe hs) fun D sl H ⟨⟨Z, σ, S, DT, fr, ok, w, eo, xo⟩⟩ => ⟨_, σ, S, _, DT.ex, fr, ok, w, fun x S1 v H1 k le ok1 _ => eo.nx σ S1 sl H1 k le ok1 (fr.le le), xo⟩⟩
def sRet (ra : TR) : TRS := fun D σ S => ra σ S D.rt D.ex
theorem ss_ret (he : ET X E e ra) : SS X E (.Return (some e) pos) (sRet ra) := ⟨ps_weak (ps_ret he.pe) fun D sl H ⟨⟨Z, σ, S, DT, fr, ok, w, eo, xo⟩⟩ => ⟨_, σ, S, _, DT.ex, fr, ok, w, eo.rt, xo⟩⟩
def sRetN : TRS := fun D _ S => D.rt .non S
def sIf (tc : TRB) (ra rb : TRS) : TRS := fun D σ S => tc σ S (fun c S1 => if c = true then ra D σ S1 else rb D σ S1) D.ex
theorem ss_if {ta : TRB} {sa sb : TRS} {as bs : List Stmt} (hc : TT' X E c ta) (ha : BS X E as sa) (hb : BS X E bs sb) : SS X E (.If c as bs pos) (sIf ta sa sb) :=
  ⟨ps_weak (ps_if hc.pt ha.ps hb.ps) fun D sl H ⟨⟨Z, σ, S, DT, fr, ok, w, eo, xo⟩⟩ => ⟨_, σ, S, _, DT.ex, fr, ok, w, fun c S1 H1 k le ok1 => by
    cases c with
    | true => exact ⟨_, σ, S1, DT, fr.le le, ok1, k, eo.le le, xo.le le⟩
    | false => exact ⟨_, σ, S1, DT, fr.le le, ok1, k, eo.le le, xo.le le⟩, xo⟩⟩
def sNext : TRS := fun D σ S => D.nx σ S
def sSeq (ra rb : TRS) : TRS := fun D σ S => ra { D with nx := rb D } σ S
theorem bs_nil : BS X E [] sNext := ⟨pss_weak pss_nil fun D sl H ⟨⟨Z, σ, S, DT, fr, ok, w, eo, xo⟩⟩ => eo.nx σ S sl H w .refl ok fr⟩
theorem bs_cons {st : Stmt} {rest : List Stmt} {sa sb : TRS} (h1 : SS X E st sa) (h2 : BS X E rest sb) : BS X E (st :: rest) (sSeq sa sb) :=
  ⟨pss_weak (pss_cons h1.ps h2.ps) fun D sl H ⟨⟨Z, σ, S, DT, fr, ok, w, eo, xo⟩⟩ => ⟨_, σ, S, { DT with nx := sb DT }, fr, ok, w,
    ⟨fun σ1 S1 sl1 H1 k le ok1 fr1 => ⟨_, σ1, S1, DT, fr1, ok1, k, eo.le le, xo.le le⟩, eo.rt, eo.bk, eo.ct⟩, xo⟩⟩
theorem bs_one {st : Stmt} {sa : TRS} (h1 : SS X E st sa) : BS X E [st] sa :=
  ⟨pss_weak (pss_one h1.ps) fun D sl H h => h⟩
/-! ### what is walked -/
abbrev TRI := Fm → Store → (List T → Store → Prop) → XT → Prop
/-- J walks the things ts, whatever is made meanwhile -/
def SrcOk (K : PySem.W.Frag) (Z : Addr → Prop) (S0 : Store) (H0 : Hp) (J : It) (ts : List T) : Prop := ∀ Z' S H, Hid H0 Z Z' → Le S0 H0 S H → Ok K Z' S H →
  (∀ i t, ts[i]? = some t → J.go i H ∧ ∀ x H', J.yld i H x H' → Le S H S H' ∧ Ok K Z' S H' ∧ Rep K Z' S H' x t) ∧ ∀ i, ts.length ≤ i → J.stop i H
structure UpI (K : PySem.W.Frag) (E : XK) (r : TRI) (sl : L2.St) (H : Hp) (Q : It → Hp → Prop) : Prop where
  ex : ∃ Z σ S R RE, FrR K Z S H sl σ ∧ Ok K Z S H ∧ r σ S R RE ∧ (∀ ts S' J H', R ts S' → Le S H S' H' → Ok K Z S' H' → SrcOk K Z S' H' J ts → Q J H') ∧ XOk K Z S H RE E
structure IT (X : Cx) (E : XK) (tg it : Expr) (r : TRI) : Prop where
  pi : PI X tg it (UpI X.K E r)
def seqOf : T → Option (List T)
  | .lst ts => some ts
  | .scr ts => some ts
  | .tup ts => some ts
  | _ => none
def iSeq (ra : TR) : TRI := fun σ S R RE => ra σ S (fun t S1 => ∃ ts, seqOf t = some ts ∧ R ts S1) RE
theorem src_list {K : PySem.W.Frag} {Z : Addr → Prop} {S : Store} {H : Hp} {p : Addr} {vs : List V} {ts : List T} (h : LstAt Z S H p vs) (r : Reps K Z S H vs ts) : SrcOk K Z S H (Itl K p) ts := fun Z' S1 H1 hz le ok => by
  replace h := h.hide hz
  replace r := r.hide hz
  refine ⟨fun i t hi => ?_, fun i hi => ⟨vs, (h.le le).sq, by rw [r.length]; exact hi⟩⟩
  obtain ⟨v, hv, rep⟩ := r.get hi
  refine ⟨⟨vs, v, (h.le le).sq, hv⟩, fun x H' ⟨e, y⟩ => ?_⟩
  subst e
  have := y vs (h.le le).sq
  rw [hv] at this
  cases this
  exact ⟨.refl, ok, rep.le le⟩
theorem src_scr {K : PySem.W.Frag} {Z : Addr → Prop} {S : Store} {H : Hp} {p : Addr} {vs : List V} {ts : List T} (h : ScrAt K Z S H p vs) (r : Reps K Z S H vs ts) : SrcOk K Z S H (Itl K p) ts := fun Z' S1 H1 hz le ok => by
  replace h := h.hide hz
  replace r := r.hide hz
  refine ⟨fun i t hi => ?_, fun i hi => ⟨vs, (h.le le).sq, by rw [r.length]; exact hi⟩⟩
  obtain ⟨v, hv, rep⟩ := r.get hi
  refine ⟨⟨vs, v, (h.le le).sq, hv⟩, fun x H' ⟨e, y⟩ => ?_⟩
  subst e
  have := y vs (h.le le).sq
  rw [hv] at this
  cases this
  exact ⟨.refl, ok, rep.le le⟩
theorem src_tup {K : PySem.W.Frag} {Z : Addr → Prop} {S : Store} {H : Hp} {p : Addr} {vs : List V} {ts : List T} (h : TupAt K Z S H p vs) (r : Reps K Z S H vs ts) : SrcOk K Z S H (Itt K p) ts := fun Z' S1 H1 hz le ok => by
  replace h := h.hide hz
  replace r := r.hide hz
  refine ⟨fun i t hi => ?_, fun i hi => ⟨vs, (h.le le).sq, by rw [r.length]; exact hi⟩⟩
  obtain ⟨v, hv, rep⟩ := r.get hi
  refine ⟨⟨vs, v, (h.le le).sq, hv⟩, fun x H' ⟨e, y⟩ => ?_⟩
  subst e
  have := y vs (h.le le).sq
  rw [hv] at this
  cases this
  exact ⟨.refl, ok, rep.le le⟩
def iLT (K : PySem.W.Frag) (tl : TE) : TI := fun σ H R => tl σ H fun x H1 => ∃ a, x = .ref a ∧ (((∃ xs, SqL K H1 a xs) ∧ R (Itl K a) H1) ∨ ((∃ xs, SqT K H1 a xs) ∧ R (Itt K a) H1))
theorem pi_lt {tg l : Expr} {tl : TE} (hl : PE X l tl) : PI X tg l (iLT X.K tl) := by
  refine ⟨fun pins s sl H R I h => ?_⟩
  refine thn (hl.run pins s sl H _ I h) fun v s1 ⟨x, H1, I1, r1, q1⟩ => ?_
  obtain ⟨a, e, q⟩ := q1
  subst e
  cases r1
  rcases q with ⟨⟨xs, hq⟩, q⟩ | ⟨⟨xs, hq⟩, q⟩
  · obtain ⟨its, rv, p, hz⟩ := I1.list hq
    refine wpAny_pyIter_list p.isList ?_
    refine ⟨s1.heap.objs.size, [s1.heap.objs.size], _, _, H1, rfl, I1.kept (t' := s1.toks) fun b o e => Heap.get?_push_of_some _ e, turn_list a _, ⟨_, Heap.get?_push_size _ rfl, rfl, rfl⟩, fun b hb => ?_, q⟩
    have e : b = s1.heap.objs.size := by simpa using hb
    subst e
    exact I1.fpOk (Nat.le_refl _) (I1.hok.fresh (Nat.le_refl _))
  · obtain ⟨its, rv, p, hz⟩ := I1.tuple hq
    refine wpAny_pyIter_tuple (show s1.heap.IsTuple a its.toArray from p) ?_
    refine ⟨s1.heap.objs.size, [s1.heap.objs.size], _, _, H1, rfl, I1.kept (t' := s1.toks) fun b o e => Heap.get?_push_of_some _ e, turn_tuple a _, ⟨_, Heap.get?_push_size _ rfl, rfl, rfl⟩, fun b hb => ?_, q⟩
    have e : b = s1.heap.objs.size := by simpa using hb
    subst e
    exact I1.fpOk (Nat.le_refl _) (I1.hok.fresh (Nat.le_refl _))
theorem pi_weak {X : Cx} {tg e : Expr} {t t' : TI} (he : PI X tg e t) (imp : ∀ sl H Q, t' sl H Q → t sl H Q) : PI X tg e t' := ⟨fun pins s sl H R inv h => he.run pins s sl H R inv (imp sl H R h)⟩
theorem it_seq {tg : Expr} (ha : ET X E a ra) : IT X E tg a (iSeq ra) := ⟨pi_weak (pi_lt ha.pe) fun sl H Q ⟨⟨Z, σ, S, R, RE, fr, ok, w, po, xo⟩⟩ => by
  refine ⟨_, σ, S, _, RE, fr, ok, w, fun t S1 v H1 k le ok1 rep => ?_, xo⟩
  obtain ⟨ts, e, k⟩ := k
  cases rep <;> try (cases e; done)
  · cases e
    rename_i h r
    exact ⟨_, rfl, .inr ⟨⟨_, h.sq⟩, po ts S1 _ H1 k le ok1 (src_tup h r)⟩⟩
  · cases e
    rename_i h r
    exact ⟨_, rfl, .inl ⟨⟨_, h.sq⟩, po ts S1 _ H1 k le ok1 (src_list h r)⟩⟩
  · cases e
    rename_i h r
    exact ⟨_, rfl, .inl ⟨⟨_, h.sq⟩, po ts S1 _ H1 k le ok1 (src_scr h r)⟩⟩⟩
def rangeT (lo hi : Int) : List T := (List.range (hi - lo).toNat).map fun (i : Nat) => T.int (lo + i)
theorem src_range {K : PySem.W.Frag} {Z : Addr → Prop} {S : Store} {H : Hp} {lo : Int} {n : Nat} : SrcOk K Z S H (Itr lo n) ((List.range n).map fun (i : Nat) => T.int (lo + i)) := fun Z' S1 H1 hz le ok => by
  refine ⟨fun i t hi => ?_, fun i hi => by rw [List.length_map, List.length_range] at hi; exact hi⟩
  rw [List.getElem?_map] at hi
  obtain ⟨j, hj, e⟩ := Option.map_eq_some_iff.mp hi
  obtain ⟨l, ej⟩ := List.getElem?_eq_some_iff.mp hj
  rw [List.getElem_range] at ej
  subst ej e
  rw [List.length_range] at l
  refine ⟨l, fun x H' ⟨e1, e2⟩ => ?_⟩
  subst e1 e2
  exact ⟨.refl, ok, .int _⟩
def iRng1T (t : TRA) : TRI := fun σ S R RE => t σ S (fun xs S1 => ∃ j : Int, xs = [.int j] ∧ -(2 ^ 62) ≤ j ∧ j < 2 ^ 62 ∧ R (rangeT 0 j) S1) RE
def iRng2T (t : TRA) : TRI := fun σ S R RE => t σ S (fun xs S1 => ∃ i j : Int, xs = [.int i, .int j] ∧ (-(2 ^ 62) ≤ i ∧ i < 2 ^ 62 ∧ -(2 ^ 62) ≤ j ∧ j < 2 ^ 62) ∧ R (rangeT i j) S1) RE
theorem it_range1 {tg : Expr} {p : Pos} (hg : Gl X "range") (hm : X.mg "range" = none) (ha : AT X E [a] t) (hs : starEach [a] X.env = [(false, eval a X.env)] := by rfl) : IT X E tg (.Call (.Name "range" p) [a] [] pos) (iRng1T t) :=
  ⟨pi_weak (pi_range1 hg hm ha.pa hs) fun sl H Q ⟨⟨Z, σ, S, R, RE, fr, ok, w, po, xo⟩⟩ => ⟨_, σ, S, _, RE, fr, ok, w, fun xs S1 vs H1 k le ok1 rep => by
    obtain ⟨j, rfl, h1, h2, k⟩ := k
    cases rep with
    | cons r rr =>
      cases r; cases rr
      refine ⟨j, rfl, h1, h2, po _ S1 _ H1 k le ok1 ?_⟩
      have := src_range (K := X.K) (Z := Z) (S := S1) (H := H1) (lo := 0) (n := j.toNat)
      unfold rangeT
      rw [Int.sub_zero]
      exact this, xo⟩⟩
/-! ### for -/
def rLoop (g : TRG) (rb : TRS) (D : EnT) : List T → Fm → Store → Prop
  | [], σ, S => D.nx σ S
  | t :: ts, σ, S => g t σ S (fun σ1 S1 => rb { D with nx := rLoop g rb D ts, ct := rLoop g rb D ts, bk := D.nx } σ1 S1) D.ex
def sFor (ri : TRI) (g : TRG) (rb : TRS) : TRS := fun D σ S => ri σ S (fun ts S1 => rLoop g rb D ts σ S1) D.ex
theorem ss_for {iter tg : Expr} {body : List Stmt} {ri : TRI} {rb : TRS} (hp : PassesOwn (model X.prog X.w) X.A X.env X.xe) (hc : X.calm = true) (hi : IT X E tg iter ri) (hg : GT X E tg g) (hb : BS X E body rb)
    (hs : ∀ x, foldedSetIterable iter X.env x = pure x := by intro _; rfl) : SS X E (.For tg iter body [] pos) (sFor ri g rb) :=
  ⟨ps_weak (ps_for hp hc hi.pi hg.pg hb.ps hs) fun D sl H ⟨⟨Z, σ, S, DT, fr, ok, w, eo, xo⟩⟩ => by
    refine ⟨_, σ, S, _, DT.ex, fr, ok, w, fun ts S1 J H1 k le ok1 src => ?_, xo⟩
    refine ⟨fun i m sl' H' => m = ts.length - i ∧ i ≤ ts.length ∧ ∃ σ' S', FrR X.K Z S' H' sl' σ' ∧ Ok X.K Z S' H' ∧ Le S1 H1 S' H' ∧ rLoop g rb DT (ts.drop i) σ' S', ⟨_, rfl, Nat.zero_le _, σ, S1, fr.le le, ok1, .refl, k⟩, ?_⟩
    rintro i m sl' H' ⟨rfl, hi, σ', S', fr', ok', le', k'⟩
    obtain ⟨go, stop⟩ := src Z S' H' (fun _ z => .inl z) le' ok'
    by_cases hlt : i < ts.length
    · refine .inr ?_
      have hd : ts.drop i = ts[i] :: ts.drop (i + 1) := (List.drop_eq_getElem_cons hlt)
      rw [hd] at k'
      obtain ⟨g1, g2⟩ := go i ts[i] (List.getElem?_eq_getElem hlt)
      refine ⟨g1, fun sl2 H2 => ∃ σ2 S2, FrR X.K Z S2 H2 sl2 σ2 ∧ Ok X.K Z S2 H2 ∧ Le S1 H1 S2 H2 ∧ rLoop g rb DT (ts.drop (i + 1)) σ2 S2, ?_, ?_⟩
      · rintro sl2 H2 ⟨σ2, S2, f2, o2, l2, k2⟩
        exact ⟨_, by omega, rfl, hlt, σ2, S2, f2, o2, l2, k2⟩
      · intro x H2 y
        obtain ⟨l2, o2, rep⟩ := g2 x H2 y
        refine ⟨_, σ', S', ts[i], _, DT.ex, fr'.le l2, o2, rep, k', fun σ3 S3 sl3 H3 k3 l3 o3 f3 => ?_, (xo.le (le.trans le')).le l2⟩
        have lt := (le'.trans l2).trans l3
        refine ⟨_, σ3, S3, _, f3, o3, k3, ⟨fun σ4 S4 sl4 H4 k4 l4 o4 f4 => ⟨σ4, S4, f4, o4, lt.trans l4, k4⟩, (eo.rt.le (le.trans lt)), (eo.nx.le (le.trans lt)), fun σ4 S4 sl4 H4 k4 l4 o4 f4 => ⟨σ4, S4, f4, o4, lt.trans l4, k4⟩⟩, (xo.le (le.trans lt))⟩
    · have e : i = ts.length := by omega
      subst e
      rw [List.drop_length] at k'
      exact .inl ⟨stop _ (Nat.le_refl _), eo.nx σ' S' sl' H' k' (le.trans le') ok' fr'⟩⟩
/-- with an invariant -/
theorem rLoop_inv {rb : TRS} {D : EnT} {ts : List T} {σ : Fm} {S : Store} (P : Nat → Fm → Store → Prop) (h0 : P 0 σ S)
    (hs : ∀ i t σ S, ts[i]? = some t → P i σ S → ∀ N : Fm → Store → Prop, (∀ σ' S', P (i + 1) σ' S' → N σ' S') → g t σ S (fun σ1 S1 => rb { D with nx := N, ct := N, bk := D.nx } σ1 S1) D.ex)
    (hd : ∀ σ S, P ts.length σ S → D.nx σ S) : rLoop g rb D ts σ S := by
  suffices h : ∀ (us : List T) (i : Nat) σ S, ts.drop i = us → i ≤ ts.length → P i σ S → rLoop g rb D us σ S from h ts 0 σ S rfl (Nat.zero_le _) h0
  intro us
  induction us with
  | nil =>
    intro i σ S e hi p
    have : i = ts.length := by
      have := congrArg List.length e
      simp at this
      omega
    subst this
    exact hd σ S p
  | cons u us ih =>
    intro i σ S e hi p
    have hlt : i < ts.length := by
      have := congrArg List.length e
      simp at this
      omega
    rw [List.drop_eq_getElem_cons hlt] at e
    injection e with e1 e2
    exact hs i u σ S (by rw [← e1]; exact List.getElem?_eq_getElem hlt) p _ fun σ' S' p' => ih (i + 1) σ' S' e2 hlt p'
/-! ### while -/
def sWhile (tc : TRB) (rb : TRS) : TRS := fun D σ S => ∃ W : Nat → Fm → Store → Prop, (∃ m, W m σ S) ∧ ∀ m σ S, W m σ S →
  tc σ S (fun c S1 => if c = true then rb { D with nx := fun σ' S' => ∃ m', m' < m ∧ W m' σ' S', ct := fun σ' S' => ∃ m', m' < m ∧ W m' σ' S', bk := D.nx } σ S1 else D.nx σ S1) D.ex
theorem ss_while {body : List Stmt} {ta : TRB} {rb : TRS} (hp : PassesOwn (model X.prog X.w) X.A X.env X.xe) (hc : TT' X E c ta) (hb : BS X E body rb) : SS X E (.While c body [] pos) (sWhile ta rb) :=
  ⟨ps_weak (ps_while hp hc.pt hb.ps) fun D sl H ⟨⟨Z, σ, S, DT, fr, ok, ⟨W, ⟨m0, w0⟩, turn⟩, eo, xo⟩⟩ => by
    refine ⟨fun m sl' H' => ∃ σ' S', FrR X.K Z S' H' sl' σ' ∧ Ok X.K Z S' H' ∧ Le S H S' H' ∧ W m σ' S', ⟨m0, σ, S, fr, ok, .refl, w0⟩, ?_⟩
    rintro m sl' H' ⟨σ', S', fr', ok', le', w'⟩
    refine ⟨_, σ', S', _, DT.ex, fr', ok', turn m σ' S' w', fun c S1 H1 k le1 ok1 => ?_, xo.le le'⟩
    cases c with
    | true =>
      refine ⟨fun sl2 H2 => ∃ σ2 S2, FrR X.K Z S2 H2 sl2 σ2 ∧ Ok X.K Z S2 H2 ∧ Le S H S2 H2 ∧ ∃ m', m' < m ∧ W m' σ2 S2, ?_, ?_⟩
      · rintro sl2 H2 ⟨σ2, S2, f2, o2, l2, m', hm, k2⟩
        exact ⟨m', hm, σ2, S2, f2, o2, l2, k2⟩
      · have lt := le'.trans le1
        exact ⟨_, σ', S1, _, fr'.le le1, ok1, k, ⟨fun σ4 S4 sl4 H4 k4 l4 o4 f4 => ⟨σ4, S4, f4, o4, lt.trans l4, k4⟩, eo.rt.le lt, eo.nx.le lt, fun σ4 S4 sl4 H4 k4 l4 o4 f4 => ⟨σ4, S4, f4, o4, lt.trans l4, k4⟩⟩, xo.le lt⟩
    | false => exact eo.nx σ' S1 sl' H1 k (le'.trans le1) ok1 (fr'.le le1)⟩
end

/-! ### comprehensions -/
def XF : XT := fun _ _ _ => False
def EF : XK := fun _ _ _ => False
theorem XOk.f {K : PySem.W.Frag} {Z : Addr → Prop} {S : Store} {H : Hp} : XOk K Z S H XF EF := fun _ _ _ _ _ _ z => z.elim
structure TTs (X : Cx) (E : XK) (es : List Expr) (r : TRB) : Prop where
  pt : PTs X es (UpB X.K E r)
def bYes : TRB := fun _ S R _ => R true S
def rComp (fr : T → Fm) (tt : TRB) (re : TR) : List T → List T → Store → (List T → Store → Prop) → Prop
  | [], acc, S, R => R acc S
  | t :: ts, acc, S, R => tt (fr t) S (fun b S1 => if b = true then re (fr t) S1 (fun y S2 => acc.length < sizeLine ∧ rComp fr tt re ts (acc ++ [y]) S2 R) XF else rComp fr tt re ts acc S1 R) XF
section
variable {X : Cx} {E : XK} {e a b c : Expr} {es : List Expr} {pos : Pos} {ra rb rc : TR} {g : TRG} {gs : TRGs} {t : TRA}
theorem tts_nil : TTs X E [] bYes := ⟨⟨fun pins s sl H Q I h => pts_nil.run pins s sl H Q I (by
  obtain ⟨Z, σ, S, R, RE, fr, ok, w, po, xo⟩ := h.ex
  exact po true S H w .refl ok)⟩⟩
theorem tts_one {ta : TRB} (h : TT' X E c ta) : TTs X E [c] ta := ⟨pts_one h.pt⟩
def rLc (ri : TRI) (j : Nat) (tt : TRB) (re : TR) : TR := fun σ S R RE => ri σ S (fun ts S1 => rComp (fun t => σ.set j (some t)) tt re ts [] S1 (fun ys S2 => R (.lst ys) S2)) RE
theorem lc_turns {K : PySem.W.Frag} {Z : Addr → Prop} {S1 : Store} {H1 : Hp} {J : It} {ts : List T} {sl : L2.St} {σ : Fm} {g : TG} {vs : List Nat} {fr : T → Fm} {tt : TRB} {re : TR} {Q : VK} {R : List T → Store → Prop}
    (ok1 : Ok K Z S1 H1) (fr1 : FrR K Z S1 H1 sl σ) (src : SrcOk K Z S1 H1 J ts) (k : rComp fr tt re ts [] S1 R)
    (hg : ∀ Z' S H x t (Q' : L2.St → Hp → Prop), FrR K Z' S H sl σ → Rep K Z' S H x t → (∀ sl2, FrR K Z' S H sl2 (fr t) → wipe sl2 vs = wipe sl vs → Q' sl2 H) → g x (wipe sl vs) H Q')
    (po : ∀ ys S' v H', R ys S' → Le S1 H1 S' H' → Ok K Z S' H' → Rep K Z S' H' v (.lst ys) → Q v H') :
    ∀ D, H1 D = none → ∃ W : Nat → Nat → Hp → Prop, (∃ m, W 0 m (upd H1 D (.lst []))) ∧ ∀ i m H, W i m H →
  (J.stop i H ∧ Q (.ref D) H) ∨ (J.go i H ∧ ∃ Nx : Hp → Prop, (∀ H', Nx H' → ∃ m', m' < m ∧ W (i + 1) m' H') ∧ ∀ x H', J.yld i H x H' → g x (wipe sl vs) H' fun σ2 H2 => wipe σ2 vs = wipe sl vs ∧ UpB K EF tt σ2 H2 fun b H3 =>
    if b = true then UpE K EF re σ2 H3 fun y H4 => ∃ acc, H4 D = some (.lst acc) ∧ acc.length < sizeLine ∧ Nx (upd H4 D (.lst (acc ++ [y]))) else Nx H3) := by
  intro D hD
  have hz := hid_a (Z := Z) hD
  -- what holds at each turn
  let In : Nat → Hp → Prop := fun i H' => ∃ S' acc accV, Ok K (hideA Z D) S' H' ∧ FrR K (hideA Z D) S' H' sl σ ∧ Le S1 H1 S' H' ∧ H' D = some (.lst accV) ∧ Reps K (hideA Z D) S' H' accV acc ∧ rComp fr tt re (ts.drop i) acc S' R
  refine ⟨fun i m H' => m = ts.length - i ∧ i ≤ ts.length ∧ In i H', ⟨_, rfl, Nat.zero_le _, S1, [], [], ok1.hide hD, (fr1.hide hz).le (le_new hD), le_new hD, upd_same, .nil, k⟩, ?_⟩
  rintro i m H' ⟨rfl, hi, S', acc, accV, ok', fr', le', hd, rs, k'⟩
  obtain ⟨go, stop⟩ := src _ S' H' hz le' ok'
  by_cases hlt : i < ts.length
  · refine .inr ?_
    obtain ⟨g1, g2⟩ := go i ts[i] (List.getElem?_eq_getElem hlt)
    rw [List.drop_eq_getElem_cons hlt] at k'
    refine ⟨g1, In (i + 1), fun H2 h2 => ⟨_, by omega, rfl, hlt, h2⟩, fun x H2 y => ?_⟩
    obtain ⟨l2, o2, rep⟩ := g2 x H2 y
    refine hg _ S' H2 x ts[i] _ (fr'.le l2) rep fun sl2 f2 we => ⟨we, ?_⟩
    have hd2 := (l2 D _ hd (ok'.hid D (.inr rfl)).1 (fun _ e => nomatch e)).1
    refine ⟨_, fr ts[i], S', _, XF, f2, o2, k', fun b S3 H3 k3 l3 o3 => ?_, .f⟩
    have hd3 := (l3 D _ hd2 (o2.hid D (.inr rfl)).1 (fun _ e => nomatch e)).1
    cases b with
    | true =>
      refine ⟨_, fr ts[i], S3, _, XF, f2.le l3, o3, k3, fun y S4 vy H4 k4 l4 o4 ry => ?_, .f⟩
      obtain ⟨z, k4⟩ := k4
      have hd4 := (l4 D _ hd3 (o3.hid D (.inr rfl)).1 (fun _ e => nomatch e)).1
      have ll := ((l2.trans l3).trans l4)
      have lz : LeZ (hideA Z D) S4 H4 S4 (upd H4 D (.lst (accV ++ [vy]))) := lz_hid
      refine ⟨accV, hd4, by rw [rs.length]; exact z, S4, _, _, o4.hidSet, ((fr'.le ll).lz lz), fun a o h n nt => ?_, upd_same, ((rs.le ll).append (.cons ry .nil)).lz lz, k4⟩
      have := (le'.trans ll) a o h n nt
      rw [upd_ne (ne_of_none h hD)]
      exact this
    | false => exact ⟨S3, acc, accV, o3, fr'.le (l2.trans l3), (le'.trans l2).trans l3, hd3, rs.le (l2.trans l3), k3⟩
  · have e : i = ts.length := by omega
    subst e
    rw [List.drop_length] at k'
    refine .inl ⟨stop _ (Nat.le_refl _), po acc S' _ H' k' le' ok'.show ?_⟩
    exact .lst ⟨hd, (ok'.hid D (.inr rfl)).1, fun z => by
      obtain ⟨_, o, e⟩ := ok1.hid D z
      rw [hD] at e; cases e⟩ rs.show
theorem et_lc {elt tg iter : Expr} {ifs : List Expr} {scope : Scope} {x : Str} {j : Nat} {ri : TRI} {tt : TRB} {re : TR} (hc : X.calm = true) (hN : X.N.Nodup) (hi : IT X E tg iter ri) (ok : BlkOk X.N X.env.scope scope [(x, j)])
    (hg : ∀ (s : Shared) (H : Hp) (C : Addr) (cl : List (Str × Addr)) (fp : List Addr), PG (X.blk s H scope (compEnvC scope cl C X.env) fp) tg (gName j)) (ht : ∀ (s : Shared) (H : Hp) (C : Addr) (cl : List (Str × Addr)) (fp : List Addr), TTs (X.blk s H scope (compEnvC scope cl C X.env) fp) EF ifs tt)
    (he : ∀ (s : Shared) (H : Hp) (C : Addr) (cl : List (Str × Addr)) (fp : List Addr), ET (X.blk s H scope (compEnvC scope cl C X.env) fp) EF elt re) (hs : ∀ x, foldedSetIterable iter X.env x = pure x := by intro _; rfl) :
    ET X E (.ListComp elt [⟨tg, iter, ifs, 0⟩] scope pos) (rLc ri j tt re) :=
  ⟨pe_weak (pe_lc hc hN hi.pi ok hg (fun s H C cl fp => (ht s H C cl fp).pt) (fun s H C cl fp => (he s H C cl fp).pe) hs) fun sl H Q h => by
    obtain ⟨Z, σ, S, R, RE, fr, ok, w, po, xo⟩ := h.ex
    refine ⟨Z, σ, S, _, RE, fr, ok, w, fun ts S1 J H1 k le ok1 src => ?_, xo⟩
    refine lc_turns (fr := fun t => σ.set j (some t)) ok1 (fr.le le) src k (fun Z' S' H' x t Q' f r q => q _ ?_ ?_) fun ys S' v H' r l o rep => po _ S' v H' r (le.trans l) o rep
    · show FrR X.K Z' S' H' (((wipe sl []).set j none).set j (some x)) (σ.set j (some t))
      rw [List.set_set]
      exact f.set j r
    · show (((wipe sl []).set j none).set j (some x)).set j none = (wipe sl []).set j none
      rw [List.set_set, List.set_set]⟩
/-- by an invariant: all items kept -/
theorem rComp_all {fr : T → Fm} {re : TR} {ts : List T} {S : Store} {R : List T → Store → Prop} (P : Nat → Store → Prop) (F : Nat → T → T → Prop) (h0 : P 0 S) (hl : ts.length ≤ sizeLine)
    (hs : ∀ i t S, ts[i]? = some t → P i S → ∀ N : T → Store → Prop, (∀ y S', F i t y → P (i + 1) S' → N y S') → re (fr t) S N XF)
    (hd : ∀ ys S, ys.length = ts.length → (∀ (i : Nat) t y, ts[i]? = some t → ys[i]? = some y → F i t y) → P ts.length S → R ys S) : rComp fr bYes re ts [] S R := by
  suffices h : ∀ (us : List T) (i : Nat) acc S, ts.drop i = us → i ≤ ts.length → acc.length = i → (∀ (j : Nat) t y, ts[j]? = some t → acc[j]? = some y → F j t y) → P i S → rComp fr bYes re us acc S R from
    h ts 0 [] S rfl (Nat.zero_le _) rfl (fun j t y _ e => by simp at e) h0
  intro us
  induction us with
  | nil =>
    intro i acc S e hi la fa p
    have : i = ts.length := by
      have := congrArg List.length e
      simp at this
      omega
    subst this
    exact hd acc S la fa p
  | cons u us ih =>
    intro i acc S e hi la fa p
    have hlt : i < ts.length := by
      have := congrArg List.length e
      simp at this
      omega
    rw [List.drop_eq_getElem_cons hlt] at e
    injection e with e1 e2
    have hu : ts[i]? = some u := by rw [← e1]; exact List.getElem?_eq_getElem hlt
    refine hs i u S hu p _ fun y S' f p' => ⟨by omega, ih (i + 1) (acc ++ [y]) S' e2 hlt (by simp [la]) (fun j t z ht hz => ?_) p'⟩
    by_cases hj : j < acc.length
    · rw [List.getElem?_append_left hj] at hz
      exact fa j t z ht hz
    · rw [List.getElem?_append_right (by omega)] at hz
      by_cases hj2 : j = acc.length
      · subst hj2
        simp at hz
        subst hz
        rw [la] at ht ⊢
        rw [hu] at ht
        cases ht
        exact f
      · rw [List.getElem?_eq_none (by simp; omega)] at hz
        cases hz
end
/-! ### defs -/
/-- a def's promise: arguments, what changes, what is wanted of the answer, of an error -/
abbrev SpT := List T → Store → (T → Store → Prop) → XT → Prop
structure UpF (K : PySem.W.Frag) (sp : SpT) (vs : List V) (H : Hp) (Q : VK) (E : XK) : Prop where
  ex : ∃ Z ts S R RE, Reps K Z S H vs ts ∧ Ok K Z S H ∧ sp ts S R RE ∧ PO K Z S H R Q ∧ XOk K Z S H RE E
theorem passN {X : Cx} : Passes (L2N.CX X.prog X.w) X EF := fun _ _ _ _ _ _ _ h => by
  obtain ⟨_, _, _, _, _, _, _, _, _, _, _, _, z⟩ := h
  exact z.elim
theorem passL2N {X : Cx} {E : XK} (tk : L2N.Takes X (fun cls d _ H => E cls d H)) : Passes (L2N.CX X.prog X.w) X E := L2N.passes_call tk fun _ _ _ _ h => h
structure FnT (P : Program) (w : World) (K : PySem.W.Frag) (mg : Str → Option Value) (base : Heap) (k : Nat) (f : Addr) (fd : FuncData) (ps : List Str) (sp : SpT) : Prop where
  fn : FnG P w K mg base (L2N.CX P w) k f fd ps (UpF K sp)
section
variable {P : Program} {w : World} {K : PySem.W.Frag} {mg : Str → Option Value} {base : Heap} {k : Nat} {f : Addr} {fd : FuncData} {ps : List Str} {sp : SpT}
theorem FnT.up {j : Nat} (F : FnT P w K mg base j f fd ps sp) (h : j ≤ k) : FnT P w K mg base k f fd ps sp := ⟨F.fn.up h⟩
theorem FnT.imp {sp' : SpT} (F : FnT P w K mg base k f fd ps sp) (h : ∀ ts S R RE, sp' ts S R RE → sp ts S R RE) : FnT P w K mg base k f fd ps sp' :=
  ⟨F.fn.imp fun vs H Q E q => let ⟨Z, ts, S, R, RE, rs, ok, s, po, xo⟩ := q.ex; ⟨Z, ts, S, R, RE, rs, ok, h _ _ _ _ s, po, xo⟩⟩
/-- the context of a def's body -/
abbrev cxT (P : Program) (w : World) (K : PySem.W.Frag) (mg : Str → Option Value) (base : Heap) (N : List Str) (qual : Str) (sc : Scope) (f : Addr) (cdv : Value) (A : Around) (out : List Env) (s : Shared) (H : Hp) (E : XK) : Cx := cxOf (L2N.CX P w) P w K mg base N qual sc f cdv A out s H E
theorem up_body {N : List Str} {X : Cx} {E : XK} {body : List Stmt} {r : TRS} {vs : List V} {H : Hp} {Q : VK} (bs : BS X E body r) (hsp : ∀ ts S R RE, sp ts S R RE → r { nx := fun _ S' => R .non S', rt := R, ex := RE } (startT N ts) S) (q : UpF X.K sp vs H Q E) :
    ∃ t, PSs X body t ∧ t { nx := fun _ H' => Q .non H', rt := Q } (start N vs) H := by
  obtain ⟨Z, ts, S, R, RE, rs, ok, s, po, xo⟩ := q.ex
  refine ⟨_, bs.ps, Z, startT N ts, S, _, FrR.start rs, ok, hsp ts S R RE s, ⟨fun σ' S' sl' H' r' le' ok' _ => po _ S' _ H' r' le' ok' .non, po, fun _ _ _ _ z => z.elim, fun _ _ _ _ z => z.elim⟩, xo⟩
theorem okT {x qual : Str} {st : Stmt} {N : List Str} {r : TRS} (F : Fun K x qual st f fd) (S : FnScope N ps (defScope st)) (len : ∀ ts S R RE, sp ts S R RE → ts.length = ps.length)
    (bs : ∀ (cdv : Value) (A : Around) (out : List Env) (s : Shared) (H : Hp) (E : XK), A.guards = some [] → Room k (A.deeper (envOfC qual (defScope st) s.heap.objs.size f cdv)) → BS (cxT P w K mg base N qual (defScope st) f cdv A out s H E) E (defBody st) r)
    (hsp : ∀ ts S R RE, sp ts S R RE → r { nx := fun _ S' => R .non S', rt := R, ex := RE } (startT N ts) S) : FnT P w K mg base (k + 1) f fd ps sp := by
  obtain ⟨_, _, _, _, _, _, cdv, _, _, e, lk, code⟩ := F.ex
  subst e
  refine ⟨okG0 lk code S (fun vs H Q E q => ?_) fun A out s H vs Q E g rm q => up_body (bs cdv A out s H E g rm) hsp q⟩
  obtain ⟨Z, ts, S, R, RE, rs, ok, s, po, xo⟩ := q.ex
  exact rs.length.trans (len _ _ _ _ s)
end
section
variable {X : Cx} {E : XK} {k n : Nat} {f : Addr} {fd : FuncData} {ps ks : List Str} {sp : SpT} {dvs : List V} {dts : List T} {ds : List Value} {x : Str} {p pos : Pos} {e : Expr} {es : List Expr} {kws : List Keyword} {t : TRA}
def rCall (sp : SpT) (dts : List T) (t : TRA) : TR := fun σ S R RE => t σ S (fun xs S1 => sp (xs ++ dts) S1 R RE) RE
/-- values that are the same whatever the heap -/
def DefT (K : PySem.W.Frag) (dvs : List V) (dts : List T) : Prop := ∀ Z S H, Reps K Z S H dvs dts
theorem DefT.nil {K : PySem.W.Frag} : DefT K [] [] := fun _ _ _ => .nil
theorem DefT.int {K : PySem.W.Frag} {i : Int} {vs ts} (r : DefT K vs ts) : DefT K (.int i :: vs) (.int i :: ts) := fun Z S H => .cons (.int i) (r Z S H)
theorem DefT.non {K : PySem.W.Frag} {vs ts} (r : DefT K vs ts) : DefT K (.non :: vs) (.non :: ts) := fun Z S H => .cons .non (r Z S H)
theorem DefT.bl {K : PySem.W.Frag} {b : Bool} {vs ts} (r : DefT K vs ts) : DefT K (.bl b :: vs) (.bl b :: ts) := fun Z S H => .cons (.bl b) (r Z S H)
theorem DefT.str {K : PySem.W.Frag} {z : Str} {vs ts} (r : DefT K vs ts) : DefT K (.str z :: vs) (.str z :: ts) := fun Z S H => .cons (.str z) (r Z S H)
theorem et_call (F : FnT X.prog X.w X.K X.mg X.base k f fd ps sp) (gds : X.A.guards = some []) (hr : Room k X.A) (hg : Gl X x) (hm : X.mg x = some (.ref f)) (hk : PySem.W.keepIn X.K (.ref f) = true) (hb : Binds X.K fd ps ds) (hd : Vals dvs ds) (hdt : DefT X.K dvs dts) (hx : Passes (L2N.CX X.prog X.w) X E)
    (ha : AT X E (e :: es) t) (hdb : (x == ("__debug__" : Str)) = false := by decide) (he : starEach (e :: es) X.env = (false, eval e X.env) :: starEach es X.env := by rfl) (hpl : (backTo pos (starEach es X.env)).any (·.1) = false := by rfl) :
    ET X E (.Call (.Name x p) (e :: es) [] pos) (rCall sp dts t) :=
  ⟨pe_weak (callG F.fn gds hr hg hm hk hb hd hx ha.pa hdb he hpl) fun sl H Q h => UpA.args (k := fun xs S1 R RE => sp (xs ++ dts) S1 R RE) h fun Z xs S1 vs H1 R RE ok rs kk po xo =>
    ⟨Z, _, S1, R, RE, rs.append (hdt Z S1 H1), ok, kk, po, xo⟩⟩
theorem et_call0 (F : FnT X.prog X.w X.K X.mg X.base k f fd ps sp) (gds : X.A.guards = some []) (hr : Room k X.A) (hg : Gl X x) (hm : X.mg x = some (.ref f)) (hk : PySem.W.keepIn X.K (.ref f) = true) (hb : Binds X.K fd ps ds) (hd : Vals dvs ds) (hdt : DefT X.K dvs dts) (hx : Passes (L2N.CX X.prog X.w) X E)
    (hdb : (x == ("__debug__" : Str)) = false := by decide) : ET X E (.Call (.Name x p) [] [] pos) (rCall sp dts aNil) :=
  ⟨pe_weak (callG0 F.fn gds hr hg hm hk hb hd hx hdb) fun sl H Q h => by
    obtain ⟨Z, σ, S, R, RE, fr, ok, w, po, xo⟩ := h.ex
    exact ⟨Z, _, S, R, RE, hdt Z S H, ok, w, po, xo⟩⟩
/-! keywords -/
structure KT (X : Cx) (E : XK) (kws : List Keyword) (r : TRA) : Prop where
  pk : PK X kws (UpA X.K E r)
/-- an order of the arguments, the same for trees and values -/
def OrdT (K : PySem.W.Frag) (gV : List V → List V → List V) (gT : List T → List T → List T) : Prop := ∀ Z S H vs ts us ws, Reps K Z S H vs ts → Reps K Z S H us ws → Reps K Z S H (gV vs us) (gT ts ws)
def rCallN (n m : Nat) (sp : SpT) (gT : List T → List T → List T) (t tk : TRA) : TR := fun σ S R RE => t σ S (fun xs S1 => tk σ S1 (fun zs S2 => xs.length = n ∧ zs.length = m ∧ sp (gT xs zs) S2 R RE) RE) RE
variable {g : List Value → List Value → List Value} {gV : List V → List V → List V} {gT : List T → List T → List T} {tk : TRA}
theorem et_callK (F : FnT X.prog X.w X.K X.mg X.base k f fd ps sp) (gds : X.A.guards = some []) (hr : Room k X.A) (hg : Gl X x) (hm : X.mg x = some (.ref f)) (hk : PySem.W.keepIn X.K (.ref f) = true) (hb : KBn X.K fd ps 0 ks g gV) (ho : OrdT X.K gV gT) (hx : Passes (L2N.CX X.prog X.w) X E)
    (hkw : KT X E kws tk) (hall : (backToKw pos (keywordEach kws X.env)).all (·.1.isSome) = true := by rfl) (hks : (backToKw pos (keywordEach kws X.env)).filterMap (·.1) = ks := by rfl)
    (hdb : (x == ("__debug__" : Str)) = false := by decide)
    (hpl : ((backTo pos (starEach [] X.env)).any (·.1) || (backToKw pos (keywordEach kws X.env)).any (·.1.isNone)) = false := by rfl) :
    ET X E (.Call (.Name x p) [] kws pos) (rCallN 0 ks.length sp gT aNil tk) :=
  ⟨pe_weak (callGK F.fn gds hr hg hm hk hb hx hkw.pk hall hks hdb hpl) fun sl H Q h => by
    obtain ⟨Z, σ, S, R, RE, fr, ok, w, po, xo⟩ := h.ex
    refine ⟨Z, σ, S, _, RE, fr, ok, w, fun zs S2 us H2 k2 le2 ok2 r2 => ?_, xo⟩
    obtain ⟨l1, l2, s⟩ := k2
    exact ⟨rfl, r2.length.trans l2, Z, _, S2, R, RE, ho _ _ _ _ _ _ _ .nil r2, ok2, s, po.le le2, xo.le le2⟩⟩
end

/-! ### data -/
mutual
def T.dat : T → Option PyData
  | .non => some .none
  | .bl b => some (.bool b)
  | .int i => some (.int i)
  | .str z => some (.str z)
  | .lst l => (T.datL l).map .list
  | .tup l => (T.datL l).map .tuple
  | _ => none
def T.datL : List T → Option (List PyData)
  | [] => some []
  | t :: ts => match t.dat, T.datL ts with
    | some d, some ds => some (d :: ds)
    | _, _ => none
end
section
variable {K : PySem.W.Frag} {Z : Addr → Prop} {S : Store} {H : Hp}
mutual
theorem Rep.dp : ∀ {v : V} {t : T}, Rep K Z S H v t → ∀ {d}, t.dat = some d → Dp K H v d
  | _, _, .non, d, e => by rw [T.dat] at e; cases e; exact .non
  | _, _, .bl b, d, e => by rw [T.dat] at e; cases e; exact .bl b
  | _, _, .int i, d, e => by rw [T.dat] at e; cases e; exact .int i
  | _, _, .str z, d, e => by rw [T.dat] at e; cases e; exact .str z
  | _, _, .ty n, d, e => by rw [T.dat] at e <;> first | cases e | (intros; rename_i h; cases h)
  | _, _, .st a, d, e => by rw [T.dat] at e <;> first | cases e | (intros; rename_i h; cases h)
  | _, _, .cell a, d, e => by rw [T.dat] at e <;> first | cases e | (intros; rename_i h; cases h)
  | _, _, .scr h r, d, e => by rw [T.dat] at e <;> first | cases e | (intros; rename_i h; cases h)
  | _, _, .ins h n r, d, e => by rw [T.dat] at e <;> first | cases e | (intros; rename_i h; cases h)
  | _, _, .dct h n, d, e => by rw [T.dat] at e <;> first | cases e | (intros; rename_i h; cases h)
  | _, _, .exc h n hd nd r, d, e => by rw [T.dat] at e <;> first | cases e | (intros; rename_i h; cases h)
  | _, _, .tup h r, d, e => by
    rw [T.dat] at e
    obtain ⟨ds, e1, rfl⟩ := Option.map_eq_some_iff.mp e
    exact .tup h.sq (Reps.dp r e1)
  | _, _, .lst h r, d, e => by
    rw [T.dat] at e
    obtain ⟨ds, e1, rfl⟩ := Option.map_eq_some_iff.mp e
    exact .lst h.sq (Reps.dp r e1)
theorem Reps.dp : ∀ {vs : List V} {ts : List T}, Reps K Z S H vs ts → ∀ {ds}, T.datL ts = some ds → DpAll K H vs ds
  | _, _, .nil, ds, e => by rw [T.datL] at e; cases e; exact .nil
  | _, _, .cons h r, ds, e => by
    rw [T.datL] at e
    split at e
    · rename_i d1 ds1 e1 e2
      cases e
      exact .cons (Rep.dp h e1) (Reps.dp r e2)
    · cases e
end
end
/-! ### operators of trees -/
section
variable {X : Cx} {E : XK}
theorem OpR.or {f : Value → Value → Sem Value} {r r' : R2} (h : OpR X f r) (h' : OpR X f r') : OpR X f (fun x y H Q => r x y H Q ∨ r' x y H Q) := fun pins s σ H x y v u Q I rx ry w =>
  w.elim (h pins s σ H x y v u Q I rx ry) (h' pins s σ H x y v u Q I rx ry)
abbrev KB := T → T → Store → (T → Store → Prop) → XT → Prop
def kAdd : KB := fun x y S R _ => match x, y with
  | .int i, .int j => R (.int (i + j)) S
  | .str a, .str b => a.length + b.length ≤ sizeLine ∧ R (.str (a ++ b)) S
  | .lst a, .lst b => a.length + b.length ≤ sizeLine ∧ R (.lst (a ++ b)) S
  | .tup a, .tup b => a ≠ [] ∧ a.length + b.length ≤ sizeLine ∧ R (.tup (a ++ b)) S
  | _, _ => False
def rStrAdd : R2 := fun x y H Q => ∃ i j, x = .str i ∧ y = .str j ∧ i.length + j.length ≤ sizeLine ∧ Q (.str (i ++ j)) H
theorem cv_add : Conv X.K E kAdd (fun x y H Q => (rI0 fun i j => .int (i + j)) x y H Q ∨ (rStrAdd x y H Q ∨ (rCat x y H Q ∨ rCatT X.K x y H Q))) := by
  intro Z x y S v u H R RE Q ok rx ry kk po xo
  unfold kAdd at kk
  split at kk
  · cases rx; cases ry
    exact .inl ⟨_, _, rfl, rfl, po _ _ _ _ kk .refl ok (.int _)⟩
  · cases rx; cases ry
    exact .inr (.inl ⟨_, _, rfl, rfl, kk.1, po _ _ _ _ kk.2 .refl ok (.str _)⟩)
  · cases rx with
    | lst h1 r1 =>
      cases ry with
      | lst h2 r2 => exact .inr (.inr (.inl ⟨_, _, _, _, rfl, rfl, h1.1, h2.1, by rw [r1.length, r2.length]; exact kk.1, fun p hp => po _ _ _ _ kk.2 (le_new hp) (ok.new hp) (.lstN ok hp (r1.append r2))⟩))
  · cases rx with
    | tup h1 r1 =>
      cases ry with
      | @tup p2 vs2 ts2 h2 r2 =>
        refine .inr (.inr (.inr ⟨_, _, _, _, rfl, rfl, h1.sq, h2.sq, fun e => ?_, by rw [r1.length, r2.length]; exact kk.2.1, fun e => ?_, fun _ p hp => po _ _ _ _ kk.2.2 (le_new hp) (ok.new hp) (.tupN ok hp (r1.append r2))⟩))
        · subst e
          cases r1
          exact kk.1 rfl
        · subst e
          cases r2
          have q := kk.2.2
          rw [List.append_nil] at q
          exact po _ _ _ _ q .refl ok (.tup h1 r1)
  · exact kk.elim
theorem op_addG : OpR X (binaryOp .Add) (fun x y H Q => (rI0 fun i j => .int (i + j)) x y H Q ∨ (rStrAdd x y H Q ∨ (rCat x y H Q ∨ rCatT X.K x y H Q))) := op_add.or (OpR.or op_add_str (op_cat.or op_catT))
def kI2 (C : Int → Int → Prop) (g : Int → Int → T) : KB := fun x y S R _ => match x, y with
  | .int i, .int j => C i j ∧ R (g i j) S
  | _, _ => False
theorem cv_I2 {C : Int → Int → Prop} {g : Int → Int → Int} : Conv X.K E (kI2 C fun i j => .int (g i j)) (rI C fun i j => .int (g i j)) := by
  intro Z x y S v u H R RE Q ok rx ry kk po xo
  unfold kI2 at kk
  split at kk
  · cases rx; cases ry
    exact ⟨_, _, rfl, rfl, kk.1, po _ _ _ _ kk.2 .refl ok (.int _)⟩
  · exact kk.elim
def kI2n (g : Int → Int → T) : KB := fun x y S R _ => match x, y with
  | .int i, .int j => R (g i j) S
  | _, _ => False
theorem cv_I2n {g : Int → Int → Int} : Conv X.K E (kI2n fun i j => .int (g i j)) (rI0 fun i j => .int (g i j)) := by
  intro Z x y S v u H R RE Q ok rx ry kk po xo
  unfold kI2n at kk
  split at kk
  · cases rx; cases ry
    exact ⟨_, _, rfl, rfl, po _ _ _ _ kk .refl ok (.int _)⟩
  · exact kk.elim
theorem cv_B2n {g : Int → Int → Bool} : Conv X.K E (kI2n fun i j => .bl (g i j)) (rI0 fun i j => .bl (g i j)) := by
  intro Z x y S v u H R RE Q ok rx ry kk po xo
  unfold kI2n at kk
  split at kk
  · cases rx; cases ry
    exact ⟨_, _, rfl, rfl, po _ _ _ _ kk .refl ok (.bl _)⟩
  · exact kk.elim
def kMul : KB := fun x y S R _ => match x, y with
  | .int i, .int j => IntMulOk i j ∧ R (.int (i * j)) S
  | .lst a, .int k => (-(2 ^ 63) ≤ k ∧ k < 2 ^ 63) ∧ a.length * k.toNat ≤ sizeLine ∧ R (.lst (List.replicate k.toNat a).flatten) S
  | .tup a, .int k => a ≠ [] ∧ 2 ≤ k ∧ k ≤ 1000 ∧ a.length ≤ 1000 ∧ R (.tup (List.replicate k.toNat a).flatten) S
  | _, _ => False
theorem Reps.rep {K : PySem.W.Frag} {Z : Addr → Prop} {S : Store} {H : Hp} {vs : List V} {ts : List T} (r : Reps K Z S H vs ts) : ∀ n : Nat, Reps K Z S H (List.replicate n vs).flatten (List.replicate n ts).flatten
  | 0 => .nil
  | n + 1 => by
    rw [List.replicate_succ, List.replicate_succ, List.flatten_cons, List.flatten_cons]
    exact r.append (Reps.rep r n)
theorem cv_mul : Conv X.K E kMul (fun x y H Q => (rI IntMulOk fun i j => .int (i * j)) x y H Q ∨ (rRep x y H Q ∨ rRepT X.K x y H Q)) := by
  intro Z x y S v u H R RE Q ok rx ry kk po xo
  unfold kMul at kk
  split at kk
  · cases rx; cases ry
    exact .inl ⟨_, _, rfl, rfl, kk.1, po _ _ _ _ kk.2 .refl ok (.int _)⟩
  · cases ry
    cases rx with
    | lst h1 r1 => exact .inr (.inl ⟨_, _, _, rfl, rfl, h1.1, kk.1.1, kk.1.2, by rw [r1.length]; exact kk.2.1, fun p hp => po _ _ _ _ kk.2.2 (le_new hp) (ok.new hp) (.lstN ok hp (r1.rep _))⟩)
  · cases ry
    cases rx with
    | tup h1 r1 => exact .inr (.inr ⟨_, _, _, rfl, rfl, h1.sq, fun e => by subst e; cases r1; exact kk.1 rfl, kk.2.1, kk.2.2.1, by rw [r1.length]; exact kk.2.2.2.1, fun p hp => po _ _ _ _ kk.2.2.2.2 (le_new hp) (ok.new hp) (.tupN ok hp (r1.rep _))⟩)
  · exact kk.elim
theorem op_mulP : OpR X (binaryOp .Mult) (rI IntMulOk fun i j => .int (i * j)) := opI fun _ _ _ _ _ _ _ hc q => mul_int q hc
theorem op_mulG : OpR X (binaryOp .Mult) (fun x y H Q => (rI IntMulOk fun i j => .int (i * j)) x y H Q ∨ (rRep x y H Q ∨ rRepT X.K x y H Q)) := op_mulP.or (op_rep.or op_repT)
/-! comparisons -/
def scalT : T → T → Bool
  | .non, .non => true | .non, .int _ => true | .int _, .non => true | .non, .bl _ => true | .bl _, .non => true | .non, .str _ => true | .str _, .non => true
  | .int _, .int _ => true | .bl _, .bl _ => true | .str _, .str _ => true
  | .int _, .str _ => true | .str _, .int _ => true | .bl _, .str _ => true | .str _, .bl _ => true
  | _, _ => false
def eqS : T → T → Bool
  | .non, .non => true
  | .int i, .int j => decide (i = j)
  | .bl i, .bl j => decide (i = j)
  | .str i, .str j => decide (i = j)
  | _, _ => false
def kEqG (ng : Bool) : KB := fun x y S R _ => (scalT x y = true ∧ R (.bl (ng ^^ eqS x y)) S) ∨ ∃ d e, x.dat = some d ∧ y.dat = some e ∧ SeqAt.shaped d = true ∧ SeqAt.shaped e = true ∧ R (.bl (ng ^^ PyData.eqv d e)) S
theorem scal_rep {K : PySem.W.Frag} {Z : Addr → Prop} {S : Store} {H : Hp} {v u : V} {x y : T} (rx : Rep K Z S H v x) (ry : Rep K Z S H u y) (h : scalT x y = true) : scal v u = true ∧ decide (v = u) = eqS x y := by
  cases rx <;> cases ry <;> first | (cases h; done) | exact ⟨rfl, by simp [eqS]⟩
theorem cv_eq : Conv X.K E (kEqG false) (fun x y H Q => rEq x y H Q ∨ rEqD X.K x y H Q) := by
  intro Z x y S v u H R RE Q ok rx ry kk po xo
  rcases kk with ⟨h, k⟩ | ⟨d, e, hd, he, sd, se, k⟩
  · obtain ⟨h1, h2⟩ := scal_rep rx ry h
    refine .inl ⟨h1, ?_⟩
    rw [h2]
    exact po _ _ _ _ (by simpa using k) .refl ok (.bl _)
  · exact .inr ⟨d, e, rx.dp hd, ry.dp he, sd, se, po _ _ _ _ (by simpa using k) .refl ok (.bl _)⟩
theorem cv_ne : Conv X.K E (kEqG true) (fun x y H Q => rNe x y H Q ∨ rNeD X.K x y H Q) := by
  intro Z x y S v u H R RE Q ok rx ry kk po xo
  rcases kk with ⟨h, k⟩ | ⟨d, e, hd, he, sd, se, k⟩
  · obtain ⟨h1, h2⟩ := scal_rep rx ry h
    refine .inl ⟨h1, ?_⟩
    rw [h2]
    exact po _ _ _ _ (by simpa using k) .refl ok (.bl _)
  · exact .inr ⟨d, e, rx.dp hd, ry.dp he, sd, se, po _ _ _ _ (by simpa using k) .refl ok (.bl _)⟩
theorem op_eqG (hu : X.A.units + 64 < cLine) : OpR X (compareOp .Eq) (fun x y H Q => rEq x y H Q ∨ rEqD X.K x y H Q) := op_eq.or (op_eqD hu)
theorem op_neG (hu : X.A.units + 64 < cLine) : OpR X (compareOp .NotEq) (fun x y H Q => rNe x y H Q ∨ rNeD X.K x y H Q) := op_ne.or (op_neD hu)
def isNon : T → Bool
  | .non => true
  | _ => false
def kIsN (ng : Bool) : KB := fun x y S R _ => y = .non ∧ R (.bl (ng ^^ isNon x)) S
theorem non_rep {K : PySem.W.Frag} {Z : Addr → Prop} {S : Store} {H : Hp} {v : V} {x : T} (rx : Rep K Z S H v x) : decide (v = .non) = isNon x := by
  cases rx <;> simp [isNon]
theorem cv_isN : Conv X.K E (kIsN false) (fun x y H Q => y = .non ∧ Q (.bl (decide (x = .non))) H) := by
  intro Z x y S v u H R RE Q ok rx ry ⟨e, k⟩ po xo
  subst e
  cases ry
  refine ⟨rfl, ?_⟩
  rw [non_rep rx]
  exact po _ _ _ _ (by simpa using k) .refl ok (.bl _)
theorem cv_notN : Conv X.K E (kIsN true) (fun x y H Q => y = .non ∧ Q (.bl (!decide (x = .non))) H) := by
  intro Z x y S v u H R RE Q ok rx ry ⟨e, k⟩ po xo
  subst e
  cases ry
  refine ⟨rfl, ?_⟩
  rw [non_rep rx]
  exact po _ _ _ _ (by simpa using k) .refl ok (.bl _)
/-! a[i] -/
def kIx : KB := fun x y S R _ => match x, y with
  | .lst l, .int i => ∃ t, atI l i = some t ∧ R t S
  | .tup l, .int i => ∃ t, atI l i = some t ∧ R t S
  | .scr l, .int i => ∃ t, atI l i = some t ∧ R t S
  | .str z, .int i => z.length ≤ sizeLine ∧ ∃ c, atI z.cps.toList i = some c ∧ R (.str ⟨#[c]⟩) S
  | .cell a, .int i => ∃ l t, S a = some (.lst l) ∧ atI l i = some t ∧ R t S
  | _, _ => False
theorem Reps.at {K : PySem.W.Frag} {Z : Addr → Prop} {S : Store} {H : Hp} {vs : List V} {ts : List T} {i : Int} {t : T} (r : Reps K Z S H vs ts) (h : atI ts i = some t) : ∃ v, atI vs i = some v ∧ Rep K Z S H v t := by
  unfold atI at h ⊢
  rw [r.length]
  cases e : ixN ts.length i with
  | none => rw [e] at h; cases h
  | some j => rw [e] at h; exact r.get h
theorem cv_ix : Conv X.K E kIx (rIx X.K) := by
  intro Z x y S v u H R RE Q ok rx ry kk po xo
  unfold kIx at kk
  split at kk
  · obtain ⟨t, h, k⟩ := kk
    cases ry
    cases rx with
    | lst h1 r1 =>
      obtain ⟨w, hw, rw'⟩ := r1.at h
      exact .inl ⟨_, _, _, _, rfl, rfl, h1.sq, hw, po _ _ _ _ k .refl ok rw'⟩
  · obtain ⟨t, h, k⟩ := kk
    cases ry
    cases rx with
    | tup h1 r1 =>
      obtain ⟨w, hw, rw'⟩ := r1.at h
      exact .inr (.inl ⟨_, _, _, _, rfl, rfl, h1.sq, hw, po _ _ _ _ k .refl ok rw'⟩)
  · obtain ⟨t, h, k⟩ := kk
    cases ry
    cases rx with
    | scr h1 r1 =>
      obtain ⟨w, hw, rw'⟩ := r1.at h
      exact .inl ⟨_, _, _, _, rfl, rfl, h1.sq, hw, po _ _ _ _ k .refl ok rw'⟩
  · obtain ⟨z, c, h, k⟩ := kk
    cases ry; cases rx
    exact .inr (.inr ⟨_, _, _, rfl, rfl, z, h, po _ _ _ _ k .refl ok (.str _)⟩)
  · obtain ⟨l, t, hs, h, k⟩ := kk
    cases ry; cases rx
    rename_i a i
    have c := ok.cl a
    rw [hs] at c
    obtain ⟨vs, hv, r1⟩ := c
    obtain ⟨w, hw, rw'⟩ := r1.at h
    exact .inl ⟨_, _, _, _, rfl, rfl, .of hv, hw, po _ _ _ _ k .refl ok rw'⟩
  · exact kk.elim
/-! len, truth, built-ins -/
abbrev KA := List T → Store → (T → Store → Prop) → XT → Prop
def lenT : T → Store → Option Nat
  | .lst l, _ => some l.length
  | .tup l, _ => some l.length
  | .scr l, _ => some l.length
  | .str z, _ => if z.length ≤ sizeLine then some z.length else none
  | .cell a, S => match S a with
    | some (.lst l) => some l.length
    | _ => none
  | _, _ => none
def kLen : KA := fun xs S R _ => ∃ x n, xs = [x] ∧ lenT x S = some n ∧ R (.int (n : Nat)) S
theorem len_rep {K : PySem.W.Frag} {Z : Addr → Prop} {S : Store} {H : Hp} {v : V} {x : T} {n : Nat} (ok : Ok K Z S H) (rx : Rep K Z S H v x) (h : lenT x S = some n) : LenV K v H n := by
  cases rx with
  | str z =>
    simp only [lenT] at h
    split at h
    · cases h; exact ⟨by assumption, rfl⟩
    · cases h
  | tup h1 r1 => cases h; exact .inr ⟨_, h1.sq, r1.length.symm⟩
  | lst h1 r1 => cases h; exact .inl ⟨_, h1.sq, r1.length.symm⟩
  | scr h1 r1 => cases h; exact .inl ⟨_, h1.sq, r1.length.symm⟩
  | cell a =>
    simp only [lenT] at h
    have c := ok.cl a
    split at h
    · rename_i l e
      rw [e] at c
      obtain ⟨vs, hv, r⟩ := c
      cases h
      exact .inl ⟨_, .of hv, r.length.symm⟩
    · cases h
  | _ => cases h
theorem cv_len : ConvA X.K E kLen (fun xs H Q => ∃ x n, xs = [x] ∧ LenV X.K x H n ∧ Q (.int n) H) := by
  intro Z xs S vs H R RE Q ok rs ⟨x, n, e, h, k⟩ po xo
  subst e
  cases rs with
  | cons r rr =>
    cases rr
    exact ⟨_, n, rfl, len_rep ok r h, po _ _ _ _ k .refl ok (.int _)⟩
def kU (g : Int → T) : KA := fun xs S R _ => ∃ i, xs = [.int i] ∧ R (g i) S
theorem cv_U {g : Int → Int} : ConvA X.K E (kU fun i => .int (g i)) (fun xs H Q => ∃ i, xs = [.int i] ∧ Q (.int (g i)) H) := by
  intro Z xs S vs H R RE Q ok rs ⟨i, e, k⟩ po xo
  subst e
  cases rs with
  | cons r rr =>
    cases rr; cases r
    exact ⟨_, rfl, po _ _ _ _ k .refl ok (.int _)⟩
def kA2 (g : Int → Int → T) : KA := fun xs S R _ => ∃ i j, xs = [.int i, .int j] ∧ R (g i j) S
theorem cv_A2 {g : Int → Int → Int} : ConvA X.K E (kA2 fun i j => .int (g i j)) (fun xs H Q => ∃ i j, xs = [.int i, .int j] ∧ Q (.int (g i j)) H) := by
  intro Z xs S vs H R RE Q ok rs ⟨i, j, e, k⟩ po xo
  subst e
  cases rs with
  | cons r rr =>
    cases r
    cases rr with
    | cons r rr =>
      cases r; cases rr
      exact ⟨_, _, rfl, po _ _ _ _ k .refl ok (.int _)⟩
def kDm : KA := fun xs S R _ => ∃ i j, xs = [.int i, .int j] ∧ CDivP i j ∧ R (.tup [.int (i / j), .int (i % j)]) S
theorem cv_dm : ConvA X.K E kDm (fun xs H Q => ∃ i j, xs = [.int i, .int j] ∧ CDivP i j ∧ ∀ p, H p = none → Q (.ref p) (upd H p (.tup [.int (i / j), .int (i % j)]))) := by
  intro Z xs S vs H R RE Q ok rs ⟨i, j, e, c, k⟩ po xo
  subst e
  cases rs with
  | cons r rr =>
    cases r
    cases rr with
    | cons r rr =>
      cases r; cases rr
      exact ⟨_, _, rfl, c, fun p hp => po _ _ _ _ k (le_new hp) (ok.new hp) (.tupN ok hp (.cons (.int _) (.cons (.int _) .nil)))⟩
def kStrI : KA := fun xs S R _ => ∃ i, xs = [.int i] ∧ i.natAbs.log2 < 1920 ∧ R (.str (toString i)) S
theorem cv_strI : ConvA X.K E kStrI (fun xs H Q => ∃ i, xs = [.int i] ∧ i.natAbs.log2 < 1920 ∧ Q (.str (toString i)) H) := by
  intro Z xs S vs H R RE Q ok rs ⟨i, e, c, k⟩ po xo
  subst e
  cases rs with
  | cons r rr =>
    cases rr; cases r
    exact ⟨_, rfl, c, po _ _ _ _ k .refl ok (.str _)⟩
/-- all, any of a list of truths -/
def kAll (f : List Bool → Bool) : KA := fun xs S R _ => ∃ bs : List Bool, xs = [.lst (bs.map .bl)] ∧ R (.bl (f bs)) S
theorem reps_bl {K : PySem.W.Frag} {Z : Addr → Prop} {S : Store} {H : Hp} : ∀ {bs : List Bool} {vs : List V}, Reps K Z S H vs (bs.map .bl) → vs = bs.map .bl
  | [], _, .nil => rfl
  | b :: bs, _, .cons h r => by cases h; rw [reps_bl r]; rfl
theorem cv_all {f : List Bool → Bool} : ConvA X.K E (kAll f) (fun vs H Q => ∃ (a : Addr) (bs : List Bool), vs = [V.ref a] ∧ SqL X.K H a (bs.map V.bl) ∧ Q (.bl (f bs)) H) := by
  intro Z xs S vs H R RE Q ok rs ⟨bs, e, k⟩ po xo
  subst e
  cases rs with
  | cons r rr =>
    cases rr
    cases r with
    | lst h1 r1 =>
      rw [reps_bl r1] at h1
      exact ⟨_, bs, rfl, h1.sq, po _ _ _ _ k .refl ok (.bl _)⟩
end

/-! ### slices -/
abbrev TRO := Fm → Store → (Option Int → Store → Prop) → XT → Prop
structure UpO (K : PySem.W.Frag) (E : XK) (r : TRO) (sl : L2.St) (H : Hp) (Q : Option Int → Hp → Prop) : Prop where
  ex : ∃ Z σ S R RE, FrR K Z S H sl σ ∧ Ok K Z S H ∧ r σ S R RE ∧ (∀ o S' H', R o S' → Le S H S' H' → Ok K Z S' H' → Q o H') ∧ XOk K Z S H RE E
structure OT (X : Cx) (E : XK) (e : Option Expr) (r : TRO) : Prop where
  po : L2.PO X e (UpO X.K E r)
theorem po_weak {X : Cx} {e : Option Expr} {t t' : TO} (he : L2.PO X e t) (imp : ∀ sl H Q, t' sl H Q → t sl H Q) : L2.PO X e t' := ⟨fun pins s sl H Q inv h => he.run pins s sl H Q inv (imp sl H Q h)⟩
def oNone : TRO := fun _ S R _ => R none S
def oSome (ra : TR) : TRO := fun σ S R RE => ra σ S (fun x S1 => ∃ i, x = .int i ∧ R (some i) S1) RE
def cutT (l : List T) (lo hi : Option Int) : List T := (l.drop (HT.sIx l.length 0 lo)).take (HT.sIx l.length l.length hi - HT.sIx l.length 0 lo)
section
variable {X : Cx} {E : XK} {e a b c : Expr} {es : List Expr} {pos p2 : Pos} {ra rb rc : TR} {t : TRA} {lo hi : Option Expr} {rl rh : TRO}
theorem ot_none : OT X E none oNone := ⟨po_weak po_none fun sl H Q ⟨⟨Z, σ, S, R, RE, fr, ok, w, po, xo⟩⟩ => po none S H w .refl ok⟩
theorem ot_some (h : ET X E a ra) : OT X E (some a) (oSome ra) := ⟨po_weak (po_some h.pe) fun sl H Q ⟨⟨Z, σ, S, R, RE, fr, ok, w, po, xo⟩⟩ => ⟨Z, σ, S, _, RE, fr, ok, w, fun x S1 v H1 k le ok1 rep => by
  obtain ⟨i, rfl, k⟩ := k
  cases rep
  exact ⟨i, rfl, po _ S1 H1 k le ok1⟩, xo⟩⟩
def kSl : T → Option Int → Option Int → Store → (T → Store → Prop) → Prop := fun x lo hi S R => match x with
  | .lst l => R (.lst (cutT l lo hi)) S
  | .scr l => R (.lst (cutT l lo hi)) S
  | .tup l => ¬ (HT.sIx l.length 0 lo = 0 ∧ HT.sIx l.length l.length hi = l.length) ∧ R (.tup (cutT l lo hi)) S
  | .str z => z.length ≤ sizeLine ∧ R (.str (cutS z lo hi)) S
  | _ => False
def rSl (ra : TR) (rl rh : TRO) : TR := fun σ S R RE => ra σ S (fun x S1 => rl σ S1 (fun l S2 => rh σ S2 (fun h S3 => kSl x l h S3 R) RE) RE) RE
theorem Reps.cut {K : PySem.W.Frag} {Z : Addr → Prop} {S : Store} {H : Hp} {vs : List V} {ts : List T} {l h : Option Int} (r : Reps K Z S H vs ts) : Reps K Z S H (cutV vs l h) (cutT ts l h) := by
  unfold cutV cutT
  rw [r.length]
  exact (r.drop _).take _
theorem et_slice (ha : ET X E a ra) (hl : OT X E lo rl) (hh : OT X E hi rh) : ET X E (.Subscript a (.Slice lo hi none p2) pos) (rSl ra rl rh) :=
  ⟨pe_weak (pe_slice (SlR.or sl_list (SlR.or sl_tup sl_str)) ha.pe hl.po hh.po) fun sl H Q ⟨⟨Z, σ, S, R, RE, fr, ok, w, po, xo⟩⟩ => by
    refine ⟨Z, σ, S, _, RE, fr, ok, w, fun x S1 v H1 k1 le1 ok1 rep => ?_, xo⟩
    refine ⟨Z, σ, S1, _, RE, fr.le le1, ok1, k1, fun l S2 H2 k2 le2 ok2 => ?_, xo.le le1⟩
    refine ⟨Z, σ, S2, _, RE, (fr.le le1).le le2, ok2, k2, fun h S3 H3 k3 le3 ok3 => ?_, (xo.le le1).le le2⟩
    have po3 := ((po.le le1).le le2).le le3
    have rep3 := (rep.le le2).le le3
    unfold kSl at k3
    split at k3
    · cases rep3 with
      | lst h1 r1 => exact .inl ⟨_, _, rfl, h1.sq, fun p hp => po3 _ _ _ _ k3 (le_new hp) (ok3.new hp) (.lstN ok3 hp r1.cut)⟩
    · cases rep3 with
      | scr h1 r1 => exact .inl ⟨_, _, rfl, h1.sq, fun p hp => po3 _ _ _ _ k3 (le_new hp) (ok3.new hp) (.lstN ok3 hp r1.cut)⟩
    · cases rep3 with
      | tup h1 r1 => exact .inr (.inl ⟨_, _, rfl, h1.sq, by rw [r1.length]; exact k3.1, fun p hp => po3 _ _ _ _ k3.2 (le_new hp) (ok3.new hp) (.tupN ok3 hp r1.cut)⟩)
    · cases rep3
      exact .inr (.inr ⟨_, rfl, k3.1, po3 _ _ _ _ k3.2 .refl ok3 (.str _)⟩)
    · exact k3.elim⟩
/-! ### xs.append(e) and the like: methods of a list that changes -/
def rMut (k : Addr → List T → List T → Store → (T → Store → Prop) → Prop) (ra : TR) (t : TRA) : TR := fun σ S R RE => ra σ S (fun x S1 => ∃ a, x = .cell a ∧ (∃ l, S1 a = some (.lst l)) ∧ t σ S1 (fun xs S2 => ∃ l, S2 a = some (.lst l) ∧ k a l xs S2 R) RE) RE
def kAppend : Addr → List T → List T → Store → (T → Store → Prop) → Prop := fun a l xs S R => ∃ x, xs = [x] ∧ l.length < sizeLine ∧ R .non (S.put a (.lst (l ++ [x])))
def kExtend : Addr → List T → List T → Store → (T → Store → Prop) → Prop := fun a l xs S R => ∃ m, xs = [.lst m] ∧ l.length + m.length ≤ sizeLine ∧ R .non (S.put a (.lst (l ++ m)))
/-! ### repr of data -/
structure SmT (k n : Nat) (t : T) : Prop where
  ex : ∃ d, t.dat = some d ∧ d.showable = true ∧ d.hasDict = false ∧ d.depth ≤ k ∧ d.shown.length ≤ n
def shownT (t : T) : Str := match t.dat with
  | some d => d.shown
  | none => Str.empty
def isDispT : T → Bool
  | .lst _ => true
  | .tup _ => true
  | _ => false
def kRepr : KA := fun xs S R _ => ∃ x k n, xs = [x] ∧ isDispT x = true ∧ SmT k n x ∧ k ≤ 64 ∧ n ≤ 16777216 ∧ R (.str (shownT x)) S
/-! ### tuple(..), list(..) -/
def kTuple : KA := fun xs S R _ => ∃ x l, xs = [x] ∧ (x = .lst l ∨ x = .tup l) ∧ R (.tup l) S
def kList : KA := fun xs S R _ => ∃ x l, xs = [x] ∧ seqOf x = some l ∧ R (.lst l) S
end
/-! keywords -/
section
variable {X : Cx} {E : XK} {e : Expr} {ra : TR} {tk : TRA}
theorem kt_nil : KT X E [] aNil := ⟨⟨fun pos pins s sl H Q I h => pk_nil.run pos pins s sl H Q I (by
  obtain ⟨Z, σ, S, R, RE, fr, ok, w, po, xo⟩ := h.ex
  exact po [] S [] H w .refl ok .nil)⟩⟩
theorem kt_cons {nm : Option Str} {kpos : Pos} {kws : List Keyword} (ha : ET X E e ra) (hr : KT X E kws tk) : KT X E (⟨nm, e, kpos⟩ :: kws) (aCons ra tk) := ⟨⟨fun pos pins s sl H Q I h => (pk_cons ha.pe hr.pk).run pos pins s sl H Q I (by
  obtain ⟨Z, σ, S, R, RE, fr, ok, w, po, xo⟩ := h.ex
  refine ⟨Z, σ, S, _, RE, fr, ok, w, fun x S1 v H1 kk le ok1 rep => ?_, xo⟩
  exact ⟨Z, σ, S1, _, RE, fr.le le, ok1, kk, fun xs S2 vs H2 k2 le2 ok2 rs => po (x :: xs) S2 (v :: vs) H2 k2 (le.trans le2) ok2 (.cons (rep.le le2) rs), xo.le le⟩)⟩⟩
end
/-! ### isinstance -/
/-- what isinstance asks of a class of one's own -/
structure InsC (K : PySem.W.Frag) (C : Addr) : Prop where
  cl : Cls K C
  c1 : PySem.W.findIn K (.ref C) "__class__" = some (some (.builtin "object.__class__"))
  c2 : PySem.W.specialIn K (.builtin "object.__class__") "__get__" = some (some (.builtin "getset_descriptor.__get__"))
  c3 : PySem.W.takesIn K (.builtin "object.__class__") = some true
  c4 : PySem.W.mroIn K C (.type "object") = some true
/-- what isinstance asks of an error's class of one's own -/
structure ExcC (K : PySem.W.Frag) (C : Addr) : Prop where
  cl : (PySem.W.clsIn K C).isSome = true
  ga : PySem.W.findIn K (.ref C) "__getattribute__" = some (some (.builtin "BaseException.__getattribute__"))
  gg : PySem.W.findIn K (.ref C) "__getattr__" = some none
  exC : PySem.W.subIn K (.ref C) (.type "BaseException") = some true
  hd : PySem.W.hasDictIn K C = true
  c1 : PySem.W.findIn K (.ref C) "__class__" = some (some (.builtin "object.__class__"))
  c2 : PySem.W.specialIn K (.builtin "object.__class__") "__get__" = some (some (.builtin "getset_descriptor.__get__"))
  c3 : PySem.W.takesIn K (.builtin "object.__class__") = some true
  c4 : PySem.W.mroIn K C (.type "object") = some true
inductive TyT (K : PySem.W.Frag) (S : Store) : T → Value → Prop
  | non : TyT K S .non (.type "NoneType")
  | bl (x : Bool) : TyT K S (.bl x) (.type "bool")
  | int (i : Int) : TyT K S (.int i) (.type "int")
  | str (x : Str) : TyT K S (.str x) (.type "str")
  | lst (l : List T) : TyT K S (.lst l) (.type "list")
  | scr (l : List T) : TyT K S (.scr l) (.type "list")
  | tup (l : List T) : TyT K S (.tup l) (.type "tuple")
  | dct : TyT K S .dct (.type "dict")
  | cell {a : Addr} {l : List T} (h : S a = some (.lst l)) : TyT K S (.cell a) (.type "list")
  | ins {C : Addr} {gs : List (Str × T)} (h : InsC K C) : TyT K S (.ins C gs) (.ref C)
  | cins {a C : Addr} {gs : List (Str × T)} (h : InsC K C) (e : S a = some (.ins C gs)) : TyT K S (.cell a) (.ref C)
  | exc {C : Addr} {gs : List (Str × T)} (h : ExcC K C) : TyT K S (.exc C gs) (.ref C)
inductive ClT : T → Value → Prop
  | ty (n : String) : ClT (.ty n) (.type n)
  | st (a : Addr) : ClT (.st a) (.ref a)
section
variable {X : Cx} {E : XK}
theorem ty_repX {K : PySem.W.Frag} {Z : Addr → Prop} {S : Store} {H : Hp} {v : V} {x : T} {t : Value} (ok : Ok K Z S H) (rx : Rep K Z S H v x) (h : TyT K S x t) (hx : ∀ C gs, x ≠ .exc C gs) : TyX K H v t := by
  cases h with
  | exc h => exact absurd rfl (hx _ _)
  | non => cases rx; exact .base .non
  | bl b => cases rx; exact .base (.bl b)
  | int i => cases rx; exact .base (.int i)
  | str z => cases rx; exact .base (.str z)
  | dct => cases rx with | dct h n => exact .base (.dK h)
  | lst l => cases rx with | lst h r => exact .base (.lst h.1)
  | scr l =>
    cases rx with
    | scr h r =>
      rcases h with ⟨⟨o, h⟩, _⟩ | ⟨o, its, n, h, c, _⟩
      · exact .base (.frz h)
      · exact .kList h c
  | tup l =>
    cases rx with
    | tup h r =>
      rcases h with ⟨h | ⟨o, h⟩, _⟩ | ⟨o, its, n, h, c, _⟩
      · exact .base (.tup h)
      · exact .fTuple h
      · exact .kTuple h c
  | @cell a l h =>
    cases rx
    have c := ok.cl a
    rw [h] at c
    obtain ⟨vs, hv, _⟩ := c
    exact .base (.lst hv)
  | ins h => cases rx with | ins h2 n r => exact .base (.ins h2 h.cl h.c1 h.c2 h.c3 h.c4)
  | @cins a C gs h e =>
    cases rx
    have c := ok.cl a
    rw [e] at c
    obtain ⟨dx, fs, hv, _⟩ := c
    exact .base (.ins hv h.cl h.c1 h.c2 h.c3 h.c4)
/-- a type that is known: of what the layer knows, or of an error -/
def TyY (K : PySem.W.Frag) (H : Hp) (v : V) (t : Value) : Prop := TyX K H v t ∨ ∃ (p C dx : Addr) (fs : List (Str × V)), v = .ref p ∧ t = .ref C ∧ H p = some (.ext (ExcAt p C dx)) ∧ H dx = some (.xd fs) ∧ ExcC K C
theorem ty_rep {K : PySem.W.Frag} {Z : Addr → Prop} {S : Store} {H : Hp} {v : V} {x : T} {t : Value} (ok : Ok K Z S H) (rx : Rep K Z S H v x) (h : TyT K S x t) : TyY K H v t := by
  by_cases e : ∃ C gs, x = .exc C gs
  · obtain ⟨C, gs, rfl⟩ := e
    cases h with
    | exc h => cases rx with | exc h1 n hd nd r => exact .inr ⟨_, _, _, _, rfl, rfl, h1, hd, h⟩
  · exact .inl (ty_repX ok rx h fun C gs z => e ⟨C, gs, z⟩)
/-- an error as it stands: the object, its dict -/
theorem exc_inst {pins : List (Addr × Obj)} {σ : L2.St} {H : Hp} {s : Shared} {p C dx : Addr} {fs : List (Str × V)} (I : Inv X pins σ H s) (h : H p = some (.ext (ExcAt p C dx))) (hd : H dx = some (.xd fs)) :
    ∃ (oe od : Obj) (mA : Str → Option Value), PySem.W.InstAt s.heap p oe C (some od) ∧ s.heap.Ns1 dx mA ∧ (∀ f, RelO (fs.lookup f) (mA f)) ∧ (∀ y, PySem.W.lookIn y od = some (mA y)) := by
  obtain ⟨⟨oe, t1, e1, e2, e3, e4⟩, _⟩ := (show ObjOk X.prog X.w H s.heap p (.ext (ExcAt p C dx)) from I.hok p _ h)
  obtain ⟨mA, hns, hr⟩ := (show ObjOk X.prog X.w H s.heap dx (.xd fs) from I.hok dx _ hd)
  obtain ⟨od, ho, hl⟩ := lookIn_ns hns
  exact ⟨oe, od, mA, ⟨e1, e2, by unfold PySem.W.notCls; rw [e4], by rw [e3]; exact ho⟩, hns, hr, hl⟩
theorem kit_ofY {pins : List (Addr × Obj)} {σ : L2.St} {H : Hp} {s : Shared} {x : V} {u t : Value} (I : Inv X pins σ H s) (rx : RelV x u) (ty : TyY X.K H x t) : ∃ P : Heap → Prop, PySem.W.KitX X.K u t P ∧ P s.heap ∧ u ≠ .builtin "__main__.__loader__#opaque" := by
  rcases ty with ty | ⟨p, C, dx, fs, rfl, rfl, h, hd, c⟩
  · exact kit_of I rx ty
  · obtain rfl : u = Value.ref p := rx
    obtain ⟨oe, od, mA, J, _⟩ := exc_inst I h hd
    exact ⟨_, PySem.W.kitx_exc c.cl c.ga c.gg c.exC c.c1 c.c2 c.c3 c.c4, J, fun z => nomatch z⟩
def rIsiY (K : PySem.W.Frag) : List V → Hp → VK → Prop := fun xs H Q => ∃ (x c : V) (t u : Value) (b : Bool), xs = [x, c] ∧ ClsV c u ∧ TyY K H x t ∧ PySem.W.kitOne K t u = some b ∧ Q (.bl b) H
theorem call_isiY : CallR X (.builtin "isinstance") (rIsiY X.K) := by
  intro pins s σ H xs us Q I r h
  obtain ⟨x, c, t, u, b, rfl, k, ty, e, q⟩ := h
  obtain ⟨u1, u2, rfl, r1, r2⟩ := vals2 r
  have e2 := k.eq r2
  subst e2
  obtain ⟨P, Z, p, hx⟩ := kit_ofY I r1 ty
  exact PySem.W.kia_one Z I.kIn p e hx fun tk => ⟨.bl b, H, I.tok tk, rfl, q⟩
def kIsi (K : PySem.W.Frag) : KA := fun xs S R _ => ∃ x c t u b, xs = [x, c] ∧ ClT c u ∧ TyT K S x t ∧ PySem.W.kitOne K t u = some b ∧ R (.bl b) S
theorem cv_isi {K : PySem.W.Frag} : ConvA K E (kIsi K) (rIsiY K) := by
  intro Z xs S vs H R RE Q ok rs ⟨x, c, t, u, b, e, hc, ht, hk, k⟩ po xo
  subst e
  cases rs with
  | cons r rr =>
    cases rr with
    | cons r2 rr =>
      cases rr
      refine ⟨_, _, t, u, b, rfl, ?_, ty_rep ok r ht, hk, po _ _ _ _ k .refl ok (.bl b)⟩
      cases hc with
      | ty n => cases r2; exact .ty n
      | st a => cases r2; exact .own a
end

/-! an own error with one field, made and raised: the class's text, C(e) for L2N, raise C(e) -/
section
open PySem.W PySem.Calls PyProof.Rows PySem.HandSPX
def evArgs (p1 p2 : Pos) : Arguments := { posonlyargs := [], args := [{ arg := "self", annotation := none, pos := p1 }, { arg := "value", annotation := none, pos := p2 }], vararg := none, kwonlyargs := [], kw_defaults := [], kwarg := none, defaults := [] }
def evBody (q1 q2 q3 q4 : Pos) : List Stmt := [.Assign [.Attribute (.Name "self" q1) "value" q2] (.Name "value" q3) q4]
def evScope : Scope := { kind := .function, names := [(PySem.Str.ofString "self", .local), (PySem.Str.ofString "value", .local)], isGenerator := false, isCoroutine := false, more := [] }
/-- what the top says of the class at C and of its __init__ at fI -/
structure EvTxt (K : Frag) (C fI : Addr) (qi : Str) : Prop where
  cls : ∃ nm q N bs bm sn sub ab col dd k0 k1 k2 k3 k5, K.lookup C = some (excClassObj nm q C N bs bm true sn sub ab col dd k0 k1 k2 k3 k5 "ValueError.__new__") ∧ refsVE bm = true
  sa : findIn K (.ref C) "__setattr__" = some (some (.builtin "object.__setattr__"))
  ga : findIn K (.ref C) "__getattribute__" = some (some (.builtin "BaseException.__getattribute__"))
  gg : findIn K (.ref C) "__getattr__" = some none
  noN : findIn K (.ref C) "value" = some none
  iC : findIn K (.ref C) "__init__" = some (some (.ref fI))
  tC : typeIn K (.ref fI) = some (.type "function")
  kC : keepIn K (.ref C) = true
  exC : subIn K (.ref C) (.type "BaseException") = some true
  tyC : typeIn K (.ref C) = some (.type "type")
  hdC : hasDictIn K C = true
  fn : ∃ (oc : Value) (od : Option Addr) (doc pm : Value) (an : Option Addr) (cdv ct : Value) (osl : Array (Option Value)) (p1 p2 q1 q2 q3 q4 : Pos),
    K.lookup fI = some ⟨oc, od, .func (fnOf "__init__" qi (evArgs p1 p2) (evBody q1 q2 q3 q4) evScope .none .none doc pm an cdv ct), osl⟩ ∧ codeIn K cdv qi = true
theorem one_fits (u : Value) : [u].length ≤ sizeLine := by
  show 1 ≤ sizeLine
  rw [sizeLine_eq]
  decide
theorem ev_name {M : Model} {s0 : Shared} {nm : Str} {sc : Scope} {fr a : Addr} {cd : Value} {m : Str → Option Value} {y : Str} {ps : Pos} {u : Value} {Q : Value → Shared → Prop} {A : Around} {E : Value → Shared → Prop} (hns : s0.heap.Ns fr m) (hu : m y = some u) (fin : Q u s0)
    (isf : sc.kind = .function := by rfl) (isl : (envOfC nm sc fr a cd).kindOf y = some .local := by rfl) (dbg : (y == ("__debug__" : Str)) = false := by decide) :
    wpAny M A (eval (.Name y ps) (envOfC nm sc fr a cd)) Q E s0 := wpAny_Name (wpAny_loadName_local isf isl hns hu fin) dbg
/-- what __init__ leaves of the new error at x -/
structure EvEnd (h h' : Heap) (x C dx t1 : Addr) (u : Value) : Prop where
  keep : ∀ b o, b ≠ x → h.get? b = some o → h'.get? b = some o
  obj : h'.get? x = some { cls := .ref C, dict := some dx, data := .fields #[.ref t1, .none, .none, .none, .bool false, .none] }
  dbig : h.objs.size ≤ dx
  dne : dx ≠ x
  ns : h'.Ns1 dx (fun y => if y = "value" then some u else none)
structure EvMade (h h' : Heap) (e C d : Addr) (u : Value) : Prop where
  keep : ∀ b o, h.get? b = some o → h'.get? b = some o
  new : h.objs.size ≤ e
  obj : ∃ oe t1, h'.get? e = some oe ∧ oe.cls = .ref C ∧ oe.dict = some d ∧ oe.data = .fields #[.ref t1, .none, .none, .none, .bool false, .none]
  dbig : h.objs.size ≤ d
  dne : d ≠ e
  ns : h'.Ns1 d (fun y => if y = "value" then some u else none)
section
variable {prog : Program} {w : World} {A : Around} {E : Value → Shared → Prop} {R : Result → Shared → Prop} {s0 : Shared} {K : Frag} {C fI : Addr} {qi : Str}
theorem ev_init (Z : EvTxt K C fI qi) {x t0 : Addr} {u : Value} (inK : K.In s0.heap) (lim : s0.heap.NoLimit) (hx : s0.heap.get? x = some (excO C t0)) (room : A.depth < recursionLimit)
    (fin : ∀ h' tk dx, EvEnd s0.heap h' x C dx t0 u → R (.ok (.ret .none)) { s0 with heap := h', toks := tk }) :
    codeAny (model prog w) A (.call (.ref fI) ⟨[.ref x, u], []⟩) R s0 := by
  obtain ⟨oc, od, doc, pm, an, cdv, ct, osl, p1, p2, q1, q2, q3, q4, lk, code⟩ := Z.fn
  obtain ⟨cn, cq, cN, cb, cm, csn, csb, cab, ccol, cdd, j0, j1, j2, j3, j5, lkC, refs⟩ := Z.cls
  have cdat : clsIn K C = some { name := cn, bases := cb, mro := .ref C :: cm, ns := cN, qualname := cq, hasDict := true, slotNames := csn, subclasses := csb, abstract := cab, collection := ccol, hasDel := false } := by
    unfold clsIn
    rw [lkC] <;> rfl
  refine Att.call_fn (binds := [("self", .ref x), ("value", u)]) inK lim lk code room (BindsTo.of_eq (by first | rfl | with_unfolding_all rfl)) (by first | rfl | decide | with_unfolding_all rfl) (fun s1 inC => ?_) rfl rfl rfl
  obtain ⟨h1, tk1, rfl⟩ := inC.toInCall.same
  have kp : ∀ b o, s0.heap.get? b = some o → h1.get? b = some o := inC.toInCall.keep
  have hns := inC.toInCall.ns
  have inK1 : K.In h1 := inK.keeps kp
  have hx1 := kp _ _ hx
  show wpAny _ _ (execs _ _) _ _ _
  refine wpAny_execs_cons (plainObj_wpAny_Assign_Attribute ?_)
  refine ev_name (u := u) hns (by first | rfl | with_unfolding_all rfl | kernel_rfl) (ev_name (u := .ref x) hns (by first | rfl | with_unfolding_all rfl | kernel_rfl) ?_)
  refine set_plain inK1 (ox := excO C t0) (od := none) ⟨hx1, rfl, rfl, trivial⟩ Z.sa ?_
  refine exc_osa inK1 hx1 cdat (show refsVE (.ref C :: cm) = true from refs) rfl Z.noN (fun h3 tk3 dx kp3 dbig dne hx3 ns3 => ?_)
  show wpAny _ _ (execs _ _) _ _ _
  have lt : s0.heap.objs.size < h1.objs.size := hns.lt
  exact wpAny_execs_nil (fin h3 tk3 dx ⟨fun b o hb e => kp3 b o hb (kp b o e), hx3, Nat.le_of_lt (Nat.lt_of_lt_of_le lt dbig), dne, ns3⟩)
theorem ev_made (Z : EvTxt K C fI qi) {u : Value} (inK : K.In s0.heap) (lim : s0.heap.NoLimit) (room : A.depth + 1 < recursionLimit)
    (fin : ∀ h' tk e d, EvMade s0.heap h' e C d u → R (.ok (.ret (.ref e))) { s0 with heap := h', toks := tk }) :
    codeAny (model prog w) A (.call (.ref C) ⟨[u], []⟩) R s0 := by
  obtain ⟨cn, cq, cN, cb, cm, csn, csb, cab, ccol, cdd, j0, j1, j2, j3, j5, lkC, refs⟩ := Z.cls
  obtain ⟨hp, gn, dr, tk, os⟩ := s0
  have kp : ∀ b o, hp.get? b = some o → ((hp.push (kdv_tup [u])).push (excO C hp.objs.size)).get? b = some o := fun b o e => Heap.get?_push_of_some _ (Heap.get?_push_of_some _ e)
  have got : ((hp.push (kdv_tup [u])).push (excO C hp.objs.size)).get? (hp.objs.size + 1) = some (excO C hp.objs.size) := by heap_get
  refine call_own F.excBase_ValueError (fun Y => refsVE_contains Y cm refs) (inK _ _ lkC) (looks_findIn inK Z.iC) (fun self => bind_fn inK self Z.tC) (one_fits u) ?_
  refine ev_init (s0 := ⟨(hp.push (kdv_tup [u])).push (excO C hp.objs.size), gn, dr, tk, os⟩) Z (inK.keeps kp) (lim.keeps kp) got ?_ fun h' tk' dx made => ?_
  · show A.depth + 1 < recursionLimit
    exact room
  · have old : ∀ b o, hp.get? b = some o → h'.get? b = some o := fun b o e => made.keep b o (Nat.ne_of_lt (Nat.lt_succ_of_lt (Heap.lt_size e))) (kp b o e)
    have far : hp.objs.size + 1 + 1 ≤ dx := by
      have q := made.dbig
      first
        | exact q
        | (rw [Heap.size_push, Heap.size_push] at q; exact q)
        | simpa only [Heap.size_push] using q
    exact ⟨rfl, fin h' tk' (hp.objs.size + 1) dx ⟨old, Nat.le_succ _, ⟨_, _, made.obj, rfl, rfl, rfl⟩, Nat.le_trans (Nat.le_trans (Nat.le_succ _) (Nat.le_succ _)) far, made.dne, made.ns⟩⟩
end
end
theorem relO_ev {v : V} {u : Value} (r : RelV v u) (y : Str) : RelO (List.lookup y [(("value" : Str), v)]) (if y = "value" then some u else none) := by
  by_cases hy : y = "value"
  · subst hy
    rw [if_pos rfl, show List.lookup ("value" : Str) [(("value" : Str), v)] = some v by simp [List.lookup]]
    exact r
  · have ny : (y == ("value" : Str)) = false := by simpa using hy
    rw [if_neg hy, show List.lookup y [(("value" : Str), v)] = none by simp [List.lookup, ny]]
    trivial
section
variable {X : Cx} {C fI : Addr} {qi : Str}
/-- C(e): the error's own dict is new -/
def tEv (C : Addr) (ta : TA) : L2.St → Hp → XK → Prop := fun sl H Q => ta sl H fun vs H1 => ∃ v, vs = [v] ∧ ∀ d, H1 d = none → Q (.ref C) (some d) (upd H1 d (.xd [(("value" : Str), v)]))
theorem pmk_ev {nm : Str} {a : Expr} {ta : TA} {p pos : Pos} {k : Nat} (Z : EvTxt X.K C fI qi) (hm : X.mg nm = some (.ref C)) (room : Room k X.A) (ha : PA X [a] ta) (hg : Gl X nm) (dbg : (nm == ("__debug__" : Str)) = false := by decide)
    (hst : starEach (a :: []) X.env = (false, eval a X.env) :: starEach [] X.env := by rfl) (hpl : (backTo pos (starEach [] X.env)).any (·.1) = false := by rfl) :
    L2N.PMk X (.Call (.Name nm p) [a] [] pos) (tEv C ta) := by
  intro pins st sl H Q inv want
  refine wpAny_Call_Name_kw (ld_glob inv hg hm ?_ dbg)
  refine PySem.W.callWith_K (h₀ := X.base) inv.ok.mod.kin Z.kC (thn (ha.run pos pins st sl H _ inv want) fun us st1 got => ?_) hst hpl
  obtain ⟨vs, H1, inv1, rel, v, ev, q⟩ := got
  subst ev
  refine ⟨inv1.kIn, ?_⟩
  obtain ⟨u, rfl, rv⟩ := vals1 rel
  show wpAny _ _ (call (.ref C) [u]) _ _ _
  have lim := inv1.nolimit
  obtain ⟨hp, gn, dr, tk, os⟩ := st1
  refine wpAny_call (ev_made Z inv1.kIn lim (by have := room.dp; omega) fun h' tk' e d made => ?_)
  show L2N.MkP X pins sl Q (.ref e) ⟨h', gn, dr, tk', os⟩
  obtain ⟨oe, t1, hoe, ec, ed, edat⟩ := made.obj
  obtain ⟨G, g1, g2⟩ := restrict h' fun b => decide (b ≠ e)
  have same : ∀ b, b ≠ e → G.get? b = h'.get? b := fun b hb => g1 b (decide_eq_true hb)
  have gone : G.get? e = none := g2 e (by simp)
  have old : ∀ b o, hp.get? b = some o → G.get? b = some o := fun b o z => (same b (Nat.ne_of_lt (Nat.lt_of_lt_of_le (Heap.lt_size z) made.new))).trans (made.keep b o z)
  have ok : ObjOk X.prog X.w (upd H1 d (.xd [(("value" : Str), v)])) G d (.xd [(("value" : Str), v)]) := ⟨_, made.ns.at fun o z => (same d made.dne).trans z, fun y => relO_ev rv y⟩
  have inv2 : Inv X pins sl (upd H1 d (.xd [(("value" : Str), v)])) ⟨G, gn, dr, tk', os⟩ := inv1.laid (t' := tk') old made.dbig ok
  refine ⟨e, oe, _, ⟨G, gn, dr, tk', os⟩, _, .ref C, some d, rfl, inv2, fun b o z => ?_, gone, hoe, ⟨ec, ed, fun vs hv => ?_⟩, edat, rfl, ?_, rfl, inv1.bare, raises_own Z.exC Z.tyC, q d (inv1.hok.fresh made.dbig)⟩
  · by_cases hb : b = e
    · have z' : G.get? b = some o := z
      rw [hb, gone] at z'
      cases z'
    · exact (same b hb).symm.trans z
  · rw [edat] at hv
    cases hv
    rfl
  · rw [upd_ne (Ne.symm made.dne)]
    exact inv1.hok.fresh made.new
/-- raise C(e) -/
theorem ps_ev {nm : Str} {a : Expr} {ta : TA} {W : WX} {p pos pos2 : Pos} {k : Nat} (calm : X.calm = true) (Z : EvTxt X.K C fI qi) (hm : X.mg nm = some (.ref C)) (room : Room k X.A) (tk : L2N.Takes X W) (ha : PA X [a] ta) (hg : Gl X nm) (dbg : (nm == ("__debug__" : Str)) = false := by decide)
    (hst : starEach (a :: []) X.env = (false, eval a X.env) :: starEach [] X.env := by rfl) (hpl : (backTo pos (starEach [] X.env)).any (·.1) = false := by rfl) :
    PS X (.Raise (some (.Call (.Name nm p) [a] [] pos)) none pos2) (fun _ sl H => tEv C ta sl H fun cls d H' => W cls d sl H') := L2N.ps_raise calm tk (pmk_ev Z hm room ha hg dbg hst hpl)
end


/-! ### places of written sequences -/
section
variable {α : Type} {a0 a1 a2 a3 a4 a5 a6 a7 : α} {l : List α}
theorem at_0 : atI (a0 :: l) 0 = some a0 := by
  unfold atI ixN
  have h : (0 : Int) < (((a0 :: l).length : Nat) : Int) := by simp only [List.length_cons]; omega
  simp [h]
theorem atI_ofNat {xs : List α} {j : Nat} {v : α} (h : xs[j]? = some v) : atI xs (j : Int) = some v := by
  have hl : j < xs.length := (List.getElem?_eq_some_iff.mp h).1
  unfold atI ixN
  have h1 : ((j : Int) < ((xs.length : Nat) : Int)) := by omega
  simp [h1, h]
theorem at_1 : atI (a0 :: a1 :: l) 1 = some a1 := atI_ofNat (j := 1) rfl
theorem at_2 : atI (a0 :: a1 :: a2 :: l) 2 = some a2 := atI_ofNat (j := 2) rfl
theorem at_3 : atI (a0 :: a1 :: a2 :: a3 :: l) 3 = some a3 := atI_ofNat (j := 3) rfl
theorem at_4 : atI (a0 :: a1 :: a2 :: a3 :: a4 :: l) 4 = some a4 := atI_ofNat (j := 4) rfl
theorem at_5 : atI (a0 :: a1 :: a2 :: a3 :: a4 :: a5 :: l) 5 = some a5 := atI_ofNat (j := 5) rfl
theorem at_6 : atI (a0 :: a1 :: a2 :: a3 :: a4 :: a5 :: a6 :: l) 6 = some a6 := atI_ofNat (j := 6) rfl
theorem at_7 : atI (a0 :: a1 :: a2 :: a3 :: a4 :: a5 :: a6 :: a7 :: l) 7 = some a7 := atI_ofNat (j := 7) rfl
end
theorem ix_1_0 : ixN 1 0 = some 0 := by decide
theorem ix_2_0 : ixN 2 0 = some 0 := by decide
theorem ix_2_1 : ixN 2 1 = some 1 := by decide
theorem ix_3_0 : ixN 3 0 = some 0 := by decide
theorem ix_3_1 : ixN 3 1 = some 1 := by decide
theorem ix_3_2 : ixN 3 2 = some 2 := by decide
theorem ix_4_0 : ixN 4 0 = some 0 := by decide
theorem ix_4_1 : ixN 4 1 = some 1 := by decide
theorem ix_4_2 : ixN 4 2 = some 2 := by decide
theorem ix_4_3 : ixN 4 3 = some 3 := by decide
/-! ### the rest of the operators -/
section
variable {X : Cx} {E : XK} {e a b c : Expr} {es : List Expr} {pos : Pos} {ra rb rc : TR} {t : TRA}
theorem op_fdivP : OpR X (binaryOp .FloorDiv) (rI CDivP fun i j => .int (i / j)) := opI fun i j _ _ _ _ _ hc q => by
  have h1 : (0 : Int) < j := hc.1
  refine floordiv_int (by omega) ?_ (.inl hc.2)
  rw [Int.fdiv_eq_ediv_of_nonneg i (by omega)]
  exact q
def rNeg (ra : TR) : TR := fun σ S R RE => ra σ S (fun x S1 => ∃ i, x = .int i ∧ R (.int (-i)) S1) RE
/-! in, not in -/
def flatT : T → Bool
  | .non => true
  | .bl _ => true
  | .int _ => true
  | .str _ => true
  | _ => false
def eqT : T → T → Bool
  | .non, .non => true
  | .bl a, .bl b => a == b
  | .bl a, .int b => (if a then 1 else 0) == b
  | .int a, .bl b => a == (if b then 1 else 0)
  | .int a, .int b => a == b
  | .str a, .str b => a == b
  | _, _ => false
def inT (x : T) (l : List T) : Bool := l.any fun y => eqT y x
def kIn (ng : Bool) : KB := fun x y S R _ => ∃ l, seqOf y = some l ∧ flatT x = true ∧ l.all flatT = true ∧ R (.bl (ng ^^ inT x l)) S
/-! raise C(e) -/
def sRaise (C : Addr) (t : TRA) : TRS := fun D σ S => t σ S (fun xs S1 => ∃ x, xs = [x] ∧ D.ex C [("value", x)] S1) D.ex
theorem ss_raise {C fI : Addr} {qi nm : Str} {p pos2 : Pos} {k : Nat} (Zt : EvTxt X.K C fI qi) (calm : X.calm = true) (hm : X.mg nm = some (.ref C)) (room : Room k X.A) (tk : L2N.Takes X (fun cls d _ H => E cls d H)) (ha : AT X E [a] t) (hg : Gl X nm := by rfl) (dbg : (nm == ("__debug__" : Str)) = false := by decide)
    (hst : starEach (a :: []) X.env = (false, eval a X.env) :: starEach [] X.env := by rfl) (hpl : (backTo pos (starEach [] X.env)).any (·.1) = false := by rfl) : SS X E (.Raise (some (.Call (.Name nm p) [a] [] pos)) none pos2) (sRaise C t) :=
  ⟨ps_weak (ps_ev calm Zt hm room tk ha.pa hg dbg hst hpl) fun D sl H h => by
    obtain ⟨Z, σ, S, DT, fr, ok, w, eo, xo⟩ := h.ex
    refine ⟨Z, σ, S, _, DT.ex, fr, ok, w, fun xs S1 vs H1 k le ok1 rs => ?_, xo⟩
    obtain ⟨x, rfl, k⟩ := k
    cases rs with
    | cons r rr =>
      cases rr
      exact ⟨_, rfl, fun d hd => xo C _ S1 (some d) _ _ k (le.trans (le_new hd)) (ok1.new hd) upd_same (.cons (r.le (le_new hd)) .nil)⟩⟩
end
/-! ### how arguments come -/
structure CallD (K : PySem.W.Frag) (fd : FuncData) (ps : List Str) (dts : List T) : Prop where
  ex : ∃ (ds : List Value) (dvs : List V), Binds K fd ps ds ∧ Vals dvs ds ∧ DefT K dvs dts
theorem CallD.all {K : PySem.W.Frag} {fd : FuncData} {ps : List Str} (b : Binds K fd ps []) : CallD K fd ps [] := ⟨[], [], b, .nil, .nil⟩
/-- k keywords behind n values -/
structure CallB (K : PySem.W.Frag) (fd : FuncData) (ps : List Str) (n : Nat) (ks : List Str) (gT : List T → List T → List T) : Prop where
  ex : ∃ (g : List Value → List Value → List Value) (gV : List V → List V → List V), KBn K fd ps n ks g gV ∧ OrdT K gV gT
def selG {α : Type} (w : Nat) (us its ws : List α) : List α := match w with
  | 0 => us
  | 1 => its
  | _ => ws
def pickG {α : Type} : List (Nat × Nat) → List α → List α → List α → List α
  | [], _, _, _ => []
  | (w, i) :: pk, us, its, ws => match (selG w us its ws)[i]? with
    | some x => x :: pickG pk us its ws
    | none => pickG pk us its ws
theorem valsAt {vs : List V} {us : List Value} (r : Vals vs us) (i : Nat) : (vs[i]? = none ∧ us[i]? = none) ∨ ∃ v u, vs[i]? = some v ∧ us[i]? = some u ∧ RelV v u := by
  induction r generalizing i with
  | nil => exact .inl ⟨rfl, rfl⟩
  | cons a r ih =>
    cases i with
    | zero => exact .inr ⟨_, _, rfl, rfl, a⟩
    | succ i => exact ih i
theorem repsAt {K : PySem.W.Frag} {Z : Addr → Prop} {S : Store} {H : Hp} {vs : List V} {us : List T} (r : Reps K Z S H vs us) (i : Nat) : (vs[i]? = none ∧ us[i]? = none) ∨ ∃ v u, vs[i]? = some v ∧ us[i]? = some u ∧ Rep K Z S H v u := by
  induction us generalizing vs i with
  | nil => cases r; exact .inl ⟨rfl, rfl⟩
  | cons u us ih =>
    cases r with
    | cons a r =>
      cases i with
      | zero => exact .inr ⟨_, _, rfl, rfl, a⟩
      | succ i => exact ih r i
theorem pick_vals {vs ds zs : List V} {us its ws : List Value} (r1 : Vals vs us) (r2 : Vals ds its) (r3 : Vals zs ws) : ∀ pk, Vals (pickG pk vs ds zs) (pickG pk us its ws)
  | [] => .nil
  | (w, i) :: pk => by
    have ih := pick_vals r1 r2 r3 pk
    have r : Vals (selG w vs ds zs) (selG w us its ws) := by
      match w with
      | 0 => exact r1
      | 1 => exact r2
      | _ + 2 => exact r3
    unfold pickG
    rcases valsAt r i with ⟨h1, h2⟩ | ⟨v, u, h1, h2, rv⟩
    · rw [h1, h2]; exact ih
    · rw [h1, h2]; exact .cons rv ih
theorem pick_reps {K : PySem.W.Frag} {Z : Addr → Prop} {S : Store} {H : Hp} {vs ds zs : List V} {us its ws : List T} (r1 : Reps K Z S H vs us) (r2 : Reps K Z S H ds its) (r3 : Reps K Z S H zs ws) : ∀ pk, Reps K Z S H (pickG pk vs ds zs) (pickG pk us its ws)
  | [] => .nil
  | (w, i) :: pk => by
    have ih := pick_reps r1 r2 r3 pk
    have r : Reps K Z S H (selG w vs ds zs) (selG w us its ws) := by
      match w with
      | 0 => exact r1
      | 1 => exact r2
      | _ + 2 => exact r3
    unfold pickG
    rcases repsAt r i with ⟨h1, h2⟩ | ⟨v, u, h1, h2, rv⟩
    · rw [h1, h2]; exact ih
    · rw [h1, h2]; exact .cons rv ih
theorem pick_ord {K : PySem.W.Frag} {dvs : List V} {dts : List T} (d : DefT K dvs dts) (pk : List (Nat × Nat)) : OrdT K (fun vs zs => pickG pk vs dvs zs) (fun ts zs => pickG pk ts dts zs) :=
  fun Z S H _ _ _ _ r1 r3 => pick_reps r1 (d Z S H) r3 pk
section
variable {X : Cx} {E : XK} {k n : Nat} {f : Addr} {fd : FuncData} {ps ks : List Str} {sp : SpT} {dts : List T} {x : Str} {p pos : Pos} {e : Expr} {es : List Expr} {kws : List Keyword} {t tk : TRA} {gT : List T → List T → List T}
theorem et_callD (F : FnT X.prog X.w X.K X.mg X.base k f fd ps sp) (gds : X.A.guards = some []) (hr : Room k X.A) (hg : Gl X x) (hm : X.mg x = some (.ref f)) (hk : PySem.W.keepIn X.K (.ref f) = true) (cd : CallD X.K fd ps dts) (hx : Passes (L2N.CX X.prog X.w) X E)
    (ha : AT X E (e :: es) t) (hdb : (x == ("__debug__" : Str)) = false := by decide) (he : starEach (e :: es) X.env = (false, eval e X.env) :: starEach es X.env := by rfl) (hpl : (backTo pos (starEach es X.env)).any (·.1) = false := by rfl) :
    ET X E (.Call (.Name x p) (e :: es) [] pos) (rCall sp dts t) := by
  obtain ⟨ds, dvs, hb, hd, hdt⟩ := cd.ex
  exact et_call F gds hr hg hm hk hb hd hdt hx ha hdb he hpl
theorem et_call0D (F : FnT X.prog X.w X.K X.mg X.base k f fd ps sp) (gds : X.A.guards = some []) (hr : Room k X.A) (hg : Gl X x) (hm : X.mg x = some (.ref f)) (hk : PySem.W.keepIn X.K (.ref f) = true) (cd : CallD X.K fd ps dts) (hx : Passes (L2N.CX X.prog X.w) X E)
    (hdb : (x == ("__debug__" : Str)) = false := by decide) : ET X E (.Call (.Name x p) [] [] pos) (rCall sp dts aNil) := by
  obtain ⟨ds, dvs, hb, hd, hdt⟩ := cd.ex
  exact et_call0 F gds hr hg hm hk hb hd hdt hx hdb
theorem et_callKB (F : FnT X.prog X.w X.K X.mg X.base k f fd ps sp) (gds : X.A.guards = some []) (hr : Room k X.A) (hg : Gl X x) (hm : X.mg x = some (.ref f)) (hk : PySem.W.keepIn X.K (.ref f) = true) (cb : CallB X.K fd ps 0 ks gT) (hx : Passes (L2N.CX X.prog X.w) X E)
    (hkw : KT X E kws tk) (hall : (backToKw pos (keywordEach kws X.env)).all (·.1.isSome) = true := by rfl) (hks : (backToKw pos (keywordEach kws X.env)).filterMap (·.1) = ks := by rfl)
    (hdb : (x == ("__debug__" : Str)) = false := by decide)
    (hpl : ((backTo pos (starEach [] X.env)).any (·.1) || (backToKw pos (keywordEach kws X.env)).any (·.1.isNone)) = false := by rfl) :
    ET X E (.Call (.Name x p) [] kws pos) (rCallN 0 ks.length sp gT aNil tk) := by
  obtain ⟨g, gV, hb, ho⟩ := cb.ex
  exact et_callK F gds hr hg hm hk hb ho hx hkw hall hks hdb hpl
end

/-! ### instances -/
def insOf : T → Store → Option (Addr × List (Str × T))
  | .ins C gs, _ => some (C, gs)
  | .cell a, S => match S a with
    | some (.ins C gs) => some (C, gs)
    | _ => none
  | _, _ => none
def putT (f : Str) (t : T) : List (Str × T) → List (Str × T)
  | [] => [(f, t)]
  | (g, x) :: r => if g = f then (g, t) :: r else (g, x) :: putT f t r
section
variable {K : PySem.W.Frag} {Z : Addr → Prop} {S S1 : Store} {H H1 : Hp}
theorem RepF.put {fs : List (Str × V)} {gs : List (Str × T)} {f : Str} {v : V} {t : T} (r : RepF K Z S H fs gs) (h : Rep K Z S H v t) : RepF K Z S H (putF f v fs) (putT f t gs) := by
  induction gs generalizing fs with
  | nil => cases r; exact .cons h .nil
  | cons g gs ih =>
    cases r with
    | @cons n w u vs ts q r =>
      unfold putF putT
      by_cases e : n = f
      · rw [if_pos e, if_pos e]; exact .cons h r
      · rw [if_neg e, if_neg e]; exact .cons q (ih r)
end
/-- what the class at C says of an attribute of its instances -/
structure InF (K : PySem.W.Frag) (C : Addr) (f : Str) : Prop where
  cl : Cls K C
  na : NoAttr K C f
/-- .. of a constant of its own -/
structure InC (K : PySem.W.Frag) (C : Addr) (f : Str) (t : T) : Prop where
  cl : Cls K C
  ex : ∃ v u, Con K C f v u ∧ ∀ Z S H, Rep K Z S H v t
section
variable {X : Cx} {E : XK} {a e o : Expr} {es : List Expr} {pos apos cpos : Pos} {ra rb : TR} {t tk : TRA} {f m : Str} {C : Addr}
def rFld (K : PySem.W.Frag) (f : Str) (ra : TR) : TR := fun σ S R RE => ra σ S (fun x S1 => ∃ C gs t, insOf x S1 = some (C, gs) ∧ InF K C f ∧ gs.lookup f = some t ∧ R t S1) RE
def rCon (K : PySem.W.Frag) (f : Str) (ra : TR) : TR := fun σ S R RE => ra σ S (fun x S1 => ∃ C gs t, insOf x S1 = some (C, gs) ∧ InC K C f t ∧ gs.lookup f = none ∧ R t S1) RE
/-- o.f = e -/
def sFldT (K : PySem.W.Frag) (f : Str) (rv ra : TR) : TRS := fun D σ S => rv σ S (fun y S1 => ra σ S1 (fun x S2 => ∃ a C gs, x = .cell a ∧ S2 a = some (.ins C gs) ∧ InF K C f ∧ gs.length < 1000 ∧ D.nx σ (S2.put a (.ins C (putT f y gs)))) D.ex) D.ex
end
/-! ### calls -/
section
variable {X : Cx} {E : XK} {k n : Nat} {f C : Addr} {fd : FuncData} {ps ks : List Str} {sp : SpT} {dts : List T} {x m : Str} {p pos apos : Pos} {e o : Expr} {es : List Expr} {kws : List Keyword} {t tk : TRA} {ra : TR} {gT : List T → List T → List T}
def rMake (C : Addr) (sp : SpT) (dts : List T) (t : TRA) : TR := fun σ S R RE => t σ S (fun xs S1 => ∀ u, S1 u = none → sp (.cell u :: (xs ++ dts)) (S1.put u (.ins C [])) (fun z S2 => z = .non ∧ ∃ gs, S2 u = some (.ins C gs) ∧ R (.ins C gs) (S2.drop u)) RE) RE
/-- with keywords; gT puts the new one and the values in order -/
def rMakeN (C : Addr) (n m : Nat) (sp : SpT) (gT : List T → List T → List T) (t tk : TRA) : TR := fun σ S R RE => t σ S (fun xs S1 => tk σ S1 (fun zs S2 => xs.length = n ∧ zs.length = m ∧
  ∀ u, S2 u = none → sp (gT (.cell u :: xs) zs) (S2.put u (.ins C [])) (fun z S3 => z = .non ∧ ∃ gs, S3 u = some (.ins C gs) ∧ R (.ins C gs) (S3.drop u)) RE) RE) RE
/-! methods; D tells which promise the method has at which class -/
structure MetD (X : Cx) (m : Str) (dts : List T) (D : Addr → SpT → Prop) : Prop where
  at_ : ∀ C sp, D C sp → ∃ k f fd ps, Cls X.K C ∧ Meth X.K C m f ∧ FnT X.prog X.w X.K X.mg X.base k f fd ps sp ∧ Room k X.A ∧ CallD X.K fd ps dts
/-- just one class -/
def one (C : Addr) (sp : SpT) : Addr → SpT → Prop := fun C' sp' => C' = C ∧ sp' = sp
theorem MetD.one (c : Cls X.K C) (hm : Meth X.K C m f) (F : FnT X.prog X.w X.K X.mg X.base k f fd ps sp) (hr : Room k X.A) (cd : CallD X.K fd ps dts) : MetD X m dts (one C sp) := ⟨fun C' sp' ⟨e1, e2⟩ => by
  subst e1 e2
  exact ⟨k, f, fd, ps, c, hm, F, hr, cd⟩⟩
def rMeth (D : Addr → SpT → Prop) (m : Str) (dts : List T) (ra : TR) (t : TRA) : TR := fun σ S R RE => ra σ S (fun x S1 => ∃ C gs sp, insOf x S1 = some (C, gs) ∧ D C sp ∧ gs.lookup m = none ∧ t σ S1 (fun xs S2 => sp (x :: (xs ++ dts)) S2 R RE) RE) RE
variable {D : Addr → SpT → Prop}
/-- .. with keywords alone -/
structure MetB (X : Cx) (m : Str) (ks : List Str) (gT : List T → List T → List T) (D : Addr → SpT → Prop) : Prop where
  at_ : ∀ C sp, D C sp → ∃ k f fd ps, Cls X.K C ∧ Meth X.K C m f ∧ FnT X.prog X.w X.K X.mg X.base k f fd ps sp ∧ Room k X.A ∧ CallB X.K fd ps 1 ks gT
def rMethK (D : Addr → SpT → Prop) (m : Str) (n : Nat) (gT : List T → List T → List T) (ra : TR) (tk : TRA) : TR := fun σ S R RE => ra σ S (fun x S1 => ∃ C gs sp, insOf x S1 = some (C, gs) ∧ D C sp ∧ gs.lookup m = none ∧ tk σ S1 (fun zs S2 => zs.length = n ∧ sp (gT [x] zs) S2 R RE) RE) RE
end

section
variable {X : Cx} {E : XK} {k n : Nat} {f g C q : Addr} {fd : FuncData} {ps ks : List Str} {sp : SpT} {dts : List T} {x m : Str} {p pos apos : Pos} {e o a b : Expr} {es : List Expr} {kws : List Keyword} {t tk : TRA} {ra rb : TR}
/-! ### properties -/
structure PrpD (X : Cx) (m : Str) (D : Addr → SpT → Prop) : Prop where
  at_ : ∀ C sp, D C sp → ∃ k p g fd ps, Cls X.K C ∧ PropOf X.K C m p g ∧ FnT X.prog X.w X.K X.mg X.base k g fd ps sp ∧ Room (k + 1) X.A ∧ Binds X.K fd ps []
theorem PrpD.one (c : Cls X.K C) (hp : PropOf X.K C m q g) (F : FnT X.prog X.w X.K X.mg X.base k g fd ps sp) (hr : Room (k + 1) X.A) (hb : Binds X.K fd ps []) : PrpD X m (one C sp) := ⟨fun C' sp' ⟨e1, e2⟩ => by
  subst e1 e2
  exact ⟨k, q, g, fd, ps, c, hp, F, hr, hb⟩⟩
def rProp (D : Addr → SpT → Prop) (ra : TR) : TR := fun σ S R RE => ra σ S (fun x S1 => ∃ C gs sp, insOf x S1 = some (C, gs) ∧ D C sp ∧ sp [x] S1 R XF) RE
variable {D : Addr → SpT → Prop}
/-! ### C.f(..), f a plain def of the class; C.m(..), m a classmethod -/
def rClsFn (sp : SpT) (dts : List T) (t : TRA) : TR := fun σ S R RE => t σ S (fun xs S1 => sp (xs ++ dts) S1 R RE) RE
end

/-! ### defs with *args alone -/
structure FnS (P : Program) (w : World) (K : PySem.W.Frag) (mg : Str → Option Value) (base : Heap) (k : Nat) (f : Addr) (sp : SpT) : Prop where
  go : ∀ (A : Around) (out : List Env) (s : Shared) (H : Hp) (us : List Value) (vs : List V) (Q : VK) (E : XK), A.guards = some [] → Room k A → Env0 P w K mg base A out s H → Vals vs us → UpF K sp vs H Q E →
    codeAny (model P w) A (.call (.ref f) ⟨us, []⟩) (CR (L2N.CX P w) out P w H s Q E) s
section
variable {P : Program} {w : World} {K : PySem.W.Frag} {mg : Str → Option Value} {base : Heap} {k : Nat} {f : Addr} {fd : FuncData} {sp : SpT}
end
section
variable {X : Cx} {E : XK} {k : Nat} {f : Addr} {sp : SpT} {x : Str} {p pos : Pos} {e : Expr} {es : List Expr} {t : TRA}
def rCallS (sp : SpT) (t : TRA) : TR := fun σ S R RE => t σ S (fun xs S1 => sp xs S1 R RE) RE
end
/-! x * y where x's class has the def and y is of a built-in type, or of that class too -/
section
open PySem.W PySem.Calls PyProof.Rows
variable {prog : Program} {w : World} {A : Around} {E : Value → Shared → Prop} {s : Shared} {K : Frag} {x C L f : Addr} {h₀ : Heap} {m : Str → Option Value} {ox : Obj} {od : Option Obj} {T : String}
end
/-- what the class at C says of its operator -/
structure BinOwn (K : PySem.W.Frag) (C f : Addr) (op : Operator) : Prop where
  first_ : PySem.W.selfFirst K C = true
  at_ : PySem.W.findIn K (.ref C) (PySem.dunder op.info.2) = some (some (.ref f))
  fn : PySem.W.isFn K (.ref f) = true
  right_ : ∃ rc, PySem.W.findIn K (.ref C) (PySem.dunderR op.info.2) = some rc ∧ (rc = none ∨ ∃ g : Addr, rc = some (.ref g))
/-- what a built-in type says of it -/
structure BinTy (K : PySem.W.Frag) (C : Addr) (op : Operator) (T : String) : Prop where
  l : ∃ fo, PySem.W.findIn K (.type T) (PySem.dunder op.info.2) = some fo
  r : ∃ ro, PySem.W.findIn K (.type T) (PySem.dunderR op.info.2) = some ro
  no : PySem.W.subIn K (.type T) (.ref C) = some false
/-- what may stand right of it -/
def BinArg (K : PySem.W.Frag) (C : Addr) (op : Operator) (H : Hp) (y : V) : Prop := (∃ T, TyX K H y (.type T) ∧ BinTy K C op T) ∨ ∃ b dx fs, y = .ref b ∧ H b = some (.ins C dx fs)

/-! ### x * y by the class's own def -/
structure BinT (K : PySem.W.Frag) (C : Addr) (op : Operator) (y : T) (S : Store) : Prop where
  ok : (∃ ty, TyT K S y (.type ty) ∧ BinTy K C op ty) ∨ ∃ gs, insOf y S = some (C, gs)
def rOpOwn (K : PySem.W.Frag) (C : Addr) (op : Operator) (sp : SpT) : KB := fun x y S R RE => (∃ gs, insOf x S = some (C, gs)) ∧ BinT K C op y S ∧ sp [x, y] S (fun z S' => (∃ C' gs', z = .ins C' gs') ∧ R z S') RE
section
variable {X : Cx} {E : XK} {k : Nat} {f C : Addr} {fd : FuncData} {ps ks : List Str} {sp : SpT} {dts : List T} {m : Str} {p pos : Pos} {e a b c : Expr} {gT : List T → List T → List T} {D1 D2 : Addr → SpT → Prop} {ra : TR}
/-! what is never reached -/
def rNo : TR := fun _ _ _ _ => False
def sNo : TRS := fun _ _ _ => False
theorem MetD.or (h1 : MetD X m dts D1) (h2 : MetD X m dts D2) : MetD X m dts (fun C sp => D1 C sp ∨ D2 C sp) := ⟨fun C sp d => d.elim (h1.at_ C sp) (h2.at_ C sp)⟩
theorem MetB.one (c : Cls X.K C) (hm : Meth X.K C m f) (F : FnT X.prog X.w X.K X.mg X.base k f fd ps sp) (hr : Room k X.A) (cb : CallB X.K fd ps 1 ks gT) : MetB X m ks gT (one C sp) := ⟨fun C' sp' ⟨e1, e2⟩ => by
  subst e1 e2
  exact ⟨k, f, fd, ps, c, hm, F, hr, cb⟩⟩
theorem MetB.or (h1 : MetB X m ks gT D1) (h2 : MetB X m ks gT D2) : MetB X m ks gT (fun C sp => D1 C sp ∨ D2 C sp) := ⟨fun C sp d => d.elim (h1.at_ C sp) (h2.at_ C sp)⟩
/-- C.f is the constant t -/
structure CValT (K : PySem.W.Frag) (C : Addr) (f : Str) (t : T) : Prop where
  ex : ∃ v u, ClX.CVal K C (.type "type") f v u ∧ ∀ Z S H, Rep K Z S H v t
/-! the same, the written part named -/
/-! a test that is a conditional expression -/
def bIf (tc ta tb : TRB) : TRB := fun σ S R RE => tc σ S (fun c S1 => if c = true then ta σ S1 R RE else tb σ S1 R RE) RE
end
/-! ### the end -/
section
variable {P : Program} {w : World} {K : PySem.W.Frag} {mg : Str → Option Value} {base : Heap} {k : Nat} {f : Addr} {fd : FuncData} {ps : List Str} {sp : SpT}
/-- a def that lets nothing out, as the end wants it -/
theorem FnT.cx0 (F : FnT P w K mg base k f fd ps sp) : FnG P w K mg base CX0 k f fd ps (fun vs H Q _ => UpF K sp vs H Q EF) := by
  refine ⟨fun vs H Q E h => F.fn.len _ _ _ _ h, fun A out st H as us vs Q E gds hr e0 b r h => ?_⟩
  refine codeAny_mono (F.fn.go A out st H as us vs Q EF gds hr e0 b r h) fun z s' got => ?_
  cases z with
  | error er =>
    obtain ⟨_, _, _, _, _, _, _, _, _, _, _, _, q⟩ := got
    exact q.elim
  | ok fl =>
    cases fl with
    | ret u => exact got
    | next => exact got
    | brk => exact got
    | cont => exact got
end
/-- what a law promises -/
def sp_law : SpT := fun ts S R _ => match ts with
  | [.scr l] => (∃ ns : List Int, l = ns.map T.int ∧ ns.length ≤ 63) ∧ ∀ S', R (.bl true) S'
  | _ => False
theorem reps_ints {K : PySem.W.Frag} {Z : Addr → Prop} {S : Store} {H : Hp} : ∀ ns : List Int, Reps K Z S H (ns.map V.int) (ns.map T.int)
  | [] => .nil
  | n :: ns => .cons (.int n) (reps_ints ns)
theorem roomR {k : Nat} {A : Around} (r : Room k A) : A.units + 70 < cLine := by have := r.un; omega
section
variable {P : Program} {w : World} {K : PySem.W.Frag} {mg : Str → Option Value} {base : Heap} {k : Nat} {f : Addr} {fd : FuncData} {ps : List Str} {sp : SpT}
end
section
variable {K : PySem.W.Frag} {x qual : Str} {st : Stmt} {f : Addr} {fd : FuncData} {ps : List Str} {dvs : List V} {dts : List T} {kws : List (Str × V)}
theorem Fun.cb (F : Fun K x qual st f fd) (n : Nat) (ks : List Str) (pk : List (Nat × Nat))
    (h : ∀ (kV doc pm : Value) (an : Option Addr) (cdv ct : Value) (us ws : List Value), us.length = n → ws.length = ks.length → bindArgs (PySem.W.fnOf x qual (defArgs st) (defBody st) (defScope st) .none kV doc pm an cdv ct) ⟨us, ks.zip ws⟩ = pure (ps.zip (pickG pk us [] ws))) :
    CallB K fd ps n ks (fun ts zs => pickG pk ts [] zs) := by
  obtain ⟨oc, od, kV, doc, pm, an, cdv, ct, osl, e, lk, hcd⟩ := F.ex
  subst e
  exact ⟨fun us ws => pickG pk us [] ws, fun vs zs => pickG pk vs [] zs, ⟨fun s us ws _ l1 l2 => .of_eq (h kV doc pm an cdv ct us ws l1 l2), fun r1 r2 => pick_vals r1 .nil r2 pk⟩, pick_ord DefT.nil pk⟩
theorem FunK.cb (F : FunD K x qual (defArgs st) (defBody st) (defScope st) [] kws f fd) (n : Nat) (ks : List Str) (pk : List (Nat × Nat))
    (h : ∀ (kV doc pm : Value) (an : Option Addr) (cdv ct : Value) (us ws : List Value), us.length = n → ws.length = ks.length → bindArgs (PySem.W.fnOf x qual (defArgs st) (defBody st) (defScope st) .none kV doc pm an cdv ct) ⟨us, ks.zip ws⟩ = pure (ps.zip (pickG pk us [] ws))) :
    CallB K fd ps n ks (fun ts zs => pickG pk ts [] zs) := by
  obtain ⟨oc, od, dV, kV, doc, pm, an, cdv, ct, osl, e, lk, hcd, hD, hK⟩ := F.ex
  subst e
  rcases hD with ⟨_, e⟩ | ⟨e, _⟩
  · subst e
    exact ⟨fun us ws => pickG pk us [] ws, fun vs zs => pickG pk vs [] zs, ⟨fun s us ws _ l1 l2 => .of_eq (h kV doc pm an cdv ct us ws l1 l2), fun r1 r2 => pick_vals r1 .nil r2 pk⟩, pick_ord DefT.nil pk⟩
  · exact absurd rfl e
theorem FunK.cd (F : FunD K x qual (defArgs st) (defBody st) (defScope st) [] kws f fd) (n : Nat) (hk : kws ≠ []) (hn : n + kws.length = ps.length) (d : DefT K (kws.map (·.2)) dts)
    (h : ∀ (D : Addr) (doc pm : Value) (an : Option Addr) (cdv ct : Value) (us ks : List Value), us.length = n → ks.length = kws.length →
      KwChain D ((kws.map (·.1)).zip ks) (bindArgs (PySem.W.fnOf x qual (defArgs st) (defBody st) (defScope st) .none (.ref D) doc pm an cdv ct) ⟨us, []⟩) (ps.zip (us ++ ks))) : CallD K fd ps dts := by
  obtain ⟨ds, r, b⟩ := F.binds0 n hk hn h
  exact ⟨ds, _, b, r, d⟩
theorem FunP.cd (F : FunD K x qual (defArgs st) (defBody st) (defScope st) dvs [] f fd) (n j : Nat) (hd : dvs ≠ []) (hn : n + (dvs.length - j) = ps.length) (d : DefT K (dvs.drop j) dts)
    (h : ∀ (T : Addr) (kV doc pm : Value) (an : Option Addr) (cdv ct : Value) (us its : List Value), us.length = n → its.length = dvs.length →
      ∃ k, bindArgs (PySem.W.fnOf x qual (defArgs st) (defBody st) (defScope st) (.ref T) kV doc pm an cdv ct) ⟨us, []⟩ = seqItems? (.ref T) >>= k ∧ k (some its.toArray) = pure (ps.zip (us ++ its.drop j))) : CallD K fd ps dts := by
  obtain ⟨ds, r, b⟩ := F.binds1 n j hd hn h
  exact ⟨ds, _, b, r, d⟩
theorem FunP.cb (F : FunD K x qual (defArgs st) (defBody st) (defScope st) dvs [] f fd) (n : Nat) (ks : List Str) (pk : List (Nat × Nat)) (hd : dvs ≠ []) (d : DefT K dvs dts)
    (h : ∀ (T : Addr) (kV doc pm : Value) (an : Option Addr) (cdv ct : Value) (us its ws : List Value), us.length = n → its.length = dvs.length → ws.length = ks.length →
      ∃ k, bindArgs (PySem.W.fnOf x qual (defArgs st) (defBody st) (defScope st) (.ref T) kV doc pm an cdv ct) ⟨us, ks.zip ws⟩ = seqItems? (.ref T) >>= k ∧ k (some its.toArray) = pure (ps.zip (pickG pk us its ws))) :
    CallB K fd ps n ks (fun ts zs => pickG pk ts dts zs) := by
  obtain ⟨oc, od, dV, kV, doc, pm, an, cdv, ct, osl, e, lk, hcd, hD, hK⟩ := F.ex
  subst e
  rcases hD with ⟨e, _⟩ | ⟨_, A, o, its, m, e, lT, oT, rT⟩
  · exact absurd e hd
  · subst e
    refine ⟨fun us ws => pickG pk us its ws, fun vs zs => pickG pk vs dvs zs, ⟨fun s us ws inK l1 l2 => ?_, fun r1 r2 => pick_vals r1 rT r2 pk⟩, pick_ord d pk⟩
    obtain ⟨k, e1, e2⟩ := h A kV doc pm an cdv ct us its ws l1 rT.length.symm l2
    refine BindsTo.of_looks fun M => ?_
    rw [e1]
    exact looks_items inK lT oT (.of_pure e2)
end

/-! a != b where the class has an own __eq__ and no own __ne__ -/
namespace NeOwn
open PySem PySem.Calls PyProof.Rows
section
variable {prog : Program} {w : World} {A : Around} {E : Value → Shared → Prop} {s : Shared} {K : PySem.W.Frag} {x C f : Addr} {ox : Obj} {od : Option Obj} {b tb : Value}
/-- the answer of __eq__, turned about -/
def Neg (Q : Value → Shared → Prop) (r : Value) (s' : Shared) : Prop := ∃ c, r = .bool c ∧ Q (.bool (!c)) s'
theorem body {Q : Fin → Shared → Prop} (inK : K.In s.heap) (I : PySem.W.InstAt s.heap x ox C od) (hu : A.units < cLine) (he : PySem.W.findIn K (.ref C) "__eq__" = some (some (.ref f))) (hf : PySem.W.isFn K (.ref f) = true)
    (hc : wpAny (model prog w) A (call (.ref f) [.ref x, b]) (Neg fun r s' => Q (.done (.ret r)) s') E s) : wpAny (model prog w) A (Builtin.«object.__ne__» ⟨[.ref x, b], []⟩) Q E s := by
  unfold Builtin.«object.__ne__»
  repeat (first
    | with_reducible refine wpAny_cRoomFor hu ?_
    | (refine wpAny_bind (m := callSpecialIfBound? (.ref x) (Str.ofString "__eq__") [b]) (PySem.W.ifBound_K inK I he hf (wpAny_mono hc (fun r s' got => by
          obtain ⟨c, rfl, hq⟩ := got
          repeat (first | exact hq | exact wpAny_pure hq | exact wpAny_truthy_bool hq | (refine wpAny_bind (m := truthy (.bool _)) (wpAny_truthy_bool ?_)) | wp_step)) fun _ _ z => z)))
    | wp_step)
theorem slot {args : List Value} {Q : Option Value → Shared → Prop} (inK : K.In s.heap) (I : PySem.W.InstAt s.heap x ox C od) (hs : PySem.W.findIn K (.ref C) "__ne__" = some (some (.builtin "object.__ne__")))
    (hc : wpAny (model prog w) A (call (.builtin "object.__ne__") (.ref x :: args)) (fun r => Q (some r)) E s) : wpAny (model prog w) A (callSpecialIfBound? (.ref x) "__ne__" args) Q E s := by
  simp only [callSpecialIfBound?, bindSpecialIfBound?]
  have last : wpAny (model prog w) A (call (.builtin "object.__ne__") ([.ref x] ++ args) >>= fun r => pure (some r)) Q E s := wpAny_bind (wpAny_mono hc (fun r s' z => wpAny_pure z) fun _ _ z => z)
  have bd := PySem.F.cmp_object.ne.bind (Value.ref x)
  refine wpAny_holding (wpAny_bind (wpAny_bind (wpAny_bind (I.type.here ((PySem.W.looks_findIn inK hs).here (wpAny_bind (wpAny_askSetting (wpAny_ite ?_))))))))
  split
  · exact wpAny_bind (wpAny_of_eq bd (wpAny_pure (by exact last)))
  · exact wpAny_tryCatch (wpAny_bind (wpAny_of_eq bd (wpAny_pure (by exact last))))
end
end NeOwn
/-- an operator's rule told of trees -/
def RK (K : PySem.W.Frag) (E : XK) (k : KB) : R2 := fun v u H Q => ∃ Z x y S R RE, Ok K Z S H ∧ Rep K Z S H v x ∧ Rep K Z S H u y ∧ k x y S R RE ∧ PO K Z S H R Q ∧ XOk K Z S H RE E
/-- what the class at C says of == and != -/
structure EqO (K : PySem.W.Frag) (C f : Addr) : Prop where
  eq : PySem.W.findIn K (.ref C) "__eq__" = some (some (.ref f))
  fn : PySem.W.isFn K (.ref f) = true
  ne : PySem.W.findIn K (.ref C) "__ne__" = some (some (.builtin "object.__ne__"))
  mro : PySem.W.mroIn K C (.type "object") = some true
def kEqOwn (C : Addr) (sp : SpT) (ng : Bool) : KB := fun x y S R RE => (∃ gs, insOf x S = some (C, gs)) ∧ (∃ gs, insOf y S = some (C, gs)) ∧ sp [x, y] S (fun z S' => ∃ c, z = .bl c ∧ R (.bl (ng ^^ c)) S') RE
section
variable {X : Cx} {E : XK} {C f : Addr} {fd : FuncData} {k : Nat} {ps : List Str} {sp : SpT}
end
section
variable {X : Cx} {E : XK} {C : Addr} {x : Str} {p pos : Pos}
/-- a class that is made without an __init__ -/
structure MkP (K : PySem.W.Frag) (D : Addr) : Prop where
  mks : PySem.W.makesIn K D = true
  kp : PySem.W.keepIn K (.ref D) = true
  hi : PySem.W.findIn K (.ref D) "__init__" = some (some (.builtin "object.__init__"))
  mr : PySem.W.mroIn K D (.type "object") = some true
def rMakeP (C : Addr) : TR := fun _ S R _ => R (.ins C []) S
set_option maxHeartbeats 1000000 in
end
section
variable {K : PySem.W.Frag} {x qual : Str} {st : Stmt} {f : Addr} {fd : FuncData} {ps : List Str} {dvs : List V}
/-- a def with defaults, every parameter written -/
theorem FunP.b (F : FunD K x qual (defArgs st) (defBody st) (defScope st) dvs [] f fd) (hd : dvs ≠ [])
    (h : ∀ (T : Addr) (kV doc pm : Value) (an : Option Addr) (cdv ct : Value) (us its : List Value), us.length = ps.length → its.length = dvs.length →
      ∃ k, bindArgs (PySem.W.fnOf x qual (defArgs st) (defBody st) (defScope st) (.ref T) kV doc pm an cdv ct) ⟨us, []⟩ = seqItems? (.ref T) >>= k ∧ k (some its.toArray) = pure (ps.zip us)) : Binds K fd ps [] := by
  obtain ⟨ds, r, b⟩ := F.binds1 (ps := ps) ps.length dvs.length hd (by omega) fun T kV doc pm an cdv ct us its l1 l2 => by
    obtain ⟨k, e1, e2⟩ := h T kV doc pm an cdv ct us its l1 l2
    exact ⟨k, e1, by rw [e2, ← l2, List.drop_length, List.append_nil]⟩
  rw [List.drop_length] at r
  cases r
  exact b
end

/-! a in (b, c), by the class's own __eq__ -/
namespace InOwn
open PySem PySem.Calls PyProof.Rows
section
variable {prog : Program} {w : World} {A : Around} {E : Value → Shared → Prop} {s : Shared} {l x : Addr} {items : Array Value}
theorem body {Q : Fin → Shared → Prop} (hl : IsTup s.heap l items) (I : List Value → Shared → Prop)
    (turn : ∀ y rest s, I (y :: rest) s → wpAny (model prog w) A (eqBool y (.ref x)) (fun r s' => if r = true then Q (.done (.ret (.bool true))) s' else I rest s') E s)
    (fin : ∀ s, I [] s → Q (.done (.ret (.bool false))) s) (h : I items.toList s) : wpAny (model prog w) A (Builtin.«tuple.__contains__» ⟨[.ref l, .ref x], []⟩) Q E s := by
  show wpAny _ _ (Builtin.Tuple.tupleItemsOf (.ref l) >>= _) _ _ s
  refine wpAny_bind (tupleItemsOf_ hl ?_)
  refine wpAny_bind (forIn_array_ _ (fun rest b s' => b.1 = none ∧ I rest s') _ ?_ ?_ items _ ⟨rfl, h⟩)
  · rintro y rest b s' ⟨hb, hI⟩
    refine wpAny_bind (wpAny_mono (turn y rest s' hI) (fun r s2 got => ?_) fun _ _ z => z)
    cases r with
    | true => exact wpAny_bind (wpAny_pure (wpAny_pure (wpAny_pure (by simpa using got))))
    | false => exact wpAny_pure ⟨rfl, by simpa using got⟩
  · rintro ⟨b1, b2⟩ s' ⟨hb, hI⟩
    simp only at hb
    subst hb
    exact wpAny_pure (fin s' hI)
theorem has {Q : Bool → Shared → Prop} (hl : IsTup s.heap l items) (I : List Value → Shared → Prop)
    (turn : ∀ y rest s, I (y :: rest) s → wpAny (model prog w) A.in1 (eqBool y (.ref x)) (fun r s' => if r = true then Q true s' else I rest s') E s)
    (fin : ∀ s, I [] s → Q false s) (h : I items.toList s) : wpAny (model prog w) A (contains (.ref l) (.ref x)) Q E s := by
  unfold contains
  refine wpAny_holding ?_
  refine wpAny_bind (wpAny_specialOf hl.typeIs slot_tuple_contains.lookup ?_)
  rw [if_neg (by decide)]
  exact wpAny_bind (wpAny_callSpecialUnlessNone?_slot (name := Str.ofString "__contains__") hl.typeIs slot_tuple_contains
    (wpAny_call_entry slot_tuple_contains hl.typeIs entry_tuple_contains (body hl I (fun y rest s' z => wpAny_mono (turn y rest s' z) (fun r s2 q => by
      cases r with
      | true => exact ⟨_, rfl, wpAny_truthy_bool (by simpa using q)⟩
      | false => simpa using q) fun _ _ z => z) (fun s' z => ⟨_, rfl, wpAny_truthy_bool (fin s' z)⟩) h) (args_tuple_contains _ _)))
end
end InOwn
/-! x in o by the class's own __contains__ -/
structure InO (K : PySem.W.Frag) (C f : Addr) : Prop where
  at_ : PySem.W.findIn K (.ref C) "__contains__" = some (some (.ref f))
  fn : PySem.W.isFn K (.ref f) = true
def kInOwn (C : Addr) (sp : SpT) (ng : Bool) : KB := fun x y S R RE => (∃ gs, insOf y S = some (C, gs)) ∧ sp [y, x] S (fun z S' => ∃ c, z = .bl c ∧ R (.bl (ng ^^ c)) S') RE
section
variable {X : Cx} {E : XK} {C f : Addr} {fd : FuncData} {k : Nat} {ps : List Str} {sp : SpT}
end
/-! x in (a, b, ..) by the elements' own __eq__; one thing is itself, whatever __eq__ says -/
def inOwnL (C : Addr) (sp : SpT) (x : T) (R : Bool → Store → Prop) (RE : XT) : List T → Store → Prop
  | [], S => R false S
  | y :: ys, S => R true S ∧ (∃ gs, insOf y S = some (C, gs)) ∧ sp [y, x] S (fun z S' => ∃ c, z = .bl c ∧ if c = true then R true S' else inOwnL C sp x R RE ys S') RE
def kInTup (C : Addr) (sp : SpT) : KB := fun x y S R RE => ∃ l, y = .tup l ∧ (∃ gs, x = .ins C gs) ∧ inOwnL C sp x (fun b S' => R (.bl b) S') RE l S
section
variable {X : Cx} {E : XK} {C f : Addr} {fd : FuncData} {k : Nat} {ps : List Str} {sp : SpT}
end

section
variable {X : Cx} {E : XK} {a b c : Expr} {pos : Pos} {t : TRA}
/-! a, b, c = .. -/
def sPar3 (i j l : Nat) (t : TRA) : TRS := fun D σ S => t σ S (fun ts S1 => ∃ x y z, ts = [x, y, z] ∧ D.nx (((σ.set i (some x)).set j (some y)).set l (some z)) S1) D.ex
end

/-! ### f-strings of texts and ints -/
def kFmt : T → Store → (T → Store → Prop) → Prop := fun x S R => match x with
  | .str y => y.length ≤ sizeLine ∧ R (.str y) S
  | .int i => i.natAbs.log2 < 1920 ∧ R (.str (toString i)) S
  | _ => False
def rFmt (ra : TR) : TR := fun σ S R RE => ra σ S (fun x S1 => kFmt x S1 R) RE
section
variable {X : Cx} {E : XK} {e v1 v2 : Expr} {rest : List Expr} {pos : Pos} {ra : TR}
inductive EJ (X : Cx) (E : XK) : List Expr → List TR → Prop where
  | nil : EJ X E [] []
  | cons {e : Expr} {t : TR} {es : List Expr} {ts : List TR} (h : ET X E e t) (r : EJ X E es ts) : EJ X E (e :: es) (t :: ts)
def rJs : List TR → Str → TR
  | [], acc => fun _ S R _ => R (.str acc) S
  | r :: rs, acc => fun σ S R RE => r σ S (fun x S1 => ∃ y : Str, x = .str y ∧ (acc ++ y).length ≤ sizeLine ∧ rJs rs (acc ++ y) σ S1 R RE) RE
theorem EJ.pj {es : List Expr} {ts : List TR} (h : EJ X E es ts) : PJ X es (ts.map fun r => UpE X.K E r) := by
  induction h with
  | nil => exact .nil
  | cons h _ ih => exact .cons h.pe ih
theorem js_up {K : PySem.W.Frag} : ∀ {ts : List TR} {acc : Str} {Z : Addr → Prop} {σ : Fm} {S : Store} {R : T → Store → Prop} {RE : XT} {sl : L2.St} {H : Hp} {Q : VK}, FrR K Z S H sl σ → Ok K Z S H → rJs ts acc σ S R RE → PO K Z S H R Q → XOk K Z S H RE E →
    tJs (ts.map fun r => UpE K E r) acc sl H (fun out H1 => Q (.str out) H1)
  | [], acc, Z, σ, S, R, RE, sl, H, Q, fr, ok, w, po, xo => po _ _ _ _ w .refl ok (.str _)
  | r :: rs, acc, Z, σ, S, R, RE, sl, H, Q, fr, ok, w, po, xo => ⟨Z, σ, S, _, RE, fr, ok, w, fun x S1 v H1 k le ok1 rep => by
    obtain ⟨y, rfl, hy, k⟩ := k
    cases rep
    exact ⟨y, rfl, hy, js_up (fr.le le) ok1 k (po.le le) (xo.le le)⟩, xo⟩
theorem et_joined {ts : List TR} (h : EJ X E (v1 :: v2 :: rest) ts) : ET X E (.JoinedStr (v1 :: v2 :: rest) pos) (rJs ts Str.empty) :=
  ⟨pe_weak (pe_joined h.pj) fun sl H Q ⟨⟨Z, σ, S, R, RE, fr, ok, w, po, xo⟩⟩ => js_up fr ok w po xo⟩
theorem et_joined1 (ha : ET X E e ra) : ET X E (.JoinedStr [e] pos) ra := ⟨pe_joined1 ha.pe⟩
end
/-! ### str(x), repr(x) of an instance whose class has the def -/
structure OwnDef (K : PySem.W.Frag) (C : Addr) (m : Str) (f : Addr) : Prop where
  at_ : PySem.W.findIn K (.ref C) m = some (some (.ref f))
  fn : PySem.W.isFn K (.ref f) = true
structure StrD (X : Cx) (m : Str) (D : Addr → SpT → Prop) : Prop where
  at_ : ∀ C sp, D C sp → ∃ k f fd ps, OwnDef X.K C m f ∧ FnT X.prog X.w X.K X.mg X.base k f fd ps sp ∧ Room (k + 2) X.A ∧ Binds X.K fd ps []
theorem StrD.one {X : Cx} {m : Str} {C f : Addr} {k : Nat} {fd : FuncData} {ps : List Str} {sp : SpT} (o : OwnDef X.K C m f) (F : FnT X.prog X.w X.K X.mg X.base k f fd ps sp) (hr : Room (k + 2) X.A) (hb : Binds X.K fd ps []) : StrD X m (one C sp) := ⟨fun C' sp' ⟨e1, e2⟩ => by
  subst e1 e2
  exact ⟨k, f, fd, ps, o, F, hr, hb⟩⟩
theorem StrD.or {X : Cx} {m : Str} {D1 D2 : Addr → SpT → Prop} (h1 : StrD X m D1) (h2 : StrD X m D2) : StrD X m (fun C sp => D1 C sp ∨ D2 C sp) := ⟨fun C sp d => d.elim (h1.at_ C sp) (h2.at_ C sp)⟩
def RStrD (K : PySem.W.Frag) (D : Addr → SpT → Prop) : List V → Hp → VK → Prop := fun vs H Q => ∃ C sp a dx fs, vs = [.ref a] ∧ H a = some (.ins C dx fs) ∧ D C sp ∧ UpF K sp [.ref a] H (fun v H' => (∃ y, v = .str y) ∧ Q v H') EF
def kStrOwn (D : Addr → SpT → Prop) : KA := fun xs S R _ => ∃ x C gs sp, xs = [x] ∧ insOf x S = some (C, gs) ∧ D C sp ∧ sp [x] S (fun z S' => (∃ y, z = .str y) ∧ R z S') XF
section
variable {X : Cx} {D : Addr → SpT → Prop}
end
/-! ### [..].index(x), flat things -/
def idxT (y : T) : List T → Option Nat
  | [] => none
  | z :: l => if eqT z y = true then some 0 else (idxT y l).map (· + 1)
def rLidx (ra : TR) (t : TRA) : TR := fun σ S R RE => ra σ S (fun x S1 => ∃ l, x = .lst l ∧ t σ S1 (fun xs S2 => ∃ y j, xs = [y] ∧ flatT y = true ∧ l.all flatT = true ∧ idxT y l = some j ∧ R (.int (j : Nat)) S2) RE) RE
section
variable {X : Cx} {E : XK}
end
/-! a + b, a new list that is to change -/
def kAddC : KB := fun x y S R _ => match x, y with
  | .lst a, .lst b => a.length + b.length ≤ sizeLine ∧ ∀ p, S p = none → R (.cell p) (S.put p (.lst (a ++ b)))
  | _, _ => False
/-! ### texts: methods, int(text) -/
def rStr0 (g : Str → T) (ra : TR) : TR := fun σ S R RE => ra σ S (fun x S1 => ∃ a, x = .str a ∧ R (g a) S1) RE
def rPart (ra rb : TR) : TR := fun σ S R RE => ra σ S (fun x S1 => ∃ a, x = .str a ∧ rb σ S1 (fun y S2 => ∃ b, y = .str b ∧ (b.length == 0) = false ∧ a.length ≤ sizeLine ∧ R (.tup [.str (Txt.partition a b).1, .str (Txt.partition a b).2.1, .str (Txt.partition a b).2.2]) S2) RE) RE
def rSplit (ra rb : TR) : TR := fun σ S R RE => ra σ S (fun x S1 => ∃ a, x = .str a ∧ rb σ S1 (fun y S2 => ∃ b, y = .str b ∧ (b.length == 0) = false ∧ a.length + 2 ≤ sizeLine ∧ R (.lst ((Txt.split a b).map .str)) S2) RE) RE
def kIntS : KA := fun xs S R _ => ∃ a n, xs = [.str a] ∧ PySem.intText? a = some n ∧ a.length ≤ 640 ∧ R (.int n) S
theorem reps_str {K : PySem.W.Frag} {Z : Addr → Prop} {S : Store} {H : Hp} : ∀ ys : List Str, Reps K Z S H (ys.map V.str) (ys.map T.str)
  | [] => .nil
  | y :: ys => .cons (.str y) (reps_str ys)
section
variable {X : Cx} {E : XK} {o e : Expr} {apos pos : Pos} {ra rb : TR}
theorem et_str0 {id : String} {name : Str} {g : Str → V} {g' : Str → T} (slot : Slot "str" name id) (ty : typeOf (.builtin id) = pure (.type "method_descriptor")) (rule : MtR X id (fun x xs H Q => ∃ a, x = .str a ∧ xs = [] ∧ True ∧ Q (g a) H))
    (hg : ∀ {Z S H} a, Rep X.K Z S H (g a) (g' a)) (ho : ET X E o ra)
    (hbase : attributeBase o name X.env (eval o X.env) = eval o X.env := by rfl) (hline : (apos.endLine == pos.line) = true := by rfl) : ET X E (.Call (.Attribute o name apos) [] [] pos) (rStr0 g' ra) :=
  ⟨pe_weak (pe_m0 slot ty rule ho.pe hbase hline) fun sl H Q ⟨⟨Z, σ, S, R, RE, fr, ok, w, po, xo⟩⟩ => by
    refine ⟨Z, σ, S, _, RE, fr, ok, w, fun x S1 v H1 k le ok1 rep => ?_, xo⟩
    obtain ⟨a, rfl, k⟩ := k
    cases rep
    exact ⟨⟨_, rfl⟩, _, rfl, rfl, trivial, po _ _ _ _ k le ok1 (hg _)⟩⟩
theorem et_isascii (ho : ET X E o ra) (hbase : attributeBase o "isascii" X.env (eval o X.env) = eval o X.env := by rfl) (hline : (apos.endLine == pos.line) = true := by rfl) :
    ET X E (.Call (.Attribute o "isascii" apos) [] [] pos) (rStr0 (fun a => .bl (Txt.isascii a)) ra) := et_str0 (g := fun a => .bl (Txt.isascii a)) PySem.F.slot_str_isascii PySem.F.type_str_isascii mt_isascii (fun _ => .bl _) ho hbase hline
theorem et_isdigit (ho : ET X E o ra) (hbase : attributeBase o "isdigit" X.env (eval o X.env) = eval o X.env := by rfl) (hline : (apos.endLine == pos.line) = true := by rfl) :
    ET X E (.Call (.Attribute o "isdigit" apos) [] [] pos) (rStr0 (fun a => .bl (Txt.isdigit a)) ra) := et_str0 (g := fun a => .bl (Txt.isdigit a)) PySem.F.slot_str_isdigit PySem.F.type_str_isdigit mt_isdigit (fun _ => .bl _) ho hbase hline
theorem et_partition (ho : ET X E o ra) (he : ET X E e rb) (hs : starEach [e] X.env = [(false, eval e X.env)] := by rfl) (hbase : attributeBase o "partition" X.env (eval o X.env) = eval o X.env := by rfl) (hline : (apos.endLine == pos.line) = true := by rfl) :
    ET X E (.Call (.Attribute o "partition" apos) [e] [] pos) (rPart ra rb) :=
  ⟨pe_weak (pe_partition ho.pe he.pe hs hbase hline) fun sl H Q ⟨⟨Z, σ, S, R, RE, fr, ok, w, po, xo⟩⟩ => by
    refine ⟨Z, σ, S, _, RE, fr, ok, w, fun x S1 v H1 k le ok1 rep => ?_, xo⟩
    obtain ⟨a, rfl, k⟩ := k
    cases rep
    refine ⟨⟨_, rfl⟩, Z, σ, S1, _, RE, fr.le le, ok1, k, fun y S2 u H2 k2 le2 ok2 rep2 => ?_, xo.le le⟩
    obtain ⟨b, rfl, hb, hz, k2⟩ := k2
    cases rep2
    refine ⟨_, _, rfl, rfl, hb, hz, fun p hp => ?_⟩
    exact (po.le le).le le2 _ _ _ _ k2 (le_new hp) (ok2.new hp) (.tupN ok2 hp (.cons (.str _) (.cons (.str _) (.cons (.str _) .nil))))⟩
theorem et_split (ho : ET X E o ra) (he : ET X E e rb) (hs : starEach [e] X.env = [(false, eval e X.env)] := by rfl) (hbase : attributeBase o "split" X.env (eval o X.env) = eval o X.env := by rfl) (hline : (apos.endLine == pos.line) = true := by rfl) :
    ET X E (.Call (.Attribute o "split" apos) [e] [] pos) (rSplit ra rb) :=
  ⟨pe_weak (pe_split ho.pe he.pe hs hbase hline) fun sl H Q ⟨⟨Z, σ, S, R, RE, fr, ok, w, po, xo⟩⟩ => by
    refine ⟨Z, σ, S, _, RE, fr, ok, w, fun x S1 v H1 k le ok1 rep => ?_, xo⟩
    obtain ⟨a, rfl, k⟩ := k
    cases rep
    refine ⟨⟨_, rfl⟩, Z, σ, S1, _, RE, fr.le le, ok1, k, fun y S2 u H2 k2 le2 ok2 rep2 => ?_, xo.le le⟩
    obtain ⟨b, rfl, hb, hz, k2⟩ := k2
    cases rep2
    refine ⟨_, _, rfl, rfl, hb, hz, fun p hp => ?_⟩
    exact (po.le le).le le2 _ _ _ _ k2 (le_new hp) (ok2.new hp) (.lstN ok2 hp (reps_str _))⟩
end
/-! ### x, *xs = a list -/
namespace StarU
open PySem PySem.Spec PySem.Calls PyProof.Rows PySem.W
end StarU
def gStarV (K : PySem.W.Frag) (t : TGs) : TG := fun v σ H Q => ∃ a x xs, v = .ref a ∧ SqL K H a (x :: xs) ∧ xs.length < 16384 ∧ ∀ D, H D = none → t [x, .ref D] σ (upd H D (.lst xs)) Q
section
variable {X : Cx} {E : XK} {pos p1 p2 p3 : Pos} {x y : Str}
def gStarT (gs : TRGs) : TRG := fun t σ S R RE => ∃ a l, t = .lst (a :: l) ∧ l.length < 16384 ∧ gs [a, .lst l] σ S R RE
end
/-! ### a op b op c; the truth of a list -/
section
variable {X : Cx} {E : XK} {a b c : Expr} {pos : Pos} {ra rb rc : TR}
def rChain (k1 k2 : KB) (ra rb rc : TR) : TR := fun σ S R RE => ra σ S (fun x S1 => rb σ S1 (fun y S2 => k1 x y S2 (fun z S3 => ∃ d, z = .bl d ∧ (if d = true then rc σ S3 (fun w S4 => k2 y w S4 R RE) RE else R (.bl false) S3)) RE) RE) RE
def truT : T → Option Bool
  | .bl b => some b
  | .lst l => some (!l.isEmpty)
  | .tup l => some (!l.isEmpty)
  | .non => some false
  | _ => none
def rTru (ra : TR) : TRB := fun σ S R RE => ra σ S (fun x S1 => ∃ d, truT x = some d ∧ R d S1) RE
end

/-! a != b, any type on the right that is no subclass of the left's -/
namespace NeOwn
open PySem PySem.Calls PyProof.Rows
section
variable {prog : Program} {w : World} {A : Around} {E : Value → Shared → Prop} {s : Shared} {K : PySem.W.Frag} {x C f : Addr} {ox : Obj} {od : Option Obj} {b tb : Value}
end
end NeOwn
/-! ### a == b where both sides' classes are of one family, each with an own __eq__ -/
def nfAll (K : PySem.W.Frag) (l : List Addr) : Bool := l.all fun a => l.all fun b => PySem.W.notFirst K a (.ref b)
theorem nfAll.at_ {K : PySem.W.Frag} {l : List Addr} (h : nfAll K l = true) {a b : Addr} (ha : a ∈ l) (hb : b ∈ l) : PySem.W.notFirst K a (.ref b) = true :=
  List.all_eq_true.mp (List.all_eq_true.mp h a ha) b hb
structure EqD (X : Cx) (D : Addr → SpT → Prop) : Prop where
  at_ : ∀ C sp, D C sp → ∃ k f fd ps, EqO X.K C f ∧ FnT X.prog X.w X.K X.mg X.base k f fd ps sp ∧ Room (k + 1) X.A ∧ Binds X.K fd ps []
theorem EqD.one {X : Cx} {C f : Addr} {k : Nat} {fd : FuncData} {ps : List Str} {sp : SpT} (o : EqO X.K C f) (F : FnT X.prog X.w X.K X.mg X.base k f fd ps sp) (hr : Room (k + 1) X.A) (hb : Binds X.K fd ps []) : EqD X (one C sp) := ⟨fun C' sp' ⟨e1, e2⟩ => by
  subst e1 e2
  exact ⟨k, f, fd, ps, o, F, hr, hb⟩⟩
theorem EqD.or {X : Cx} {D1 D2 : Addr → SpT → Prop} (h1 : EqD X D1) (h2 : EqD X D2) : EqD X (fun C sp => D1 C sp ∨ D2 C sp) := ⟨fun C sp d => d.elim (h1.at_ C sp) (h2.at_ C sp)⟩
def kEqOwnD (K : PySem.W.Frag) (D : Addr → SpT → Prop) (l : List Addr) : KB := fun x y S R RE => ∃ C gs sp C' gs', insOf x S = some (C, gs) ∧ insOf y S = some (C', gs') ∧ D C sp ∧ C ∈ l ∧ C' ∈ l ∧ sp [x, y] S (fun z S' => ∃ c, z = .bl c ∧ R (.bl c) S') RE
section
variable {X : Cx} {E : XK} {D : Addr → SpT → Prop} {l : List Addr}
def kNeOwnD (K : PySem.W.Frag) (D : Addr → SpT → Prop) (l : List Addr) : KB := fun x y S R RE => ∃ C gs sp C' gs', insOf x S = some (C, gs) ∧ insOf y S = some (C', gs') ∧ D C sp ∧ C ∈ l ∧ C' ∈ l ∧ sp [x, y] S (fun z S' => ∃ c, z = .bl c ∧ R (.bl (!c)) S') RE
end

/-! for i, x in enumerate(tuple) -/
namespace EnT
open PySem
section
variable {prog : Program} {w : World} {A : Around} {E : Value → Shared → Prop} {s : Shared}
end
end EnT
/-- the tuple at a, each item in a new pair -/
def IteT (K : PySem.W.Frag) (a : Addr) : It :=
  ⟨fun i H => ∃ (xs : List V) (x : V), SqT K H a xs ∧ xs[i]? = some x, fun i H v H' => ∃ T x, v = .ref T ∧ H T = none ∧ H' = upd H T (.tup [.int (i : Nat), x]) ∧ ∀ xs, SqT K H a xs → xs[i]? = some x, fun i H => ∃ xs : List V, SqT K H a xs ∧ xs.length ≤ i⟩
def iEnumV (K : PySem.W.Frag) (ta : TA) : TI := fun σ H R => ta σ H fun vs H1 => ∃ a xs, vs = [.ref a] ∧ SqT K H1 a xs ∧ R (IteT K a) H1
def enumT (ts : List T) : List T := ts.zipIdx.map fun p => T.tup [.int (p.2 : Nat), p.1]
def iEnumT (t : TRA) : TRI := fun σ S R RE => t σ S (fun xs S1 => ∃ ts, xs = [.tup ts] ∧ R (enumT ts) S1) RE
/-! a == b, a != b where the left side's type is built in and declines, and the right side's class has an own __eq__ -/
namespace Refl
open PySem PySem.Calls PyProof.Rows PySem.SeqAt
section
variable {prog : Program} {w : World} {A : Around} {E : Value → Shared → Prop} {s : Shared} {l x : Addr}
end

section
variable {prog : Program} {w : World} {A : Around} {E : Value → Shared → Prop} {s : Shared} {K : PySem.W.Frag} {x C f dx : Addr} {ox : Obj} {od : Option Obj} {v : Value} {T : String}
end
/-! who declines -/
section
variable {prog : Program} {w : World} {A : Around} {E : Value → Shared → Prop} {s : Shared} {x C dx l : Addr} {Q : Option Value → Shared → Prop}
end
end Refl

/-! ### a == b, a != b where one of the two is of a family of classes with own __eq__, the other of the family or of a built-in type -/
def tysR : List String := ["NoneType", "bool", "int", "str", "list", "tuple", "dict"]
def nfF (K : PySem.W.Frag) (l : List Addr) : Bool := (l.all fun a => l.all fun b => PySem.W.notFirst K a (.ref b)) && l.all fun a => tysR.all fun T => PySem.W.notFirst K a (.type T) && (PySem.W.subIn K (.ref a) (.type T) == some false) && (PySem.W.mroIn K a (.type T) == some false)
def InFam (l : List Addr) (tb : Value) : Prop := (∃ C, tb = .ref C ∧ C ∈ l) ∨ ∃ T, tb = .type T ∧ T ∈ tysR
theorem nfF.first {K : PySem.W.Frag} {l : List Addr} {a : Addr} {tb : Value} (h : nfF K l = true) (ha : a ∈ l) (hb : InFam l tb) : PySem.W.notFirst K a tb = true := by
  obtain ⟨h1, h2⟩ := Bool.and_eq_true_iff.mp h
  rcases hb with ⟨b, rfl, hb⟩ | ⟨T, rfl, hT⟩
  · exact List.all_eq_true.mp (List.all_eq_true.mp h1 a ha) b hb
  · exact (Bool.and_eq_true_iff.mp (Bool.and_eq_true_iff.mp (List.all_eq_true.mp (List.all_eq_true.mp h2 a ha) T hT)).1).1
theorem nfF.ty {K : PySem.W.Frag} {l : List Addr} {a : Addr} {T : String} (h : nfF K l = true) (ha : a ∈ l) (hT : T ∈ tysR) : PySem.W.subIn K (.ref a) (.type T) = some false ∧ PySem.W.mroIn K a (.type T) = some false := by
  obtain ⟨h1, h2⟩ := Bool.and_eq_true_iff.mp h
  have q := Bool.and_eq_true_iff.mp (List.all_eq_true.mp (List.all_eq_true.mp h2 a ha) T hT)
  exact ⟨beq_iff_eq.mp (Bool.and_eq_true_iff.mp q.1).2, beq_iff_eq.mp q.2⟩
def kEqFam (K : PySem.W.Frag) (D : Addr → SpT → Prop) (l : List Addr) (ng : Bool) : KB := fun x y S R RE =>
  (∃ C gs sp tb, insOf x S = some (C, gs) ∧ D C sp ∧ C ∈ l ∧ TyT K S y tb ∧ InFam l tb ∧ sp [x, y] S (fun z S' => ∃ c, z = .bl c ∧ R (.bl (ng ^^ c)) S') RE) ∨
  (∃ C gs sp T, insOf y S = some (C, gs) ∧ D C sp ∧ C ∈ l ∧ TyT K S x (.type T) ∧ T ∈ tysR ∧ sp [y, x] S (fun z S' => ∃ c, z = .bl c ∧ R (.bl (ng ^^ c)) S') RE)
section
variable {X : Cx} {E : XK} {D : Addr → SpT → Prop} {l : List Addr}
/-! ### an empty dict -/
def rDct : TR := fun _ S R _ => R .dct S
end
/-! ### defs with self and *args -/
section
variable {P : Program} {w : World} {K : PySem.W.Frag} {mg : Str → Option Value} {base : Heap} {k : Nat} {f : Addr} {fd : FuncData} {sp : SpT}
end
section
variable {X : Cx} {E : XK} {k : Nat} {f C : Addr} {sp : SpT} {x : Str} {p pos : Pos} {e : Expr} {es : List Expr} {t : TRA}
end
/-! ### int(bool), int(int) -/
def kInt1 : KA := fun xs S R _ => match xs with
  | [.int i] => R (.int i) S
  | [.bl b] => R (.int (if b then 1 else 0)) S
  | _ => False
/-! ### C(*xs) -/
section
variable {X : Cx} {E : XK} {k : Nat} {f C : Addr} {sp : SpT} {x : Str} {p p2 pos : Pos} {e a b : Expr} {ra rb : TR}
def rMakeStar (C : Addr) (sp : SpT) (ra : TR) : TR := fun σ S R RE => ra σ S (fun y S1 => ∃ ts, seqOf y = some ts ∧ ∀ u, S1 u = none → sp (.cell u :: ts) (S1.put u (.ins C [])) (fun z S2 => z = .non ∧ ∃ gs, S2 u = some (.ins C gs) ∧ R (.ins C gs) (S2.drop u)) RE) RE
/-! ### t + u, empty ones too -/
def kAddT : KB := fun x y S R _ => ∃ a b, x = .tup a ∧ y = .tup b ∧ a.length + b.length ≤ sizeLine ∧ R (.tup (a ++ b)) S
/-! ### data in a list of data -/
def kInD (ng : Bool) : KB := fun x y S R _ => ∃ d ds, x.dat = some d ∧ y.dat = some (.list ds) ∧ SeqAt.shaped d = true ∧ SeqAt.shaped (.list ds) = true ∧ R (.bl (ng ^^ ds.any fun z => PyData.eqv z d)) S
end
/-! ### x in (a, b, ..), all of a family of classes with own __eq__, whose fields are flat -/
def flatF (gs : List (Str × T)) : Bool := gs.all fun p => flatT p.2
section
variable {K : PySem.W.Frag} {Z : Addr → Prop} {S : Store} {H : Hp}
end
def inFamL (D : Addr → SpT → Prop) (l : List Addr) (x : T) (R : Bool → Store → Prop) (RE : XT) : List T → Store → Prop
  | [], S => R false S
  | y :: ys, S => ∃ C gs sp, y = .ins C gs ∧ flatF gs = true ∧ (y = x → R true S) ∧ D C sp ∧ C ∈ l ∧ sp [y, x] S (fun z S' => ∃ c, z = .bl c ∧ if c = true then R true S' else inFamL D l x R RE ys S') RE
def kInFam (D : Addr → SpT → Prop) (l : List Addr) : KB := fun x y S R RE => ∃ ls C' gx, y = .tup ls ∧ x = .ins C' gx ∧ flatF gx = true ∧ C' ∈ l ∧ inFamL D l x (fun b S' => R (.bl b) S') RE ls S
section
variable {X : Cx} {E : XK} {D : Addr → SpT → Prop} {l : List Addr}
end
/-! ### o[i] by the class's own __getitem__ -/
structure GetO (K : PySem.W.Frag) (C f : Addr) : Prop where
  at_ : PySem.W.findIn K (.ref C) "__getitem__" = some (some (.ref f))
  fn : PySem.W.isFn K (.ref f) = true
  fi : PySem.W.fnIn K f = true
def kIxOwn (C : Addr) (sp : SpT) : KB := fun x y S R RE => (∃ gs, insOf x S = some (C, gs)) ∧ sp [x, y] S R RE
section
variable {X : Cx} {E : XK} {C f : Addr} {fd : FuncData} {k : Nat} {ps : List Str} {sp : SpT} {a b : Expr} {pos : Pos} {ra rb : TR}
end
/-! ### C.f(..), f a static def of the class -/
structure StF (K : PySem.W.Frag) (C f : Addr) (m : Str) : Prop where
  ex : ∃ q rest, PySem.W.findCls K (.ref C) (.type "type") m = some (.get (.builtin "staticmethod.__get__") (.ref q) .none (.ref C)) ∧ PySem.W.recIn K q "staticmethod" = some (.ref f :: rest)
section
variable {X : Cx} {E : XK} {k : Nat} {f C : Addr} {fd : FuncData} {ps : List Str} {sp : SpT} {dts : List T} {x m : Str} {p pos apos : Pos} {e : Expr} {es : List Expr} {t : TRA}
end

/-! t * 1 -/
namespace Mul1
open PySem PySem.Spec PyProof.Rows
set_option maxHeartbeats 4000000 in
def rRep1 (K : PySem.W.Frag) : L2.R2 := fun x y H Q => ∃ l xs, x = .ref l ∧ y = .int 1 ∧ L2.SqT K H l xs ∧ Q (.ref l) H
end Mul1
/-! ### len(o) by the class's own __len__ -/
def RLenOwn (K : PySem.W.Frag) (C : Addr) (sp : SpT) : List V → Hp → VK → Prop := fun vs H Q => ∃ a dx fs, vs = [.ref a] ∧ H a = some (.ins C dx fs) ∧ UpF K sp [.ref a] H (fun v H' => ∃ i, v = .int i ∧ 0 ≤ i ∧ i < 2 ^ 63 ∧ Q (.int i) H') EF
def kLenOwn (C : Addr) (sp : SpT) : KA := fun xs S R _ => ∃ x gs, xs = [x] ∧ insOf x S = some (C, gs) ∧ sp [x] S (fun z S' => ∃ i, z = .int i ∧ 0 ≤ i ∧ i < 2 ^ 63 ∧ R z S') XF
section
variable {X : Cx} {E : XK} {C f : Addr} {fd : FuncData} {k : Nat} {ps : List Str} {sp : SpT}
/-! ### sep.join(texts) -/
def rJoin (ra rb : TR) : TR := fun σ S R RE => ra σ S (fun x S1 => ∃ a, x = .str a ∧ rb σ S1 (fun y S2 => ∃ ys : List Str, seqOf y = some (ys.map T.str) ∧ (ys.map (·.length)).sum + ys.length * a.length ≤ 16777216 ∧ R (.str (Txt.join a ys)) S2) RE) RE
/-! ### t * k, t not empty, k > 0 -/
def kMulT : KB := fun x y S R _ => ∃ a k, x = .tup a ∧ y = .int k ∧ a ≠ [] ∧ 1 ≤ k ∧ k ≤ 1000 ∧ a.length ≤ 1000 ∧ R (.tup (List.replicate k.toNat a).flatten) S
end
/-! ### [.. for a, b in ..] -/
def prF (σ : Fm) (i j : Nat) : T → Fm
  | .tup [a, b] => (σ.set i (some a)).set j (some b)
  | _ => σ
def rLcP (ri : TRI) (i j : Nat) (tt : TRB) (re : TR) : TR := fun σ S R RE => ri σ S (fun ts S1 => (∀ t ∈ ts, ∃ a b, t = .tup [a, b]) ∧ rComp (prF σ i j) tt re ts [] S1 (fun ys S2 => R (.lst ys) S2)) RE
def gPair (K : PySem.W.Frag) (i j : Nat) : TG := gTup K 2 (gCons (gName i) (gCons (gName j) gNil))
/-! zip(tuple, list) -/
namespace ZipM
open PySem
section
variable {prog : Program} {w : World} {A : Around} {E : Value → Shared → Prop} {s : Shared}
end
abbrev mH1 (h : Heap) (l1 : Addr) : Heap := h.push { cls := .type "tuple_iterator", data := .fields #[.ref l1, .int 0 0] }
abbrev mH2 (h : Heap) (l1 l2 : Addr) : Heap := (mH1 h l1).push { cls := .type "list_iterator", data := .fields #[.ref l2, .int 0 0] }
abbrev mH3 (h : Heap) (l1 l2 : Addr) : Heap := (mH2 h l1 l2).push { cls := .type "tuple", data := .seq #[.ref h.objs.size, .ref (mH1 h l1).objs.size] }
abbrev mH4 (h : Heap) (l1 l2 : Addr) : Heap := (mH3 h l1 l2).push { cls := .type "tuple", data := .seq #[.none, .none] }
abbrev mH5 (h : Heap) (l1 l2 : Addr) : Heap := (mH4 h l1 l2).push { cls := .type "zip", data := .fields #[.none, .bool false, .bool false, .ref (mH2 h l1 l2).objs.size, .ref (mH3 h l1 l2).objs.size] }
section
variable {prog : Program} {w : World} {A : Around} {E : Value → Shared → Prop} {s : Shared}
end
end ZipM
/-- the tuple at a and the list at b as they stand at each turn, the items in new pairs -/
def ItzM (K : PySem.W.Frag) (a b : Addr) : It :=
  ⟨fun i H => ∃ (xs ys : List V) (x y : V), SqT K H a xs ∧ SqL K H b ys ∧ xs[i]? = some x ∧ ys[i]? = some y,
    fun i H v H' => ∃ T x y, v = .ref T ∧ H T = none ∧ H' = upd H T (.tup [x, y]) ∧ (∀ xs, SqT K H a xs → xs[i]? = some x) ∧ ∀ ys, SqL K H b ys → ys[i]? = some y,
    fun i H => ∃ xs ys : List V, SqT K H a xs ∧ SqL K H b ys ∧ (xs.length ≤ i ∨ ys.length ≤ i)⟩
def iZipV (K : PySem.W.Frag) (ta : TA) : TI := fun σ H R => ta σ H fun vs H1 => ∃ a b xs ys, vs = [.ref a, .ref b] ∧ SqT K H1 a xs ∧ SqL K H1 b ys ∧ R (ItzM K a b) H1
def zipT : List T → List T → List T
  | a :: as, b :: bs => .tup [a, b] :: zipT as bs
  | _, _ => []
def iZipM (t : TRA) : TRI := fun σ S R RE => t σ S (fun xs S1 => ∃ ts us y, xs = [.tup ts, y] ∧ ((y = .lst us) ∨ y = .scr us) ∧ R (zipT ts us) S1) RE
/-! ### C.m(..), m a classmethod; cls(..), cls a local that holds the class -/
section
variable {X : Cx} {E : XK} {k i : Nat} {f C g p0 : Addr} {fd : FuncData} {ps : List Str} {sp : SpT} {dts : List T} {x m : Str} {p p2 pos apos : Pos} {e o : Expr} {es : List Expr} {t : TRA} {ra : TR}
def rCMeth (C : Addr) (sp : SpT) (t : TRA) : TR := fun σ S R RE => t σ S (fun xs S1 => sp (.st C :: xs) S1 R RE) RE
/-- cls(*xs) -/
def rClsStar (i : Nat) (C : Addr) (sp : SpT) (ra : TR) : TR := fun σ S R RE => σ[i]? = some (some (.st C)) ∧ rMakeStar C sp ra σ S R RE
end

/-! x in a list, element by element; at each turn the list is read anew -/
namespace InLst
open PySem PySem.SeqAt MeetsSeq MeetsSeq2 MeetsSeq3 SeqRoads2 PyProof.Rows
section
variable {prog : Program} {w : World} {A : Around} {R : Result → Shared → Prop}
def Turns (prog : Program) (w : World) (A : Around) (R : Result → Shared → Prop) (l : Addr) (x : Value) (N : Nat) (I : Nat → Shared → Prop) : Prop :=
  ∀ i s, I i s → ∃ (items : Array Value) (n : Nat), s.heap.get? l = some { cls := .type "list", data := .seq items n } ∧ items.size = N ∧
    ∀ h : i < items.size, wpAny (model prog w) A.in1 (eqBool items[i] x) (fun r s' => if r = true then R (.ok (.ret (.bool true))) s' else I (i + 1) s') (fun e s' => R (.error e) s') s
theorem loop (l : Addr) (x : Value) (N : Nat) (I : Nat → Shared → Prop) (hl : Turns prog w A R l x N I) (fin : ∀ s, I N s → R (.ok (.ret (.bool false))) s) (k : Nat) :
    ∀ i : Nat, N - i = k → i ≤ N → ∀ s, I i s → wpAny (model prog w) A.in1 (Builtin.«list.__contains__.loop» ⟨[.ref l, x, rawInt i], []⟩) (GQ.FinOf prog w A R) (fun e s' => R (.error e) s') s := by
  induction k with
  | zero =>
    intro i hk hi s h
    obtain ⟨items, n, h1, hs, _⟩ := hl _ _ h
    have ei : i = N := by omega
    have hR : R (.ok (.ret (.bool false))) s := fin s (ei ▸ h)
    obtain ⟨hp, g, d, tk, os⟩ := s
    wp_walk using PySem.AutoSeq1.wpAny_loadPart' h1
    have hn : items[((i : Nat) : Int).toNat]? = none := by simp; omega
    rw [hn]
    wp_walk
    exact hR
  | succ k ih =>
    intro i hk hi s h
    obtain ⟨items, n, h1, hs, turn⟩ := hl _ _ h
    have hlt : i < items.size := by omega
    have ht := turn hlt
    obtain ⟨hp, g, d, tk, os⟩ := s
    wp_walk using PySem.AutoSeq1.wpAny_loadPart' h1
    have hn : items[((i : Nat) : Int).toNat]? = some items[i] := by simp [hlt]
    rw [hn]
    refine wpAny_bind (wpAny_mono ht (fun r s2 h2 => ?_) fun _ _ q => q)
    cases r with
    | true =>
      rw [if_pos rfl] at h2
      obtain ⟨hp2, g2, d2, tk2, os2⟩ := s2
      wp_walk
      exact h2
    | false =>
      rw [if_neg Bool.false_ne_true] at h2
      have hrec := ih (i + 1) (by omega) (by omega) s2 h2
      have hc : ((i : Int) + 1) = ((i + 1 : Nat) : Int) := by omega
      obtain ⟨hp2, g2, d2, tk2, os2⟩ := s2
      wp_walk
      rw [hc]
      exact ⟨plainId_quiet plain_contains_loop _, codeAny_builtin entry_contains_loop (by
        rw [Around.under_plainId plain_contains_loop _]
        exact hrec)⟩
theorem body (l : Addr) (x : Value) (N : Nat) (I : Nat → Shared → Prop) (hl : Turns prog w A R l x N I) (fin : ∀ s, I N s → R (.ok (.ret (.bool false))) s) {s : Shared} (h : I 0 s) :
    wpAny (model prog w) A.in1 (Builtin.«list.__contains__» ⟨[.ref l, x], []⟩) (GQ.FinOf prog w A R) (fun e s' => R (.error e) s') s := by
  have hrec := loop (A := A) (R := R) l x N I hl fin _ 0 rfl (Nat.zero_le _) s h
  obtain ⟨hp, g, d, tk, os⟩ := s
  wp_walk
  exact ⟨plainId_quiet plain_contains_loop _, codeAny_builtin entry_contains_loop (by
    rw [Around.under_plainId plain_contains_loop _]
    exact hrec)⟩
end
section
variable {prog : Program} {w : World} {A : Around} {E : Value → Shared → Prop} {s : Shared} {l : Addr} {x : Value}
theorem has {N : Nat} {Q : Bool → Shared → Prop} (I : Nat → Shared → Prop) (hl : Turns prog w A (wants (fun r s' => ∃ b, r = .bool b ∧ Q b s') E) l x N I) (fin : ∀ s, I N s → Q false s) (h : I 0 s) : wpAny (model prog w) A (contains (.ref l) x) Q E s := by
  obtain ⟨items, n, h1, _, _⟩ := hl _ _ h
  have hT : s.TypeIs (.ref l) "list" := ⟨_, h1, rfl⟩
  unfold contains
  refine wpAny_holding ?_
  refine wpAny_bind (wpAny_specialOf hT slot_list_contains.lookup ?_)
  rw [if_neg (by decide)]
  refine wpAny_bind (wpAny_callSpecialUnlessNone?_slot (name := Str.ofString "__contains__") hT slot_list_contains ?_)
  refine wpAny_mono (GQ.call_here (Q := fun r s' => ∃ b, r = .bool b ∧ Q b s') slot_list_contains hT entry_list_contains (args_list_contains _ _) ?_) (fun r s' ⟨b, e, q⟩ => ?_) fun _ _ q => q
  · exact body (R := wants (fun r s' => ∃ b, r = .bool b ∧ Q b s') E) l x N I hl (fun s q => ⟨false, rfl, fin s q⟩) h
  · subst e
    exact wpAny_truthy_bool q
end
end InLst
/-! ### None in a list of instances of a family with own __eq__ -/
def nonL (D : Addr → SpT → Prop) (l : List Addr) (R : Bool → Store → Prop) (RE : XT) : List T → Store → Prop
  | [], S => R false S
  | y :: ys, S => ∃ C gs sp, y = .ins C gs ∧ D C sp ∧ C ∈ l ∧ sp [y, .non] S (fun z S' => ∃ c, z = .bl c ∧ if c = true then R true S' else nonL D l R RE ys S') RE
def kNonIn (D : Addr → SpT → Prop) (l : List Addr) : KB := fun x y S R RE => ∃ ls, x = .non ∧ y = .lst ls ∧ nonL D l (fun b S' => R (.bl b) S') RE ls S
section
variable {X : Cx} {E : XK} {D : Addr → SpT → Prop} {l : List Addr}
end

section
variable {X : Cx} {E : XK} {k i : Nat} {f C : Addr} {fd : FuncData} {ps : List Str} {sp : SpT} {dts : List T} {x : Str} {p pos : Pos} {e : Expr} {es : List Expr} {t : TRA}
/-- cls(a, ..) -/
def rClsMake (i : Nat) (C : Addr) (sp : SpT) (dts : List T) (t : TRA) : TR := fun σ S R RE => σ[i]? = some (some (.st C)) ∧ rMake C sp dts t σ S R RE
end
set_option maxHeartbeats 2000000
/-! bool(o) where o's class has a __len__ and no __bool__ -/
namespace TruO
open PySem PySem.Calls PySem.Sem PyProof.Rows Builtin PySem.W
section
variable {prog : Program} {w : World} {A : Around} {E : Value → Shared → Prop} {s : Shared} {K : Frag} {x C L f : Addr} {h₀ : Heap} {m : Str → Option Value} {ox : Obj} {od : Option Obj}
end
end TruO
/-! ### bool(o) by the class's own __len__ -/
def RBoolOwn (K : PySem.W.Frag) (C : Addr) (sp : SpT) : List V → Hp → VK → Prop := fun vs H Q => ∃ a dx fs, vs = [.ref a] ∧ H a = some (.ins C dx fs) ∧ UpF K sp [.ref a] H (fun v H' => ∃ i, v = .int i ∧ 0 ≤ i ∧ i < 2 ^ 63 ∧ Q (.bl (i != 0)) H') EF
def kBoolOwn (C : Addr) (sp : SpT) : KA := fun xs S R _ => ∃ x gs, xs = [x] ∧ insOf x S = some (C, gs) ∧ sp [x] S (fun z S' => ∃ i, z = .int i ∧ 0 ≤ i ∧ i < 2 ^ 63 ∧ R (.bl (i != 0)) S') XF
section
variable {X : Cx} {E : XK} {C f : Addr} {fd : FuncData} {k : Nat} {ps : List Str} {sp : SpT}
end

/-! list(zip(tuple, list)) -/
namespace ZipL
open PySem PySem.Spec PyProof.Rows
section
variable {prog : Program} {w : World} {A : Around} {E : Value → Shared → Prop} {s : Shared}
end
/-- how the zip stands at turn i; S: the list that is filled -/
def Zst (z TI TO i1 i2 a b S : Addr) (i : Nat) (h : Heap) : Prop :=
  IsPair h TI (.ref i1) (.ref i2) ∧ h.IsTupleIter i1 a i ∧ h.IsListIter i2 b i ∧ (∃ o, h.get? TO = some o) ∧
    ((IsZip h z TI TO .none ∧ ∃ x y, IsPair h TO x y) ∨ ∃ T f oT, IsZipHeld h z TI TO T f ∧ h.get? T = some oT ∧ T ≠ z ∧ T ≠ i1 ∧ T ≠ i2 ∧ T ≠ S)
structure ZOff (z TI TO i1 i2 S : Addr) : Prop where
  z : S ≠ z
  TI : S ≠ TI
  TO : S ≠ TO
  i1 : S ≠ i1
  i2 : S ≠ i2
theorem Zst.keep {z TI TO i1 i2 a b S : Addr} {i : Nat} {h h' : Heap} (O : ZOff z TI TO i1 i2 S) (st : Zst z TI TO i1 i2 a b S i h) (k : ∀ c o, c ≠ S → h.get? c = some o → h'.get? c = some o) : Zst z TI TO i1 i2 a b S i h' := by
  obtain ⟨hTI, h1, h2, ⟨oo, ho⟩, hz⟩ := st
  refine ⟨k _ _ O.TI.symm hTI, h1.at fun o e => k _ o O.i1.symm e, h2.at fun o e => k _ o O.i2.symm e, ⟨oo, k _ _ O.TO.symm ho⟩, ?_⟩
  rcases hz with ⟨hz, x, y, hTO⟩ | ⟨T, f, oT, hz, hT, r1, r2, r3, r4⟩
  · exact .inl ⟨k _ _ O.z.symm hz, x, y, k _ _ O.TO.symm hTO⟩
  · exact .inr ⟨T, f, oT, k _ _ O.z.symm hz, k _ _ r4 hT, r1, r2, r3, r4⟩
end ZipL
open ZipL
section
variable {X : Cx} {pins : List (Addr × Obj)} {σ : L2.St} {z TI TO i1 i2 a b S : Addr} {res : Value} {W : Nat → Nat → Hp → Prop} {Q : V → Hp → Prop}
def WStep (K : PySem.W.Frag) (a b S : Addr) (W : Nat → Nat → Hp → Prop) (Q : V → Hp → Prop) : Prop :=
  ∀ i m H, W i m H → ((ItzM K a b).stop i H ∧ Q (.ref S) H) ∨ ((ItzM K a b).go i H ∧ ∃ Nx : Hp → Prop, (∀ H', Nx H' → ∃ m', m' < m ∧ W (i + 1) m' H') ∧
    ∀ x H', (ItzM K a b).yld i H x H' → ∃ acc, H' S = some (.lst acc) ∧ acc.length < sizeLine ∧ Nx (upd H' S (.lst (acc ++ [x]))))
end
def rLzV (K : PySem.W.Frag) (ta : TA) : TE := fun σ H Q => ta σ H fun vs H1 => ∃ a b, vs = [.ref a, .ref b] ∧ (∃ xs, SqT K H1 a xs) ∧ (∃ ys, SqL K H1 b ys) ∧ ∀ D, H1 D = none → ∃ W : Nat → Nat → Hp → Prop, (∃ m, W 0 m (upd H1 D (.lst []))) ∧ WStep K a b D W Q
def rLz (t : TRA) : TR := fun σ S R RE => t σ S (fun xs S1 => ∃ ts us y, xs = [.tup ts, y] ∧ ((y = .lst us) ∨ y = .scr us) ∧ (zipT ts us).length ≤ sizeLine ∧ R (.lst (zipT ts us)) S1) RE
/-! ### repr of None, a bool, an int, a text, or of data -/
inductive ShV : V → T → Str → Prop where
  | non : ShV .non .non "None"
  | bl (b : Bool) : ShV (.bl b) (.bl b) (if b = true then Str.ofString "True" else Str.ofString "False")
  | int {i : Int} (h : i.natAbs < 2 ^ 1900) : ShV (.int i) (.int i) (toString i : String)
  | str {x : Str} (h : (reprText x).length ≤ 16777216) : ShV (.str x) (.str x) (reprText x)
def RReprA (K : PySem.W.Frag) (xs : List V) (H : Hp) (Q : VK) : Prop := RRepr K xs H Q ∨ ∃ (v : V) (x : T) (t : Str), xs = [v] ∧ ShV v x t ∧ Q (.str t) H
def kReprA : KA := fun xs S R RE => kRepr xs S R RE ∨ ∃ (v : V) (x : T) (t : Str), xs = [x] ∧ ShV v x t ∧ R (.str t) S
/-! (a, ..) == (b, ..), the items instances of a family of classes with own __eq__ -/
namespace TupEq
open PySem PySem.SeqAt
open MeetsSeq MeetsSeq2 MeetsSeq3 SeqRoads2
section
variable {prog : Program} {w : World} {A : Around} {R : Result → Shared → Prop}
theorem body (l b : Addr) (items items2 : Array Value) (n n2 : Nat) (dd dd2 : Option Addr) (sl sl2 : Array (Option Value)) (I : List (Value × Value) → Shared → Prop)
    (turn : ∀ x y rest s, I ((x, y) :: rest) s → wpAny (model prog w) A.in1 (eqBool x y) (fun r s' => if r = true then I rest s' else R (.ok (.ret (.bool false))) s') (fun e s' => R (.error e) s') s)
    (fin : ∀ s, I [] s → R (.ok (.ret (.bool (items.size == items2.size)))) s) {s : Shared} (hl1 : s.heap.get? l = some { cls := .type "tuple", dict := dd, data := .seq items n, slots := sl }) (hb1 : s.heap.get? b = some { cls := .type "tuple", dict := dd2, data := .seq items2 n2, slots := sl2 })
    (h : I (items.toList.zip items2.toList) s) :
    wpAny (model prog w) A.in1 (Builtin.«tuple.__eq__» ⟨[.ref l, .ref b], []⟩) (GQ.FinOf prog w A R) (fun e s' => R (.error e) s') s := by
  have f2 := PySem.AutoSeq1.sub_tuple_tuple
  have h0 := h
  obtain ⟨hp, g, d, tk, os⟩ := s
  wp_walk using PySem.AutoSeq1.wpAny_loadPart' hl1, PySem.AutoSeq1.wpAny_loadPart' hb1, wpAny_forIn_list _ (fun rest b s' => b.1 = none ∧ I rest s') _
  case turn =>
    rintro ⟨y, x⟩ rest b s' ⟨hb', hI⟩
    refine wpAny_bind (wpAny_mono (turn y x rest s' hI) (fun r s2 q2 => ?_) fun _ _ x => x)
    cases r with
    | true =>
      rw [if_pos rfl] at q2
      wp_walk
      exact ⟨rfl, q2⟩
    | false =>
      rw [if_neg Bool.false_ne_true] at q2
      wp_walk
      exact q2
  case fin =>
    rintro ⟨b1, b2⟩ s' ⟨hb', hI⟩
    simp only at hb'
    subst hb'
    have hR : R (.ok (.ret (.bool (items.size == items2.size)))) s' := fin s' hI
    wp_walk
    simpa [Builtin.Tuple.tupleCompareSizes] using hR
  case h =>
    exact ⟨rfl, h0⟩
end
section
variable {prog : Program} {w : World} {A : Around} {E : Value → Shared → Prop} {s : Shared}
theorem rc {l b : Addr} {items items2 : Array Value} {Q : Value → Shared → Prop} (hu : A.units < cLine) (I : List (Value × Value) → Shared → Prop)
    (hl : s.heap.IsTuple l items) (hb : s.heap.IsTuple b items2)
    (turn : ∀ x y rest s, I ((x, y) :: rest) s → wpAny (model prog w) A.in1 (eqBool x y) (fun r s' => if r = true then I rest s' else Q (.bool false) s') E s)
    (fin : ∀ s, I [] s → Q (.bool (items.size == items2.size)) s) (h : I (items.toList.zip items2.toList) s) : wpAny (model prog w) A (richCompare .Eq (.ref l) (.ref b)) Q E s := by
  obtain ⟨⟨cls, dd, data, sl⟩, ho, hc, n, hd⟩ := id hl
  obtain ⟨⟨cls2, dd2, data2, sl2⟩, ho2, hc2, n2, hd2⟩ := id hb
  simp only at hc hd hc2 hd2
  subst hc hd hc2 hd2
  refine wpAny_richCompare_same_room (op := .Eq) ⟨_, ho, rfl⟩ ⟨_, ho2, rfl⟩ F.slot_tuple_eq (GQ.call_here F.slot_tuple_eq ⟨_, ho, rfl⟩ F.entry_tuple_eq (F.args_tuple_eq_2 _ _) ?_) hu
  exact body (R := wants (fun v s' => v ≠ .notImplemented ∧ Q v s') E) l b items items2 n n2 dd dd2 sl sl2 I (fun x y rest s z => wpAny_mono (turn x y rest s z) (fun r s' q => by
    cases r with
    | true => simpa using q
    | false => exact ⟨(fun x => nomatch x), by simpa using q⟩) fun _ _ z => z) (fun s' q => ⟨(fun x => nomatch x), fin s' q⟩) ho ho2 h
end
end TupEq
def eqTupL (D : Addr → SpT → Prop) (l : List Addr) (R : Bool → Store → Prop) (RE : XT) (len : Bool) : List T → List T → Store → Prop
  | x :: xs, y :: ys, S => ∃ C gs sp C' hs, x = .ins C gs ∧ y = .ins C' hs ∧ flatF gs = true ∧ flatF hs = true ∧ D C sp ∧ C ∈ l ∧ C' ∈ l ∧ (x = y → eqTupL D l R RE len xs ys S) ∧
      sp [x, y] S (fun z S' => ∃ c, z = .bl c ∧ if c = true then eqTupL D l R RE len xs ys S' else R false S') RE
  | _, _, S => R len S
def kEqTup (D : Addr → SpT → Prop) (l : List Addr) : KB := fun x y S R RE => ∃ xs ys, x = .tup xs ∧ y = .tup ys ∧ eqTupL D l (fun b S' => R (.bl b) S') RE (xs.length == ys.length) xs ys S
section
variable {X : Cx} {E : XK} {D : Addr → SpT → Prop} {l : List Addr}
end

/-! ### xs[::-1] of a list -/
def rRevL (ra : TR) : TR := fun σ S R RE => ra σ S (fun x S1 => ∃ l, (x = .lst l ∨ x = .scr l) ∧ R (.lst l.reverse) S1) RE
namespace KwM
open PySem PySem.Calls PyProof.Rows PySem.W
end KwM
/-! ### C.m(k=..), m a classmethod -/
section
variable {X : Cx} {E : XK} {k : Nat} {C g p0 : Addr} {fd : FuncData} {ps : List Str} {sp : SpT} {ks : List Str} {gT : List T → List T → List T} {x m : Str} {p pos apos : Pos} {kws : List Keyword} {tk : TRA}
def rCMethK (C : Addr) (sp : SpT) (n : Nat) (gT : List T → List T → List T) (tk : TRA) : TR := fun σ S R RE => tk σ S (fun zs S1 => zs.length = n ∧ sp (gT [.st C] zs) S1 R RE) RE
end

/-! ### an error as a value: C(e) of an error's class -/
section
variable {P : Program} {w : World} {H : Hp} {h : Heap} {b : Addr} {u : HO}
end
section
variable {X : Cx} {pins : List (Addr × Obj)} {σ : L2.St} {H : Hp} {s : Shared}
end
section
variable {X : Cx} {E : XK} {C fI : Addr} {qi : Str}
def tExcV (C : Addr) (ta : TA) : TE := fun σ H Q => ta σ H fun vs H1 => ∃ v, vs = [v] ∧ ∀ p d, H1 p = none → H1 d = none → p ≠ d → Q (.ref p) (upd (upd H1 d (.xd [(("value" : Str), v)])) p (.ext (ExcAt p C d)))
def rExcV (C : Addr) (ra : TR) : TR := fun σ S R RE => ra σ S (fun x S1 => ∃ y, [x] = [y] ∧ R (.exc C [(("value" : Str), y)]) S1) RE
end

/-! e == o, e != o: e an error, which knows of no other; o an instance with its own __eq__ -/
namespace ExcEq
open PySem PySem.Calls PyProof.Rows
section
variable {prog : Program} {w : World} {A : Around} {E : Value → Shared → Prop} {s : Shared} {K : PySem.W.Frag} {x e C Ce f : Addr} {ox oe : Obj} {od ode : Option Obj}
end
end ExcEq
/-- what an error's class says of == and != -/
structure ExcQ (K : PySem.W.Frag) (C : Addr) : Prop where
  eq : PySem.W.findIn K (.ref C) "__eq__" = some (some (.builtin "object.__eq__"))
  ne : PySem.W.findIn K (.ref C) "__ne__" = some (some (.builtin "object.__ne__"))
  mro : PySem.W.mroIn K C (.type "object") = some true
def excL (K : PySem.W.Frag) (l : List Addr) (Ce : Addr) : Bool := l.all fun C => (Ce != C) && (PySem.W.subIn K (.ref C) (.ref Ce) == some false)
theorem excL.at_ {K : PySem.W.Frag} {l : List Addr} {Ce C : Addr} (h : excL K l Ce = true) (m : C ∈ l) : Ce ≠ C ∧ PySem.W.subIn K (.ref C) (.ref Ce) = some false := by
  obtain ⟨h1, h2⟩ := Bool.and_eq_true_iff.mp (List.all_eq_true.mp h C m)
  exact ⟨by simpa using h1, beq_iff_eq.mp h2⟩
/-- one of the two of the family; the other of it, of a built-in type, or an error of the class Ce -/
def kEqFamX (K : PySem.W.Frag) (D : Addr → SpT → Prop) (l : List Addr) (Ce : Addr) (ng : Bool) : KB := fun x y S R RE => kEqFam K D (l ++ [Ce]) ng x y S R RE ∨
  ∃ gx C gs sp, x = .exc Ce gx ∧ insOf y S = some (C, gs) ∧ D C sp ∧ C ∈ l ∧ sp [y, x] S (fun z S' => ∃ c, z = .bl c ∧ R (.bl (ng ^^ c)) S') RE
section
variable {X : Cx} {E : XK} {D : Addr → SpT → Prop} {l : List Addr} {Ce : Addr}
end

/-! ### what is known of error classes, asked as one bool each -/
section
variable {K : PySem.W.Frag}
def evB (K : PySem.W.Frag) (C fI : Addr) : Bool := decide (PySem.W.findIn K (.ref C) "__setattr__" = some (some (.builtin "object.__setattr__"))) && decide (PySem.W.findIn K (.ref C) "__getattribute__" = some (some (.builtin "BaseException.__getattribute__"))) && decide (PySem.W.findIn K (.ref C) "__getattr__" = some none) && decide (PySem.W.findIn K (.ref C) "value" = some none)
  && decide (PySem.W.findIn K (.ref C) "__init__" = some (some (.ref fI))) && decide (PySem.W.typeIn K (.ref fI) = some (.type "function")) && PySem.W.keepIn K (.ref C) && decide (PySem.W.subIn K (.ref C) (.type "BaseException") = some true) && decide (PySem.W.typeIn K (.ref C) = some (.type "type")) && PySem.W.hasDictIn K C
section
open PySem.W PySem.Calls PyProof.Rows PySem.HandSPX
/-- the class object of an error, whatever else it says -/
def ExcObj (K : Frag) (C : Addr) : Prop := ∃ nm q N bs bm sn sub ab col dd k0 k1 k2 k3 k5, K.lookup C = some (excClassObj nm q C N bs bm true sn sub ab col dd k0 k1 k2 k3 k5 "ValueError.__new__") ∧ refsVE bm = true
theorem excObj_of {C : Addr} {nm q : Str} {N : Addr} {bs bm : List Value} {sn : List Str} {sub : List Value} {ab : Bool} {col : Option Bool} {dd : Option Addr} {k0 k1 k2 k3 k5 : Option Value}
    (l : K.lookup C = some (excClassObj nm q C N bs bm true sn sub ab col dd k0 k1 k2 k3 k5 "ValueError.__new__")) (v : refsVE bm = true) : ExcObj K C := ⟨_, _, _, _, _, _, _, _, _, _, _, _, _, _, _, l, v⟩
theorem evTxt_of {C fI : Addr} {qi : Str} {oc doc pm cdv ct : Value} {od an : Option Addr} {osl : Array (Option Value)} {p1 p2 q1 q2 q3 q4 : Pos}
    (l : ExcObj K C) (h : evB K C fI = true)
    (lf : K.lookup fI = some ⟨oc, od, .func (PySem.W.fnOf "__init__" qi (evArgs p1 p2) (evBody q1 q2 q3 q4) evScope .none .none doc pm an cdv ct), osl⟩) (cf : PySem.W.codeIn K cdv qi = true) : EvTxt K C fI qi := by
  unfold evB at h
  simp only [Bool.and_eq_true, decide_eq_true_eq] at h
  obtain ⟨⟨⟨⟨⟨⟨⟨⟨⟨h1, h2⟩, h3⟩, h4⟩, h5⟩, h6⟩, h7⟩, h8⟩, h9⟩, h10⟩ := h
  exact { cls := l, sa := h1, ga := h2, gg := h3, noN := h4, iC := h5, tC := h6, kC := h7, exC := h8, tyC := h9, hdC := h10, fn := ⟨_, _, _, _, _, _, _, _, _, _, _, _, _, _, lf, cf⟩ }
end
def excB (K : PySem.W.Frag) (D : Addr) : Bool := (PySem.W.clsIn K D).isSome && decide (PySem.W.findIn K (.ref D) "__getattribute__" = some (some (.builtin "BaseException.__getattribute__"))) && decide (PySem.W.findIn K (.ref D) "__getattr__" = some none) && decide (PySem.W.subIn K (.ref D) (.type "BaseException") = some true) && PySem.W.hasDictIn K D
  && decide (PySem.W.findIn K (.ref D) "__class__" = some (some (.builtin "object.__class__"))) && decide (PySem.W.specialIn K (.builtin "object.__class__") "__get__" = some (some (.builtin "getset_descriptor.__get__"))) && decide (PySem.W.takesIn K (.builtin "object.__class__") = some true) && decide (PySem.W.mroIn K D (.type "object") = some true)
def excQB (K : PySem.W.Frag) (C : Addr) : Bool := decide (PySem.W.findIn K (.ref C) "__eq__" = some (some (.builtin "object.__eq__"))) && decide (PySem.W.findIn K (.ref C) "__ne__" = some (some (.builtin "object.__ne__"))) && decide (PySem.W.mroIn K C (.type "object") = some true)
end

/-! ### t[::-1] of a pair -/

section
variable {prog : Program} {w : World} {A : Around} {E : Value → Shared → Prop} {s : Shared}
theorem rev2_applied {sl : Addr} {u : Tok} {Q : Int × Int × Nat → Shared → Prop} (hs : s.heap.IsSliceOf sl .none .none (.int (-1) u)) (h : Q (1, -1, 2) s) :
    wpAny (model prog w) A (Builtin.Slice.sliceApplied (.ref sl) (pure ((2 : Nat) : Int))) Q E s := by
  obtain ⟨os, e1, e2, e3⟩ := id hs
  unfold Builtin.Slice.sliceApplied Builtin.Slice.sliceFields
  refine wpAny_bind (wpAny_bind (wpAny_field e1 e3 (x := .none) rfl (wpAny_bind (wpAny_field e1 e3 (x := .none) rfl (wpAny_bind (wpAny_field e1 e3 (x := .int (-1) u) rfl (wpAny_pure ?_)))))))
  refine wpAny_bind (slicePart_int ?_)
  show wpAny _ _ (if ((-1 : Int) == 0) = true then _ else _) _ _ s
  rw [if_neg (by decide)]
  refine wpAny_bind (slicePart_none (wpAny_bind (slicePart_none (wpAny_bind (wpAny_pure ?_)))))
  exact wpAny_pure h
theorem rev2_get {t sl : Addr} {a b : Value} {u : Tok} {Q : Value → Shared → Prop} (ht : IsTup s.heap t #[a, b]) (hs : s.heap.IsSliceOf sl .none .none (.int (-1) u))
    (h : Q (.ref s.heap.objs.size) { s with heap := s.heap.push { cls := .type "tuple", data := .seq #[b, a] } }) : wpAny (model prog w) A (getItem (.ref t) (.ref sl)) Q E s := by
  have fits : sizeOk (.seq #[b, a]) := by show (2 : Nat) ≤ sizeLine; rw [sizeLine_eq]; decide
  obtain ⟨os, hos, hcs, hds⟩ := id hs
  have tys : s.TypeIs (.ref sl) "slice" := ⟨os, hos, hcs⟩
  unfold getItem
  try with_reducible refine wpAny_holding ?_
  first | refine wpAny_bind (wpAny_pure ?_) | skip
  refine wpAny_bind (wpAny_sequenceKey ht.typeIs (by decide) ?_)
  refine wpAny_bind (wpAny_callSpecial?_slot (name := Str.ofString "__getitem__") ht.typeIs PyProof.Rows.slot_tuple_getitem (wpAny_call_entry PyProof.Rows.slot_tuple_getitem ht.typeIs entry_tuple_getitem ?_ (args_tuple_getitem _ _)))
  show wpAny _ _ (Builtin.Tuple.tupleItemsOf (.ref t) >>= _) _ _ s
  refine wpAny_bind (PyProof.Rows.tupleItemsOf_ ht ?_)
  refine wpAny_bind (wpAny_typeOf tys ?_)
  rw [if_pos (by decide)]
  refine wpAny_bind (rev2_applied hs ?_)
  show wpAny _ _ (if ((1 : Int) == 0 && (-1 : Int) == 1 && (2 : Nat) == 2) = true then _ else _) _ _ s
  rw [if_neg (by decide)]
  first
    | exact wpAny_bind (m := Builtin.Tuple.tupleExact _) (wpAny_newObj_type (wpAny_pure ⟨_, rfl, wpAny_pure h⟩) fits)
    | exact wpAny_bind (m := Builtin.Tuple.tupleExact _) (wpAny_newObj_type (wpAny_bind (wpAny_pure (wpAny_pure ⟨_, rfl, wpAny_pure h⟩))) fits)
    | exact wpAny_bind (wpAny_bind (m := Builtin.Tuple.tupleExact _) (wpAny_newObj_type (wpAny_pure (wpAny_pure ⟨_, rfl, wpAny_pure h⟩)) fits))
    | exact wpAny_bind (wpAny_bind (m := Builtin.Tuple.tupleExact _) (wpAny_newObj_type (wpAny_pure ⟨_, rfl, wpAny_pure h⟩) fits))
end
structure RRev2 (K : PySem.W.Frag) (x : V) (H : Hp) (Q : VK) : Prop where
  ex : ∃ a v w, x = .ref a ∧ SqT K H a [v, w] ∧ ∀ p, H p = none → Q (.ref p) (upd H p (.tup [w, v]))
def tRev2 (K : PySem.W.Frag) (te : TE) : TE := fun σ H Q => te σ H fun x H1 => RRev2 K x H1 Q
theorem pe_rev2 {X : Cx} {e : Expr} {te : TE} {k : Nat} {p1 p2 p3 pos : Pos} (he : PE X e te) : PE X (.Subscript e (.Slice none none (some (.UnaryOp .USub (.Constant (.int 1) k p1) p2)) p3) pos) (tRev2 X.K te) := by
  constructor
  intro pins s sl H Q inv want
  refine Subscript_ (thn (he.run pins s sl H _ inv want) ?_)
  rintro v s1 ⟨x, H1, inv1, rel, ⟨a, b, c, ex, hx, q⟩⟩
  subst ex
  cases rel
  have step := po_some (X := X) (pe_un (X := X) (pos := p2) un_neg (pe_int (X := X) (i := 1) (j := k) (pos := p1)))
  refine wpAny_Slice (thn (po_none.run pins s1 sl H1 (fun o H2 => o = none ∧ H2 = H1) inv1 ⟨rfl, rfl⟩) ?_)
  rintro vl s2 ⟨l, H2, inv2, pl, el, e2⟩
  subst el e2
  refine thn (po_none.run pins s2 sl H2 (fun o H3 => o = none ∧ H3 = H2) inv2 ⟨rfl, rfl⟩) ?_
  rintro vu s3 ⟨u, H3, inv3, pu, eu, e3⟩
  subst eu e3
  refine thn (step.run pins s3 sl H3 (fun o H4 => o = some (-1) ∧ H4 = H3) inv3 ⟨1, rfl, -1, rfl, rfl, rfl⟩) ?_
  rintro vs s4 ⟨o, H4, inv4, ps, eo, e4⟩
  subst eo e4
  cases pl
  cases pu
  cases ps with
  | int _ tk =>
    have inv5 : Inv X pins sl H4 { s4 with heap := s4.heap.push { cls := .type "slice", data := .fields #[.none, .none, .int (-1) tk] } } := inv4.kept (t' := s4.toks) fun b ob q => Heap.get?_push_of_some _ q
    obtain ⟨its, r, ht, hz⟩ := inv5.tuple hx
    obtain ⟨u1, u2, e5, r1, r2⟩ := vals2 r
    subst e5
    show wpAny (model X.prog X.w) X.A (subscriptTail e (.Slice none none (some (.UnaryOp .USub (.Constant (.int 1) k p1) p2)) p3) (.ref a) (.ref s4.heap.objs.size)) (EP X pins sl Q) X.xe _
    refine tail_any (ops := [.ref a, .ref s4.heap.objs.size]) ht.typeIs (PyProof.Rows.slot_tuple_getitem.lookup) ?_ (by with_unfolding_all rfl)
    refine rev2_get (u := tk) ht (Heap.IsSliceOf.new _ _ _ _) ?_
    refine ⟨.ref _, _, inv5.laid (t' := s4.toks) (o := .tup [c, b]) (fun b ob q => Heap.get?_push_of_some _ q) (Nat.le_refl _) ?_, rfl, q _ (inv5.hok.fresh (Nat.le_refl _))⟩
    refine ⟨by show 2 ≤ sizeLine; rw [sizeLine_eq]; decide, [u2, u1], .cons r2 (.cons r1 .nil), IsTup.new _ _⟩
/-- t[::-1] of a pair -/
def rRev2 (ra : TR) : TR := fun σ S R RE => ra σ S (fun x S1 => ∃ a b, x = .tup [a, b] ∧ R (.tup [b, a]) S1) RE
theorem et_rev2 {X : Cx} {E : XK} {e : Expr} {ra : TR} {k : Nat} {p1 p2 p3 pos : Pos} (ha : ET X E e ra) : ET X E (.Subscript e (.Slice none none (some (.UnaryOp .USub (.Constant (.int 1) k p1) p2)) p3) pos) (rRev2 ra) :=
  ⟨pe_weak (pe_rev2 ha.pe) fun sl H Q ⟨⟨Z, σ, S, R, RE, fr, ok, w, po, xo⟩⟩ => ⟨Z, σ, S, _, RE, fr, ok, w, fun x S1 v H1 k1 le1 ok1 rep => by
    obtain ⟨a, b, rfl, k1⟩ := k1
    cases rep with
    | tup h1 r1 =>
      cases r1 with
      | cons ra r1 => cases r1 with
        | cons rb r1 =>
          cases r1
          exact ⟨_, _, _, rfl, h1.sq, fun p hp => po _ _ _ _ k1 (le1.trans (le_new hp)) (ok1.new hp) (.tupN ok1 hp (.cons rb (.cons ra .nil)))⟩, xo⟩⟩

/-! data with empty dicts in it: what repr shows of it -/
mutual
inductive Dq (K : PySem.W.Frag) (H : Hp) : V → PyData → Prop where
  | non : Dq K H .non .none
  | bl (b : Bool) : Dq K H (.bl b) (.bool b)
  | int (i : Int) : Dq K H (.int i) (.int i)
  | str (x : Str) : Dq K H (.str x) (.str x)
  | dic {a : Addr} (h : H a = some (.dK [])) : Dq K H (.ref a) (.dict [])
  | lst {a : Addr} {xs : List V} {ds : List PyData} (h : H a = some (.lst xs)) (t : DqAll K H xs ds) : Dq K H (.ref a) (.list ds)
  | tup {a : Addr} {xs : List V} {ds : List PyData} (h : SqT K H a xs) (t : DqAll K H xs ds) : Dq K H (.ref a) (.tuple ds)
inductive DqAll (K : PySem.W.Frag) (H : Hp) : List V → List PyData → Prop where
  | nil : DqAll K H [] []
  | cons {v : V} {vs : List V} {d : PyData} {ds : List PyData} (h : Dq K H v d) (t : DqAll K H vs ds) : DqAll K H (v :: vs) (d :: ds)
end
section
variable {X : Cx} {pins : List (Addr × Obj)} {sl : L2.St} {H : Hp} {s : Shared}
theorem reads_dic (inv : Inv X pins sl H s) {a : Addr} (h : H a = some (.dK [])) : Reads s.heap (.ref a) (.dict []) [a] := by
  obtain ⟨_, ns, vs, kv, o, es, ep, h1, h2, h3, h4, h5, h6⟩ := (show ObjOk X.prog X.w H s.heap a (.dK []) from inv.hok a _ h)
  cases kv
  have e0 : es.toList = [] := by
    generalize es.toList = l at h5
    cases h5
    rfl
  have := Reads.dict (h := s.heap) (kvs := []) h1 h2.1 h3 (by rw [e0]; exact .nil) (by rw [e0]; exact .nil)
  simpa using this
mutual
theorem Dq.reads (inv : Inv X pins sl H s) (free : H sysModules = none) : ∀ (d : PyData) (v : V) (u : Value), Dq X.K H v d → RelV v u → ∃ as, Reads s.heap u d as ∧ sysModules ∉ as
  | .none, _, _, h, r => by
    cases h
    cases r
    exact ⟨[], .none, List.not_mem_nil⟩
  | .bool b, _, _, h, r => by
    cases h
    cases r
    exact ⟨[], .bool b, List.not_mem_nil⟩
  | .int i, _, _, h, r => by
    cases h
    obtain ⟨t, rfl⟩ := r
    exact ⟨[], .int i t, List.not_mem_nil⟩
  | .str x, _, _, h, r => by
    cases h
    obtain ⟨t, rfl⟩ := r
    exact ⟨[], .str x t, List.not_mem_nil⟩
  | .list ds, _, _, h, r => by
    cases h with
    | lst a b =>
      cases r
      obtain ⟨its, rv, ⟨o, n, ho, hc, _, hd⟩, _⟩ := inv.list (show SqL X.K H _ _ from SqL.of a)
      obtain ⟨as, rd, no⟩ := DqAll.reads inv free ds _ its b rv
      refine ⟨_, .list ho hc hd rd, fun m => ?_⟩
      rcases List.mem_cons.mp m with e | m
      · rw [← e, free] at a
        cases a
      · exact no m
  | .tuple ds, _, _, h, r => by
    cases h with
    | tup a b =>
      cases r
      obtain ⟨its, rv, ⟨o, ho, hc, n, hd⟩, _⟩ := inv.tuple (show SqT X.K H _ _ from a)
      obtain ⟨as, rd, no⟩ := DqAll.reads inv free ds _ its b rv
      exact ⟨_, .tuple ho hc hd rd, no⟩
  | .dict kvs, _, _, h, r => by
    cases h with
    | dic a =>
      cases r
      refine ⟨_, reads_dic inv a, fun m => ?_⟩
      rw [← List.mem_singleton.mp m, free] at a
      cases a
theorem DqAll.reads (inv : Inv X pins sl H s) (free : H sysModules = none) : ∀ (ds : List PyData) (vs : List V) (us : List Value), DqAll X.K H vs ds → Vals vs us → ∃ as, ReadsAll s.heap us ds as ∧ sysModules ∉ as
  | [], _, _, h, r => by
    cases h
    cases r
    exact ⟨[], .nil, List.not_mem_nil⟩
  | d :: ds, _, _, h, r => by
    cases h with
    | cons a b =>
      cases r with
      | cons r1 r2 =>
        obtain ⟨as, rd, no⟩ := Dq.reads inv free d _ _ a r1
        obtain ⟨bs, rds, nos⟩ := DqAll.reads inv free ds _ _ b r2
        exact ⟨_, .cons rd rds, fun m => (List.mem_append.mp m).elim no nos⟩
end
end
/-- short enough -/
structure Sq (k n : Nat) (d : PyData) : Prop where
  sh : d.showable = true
  dp : d.depth ≤ k
  ln : d.shown.length ≤ n
structure SqA (k n : Nat) (ds : List PyData) : Prop where
  sh : PyData.showableAll ds = true
  dp : PyData.depthAll ds ≤ k
  ln : ((PyData.shownAll ds).map (·.length)).sum + 2 * ds.length ≤ n
theorem Sq.up {j k n m : Nat} {d : PyData} (h : Sq j n d) (le2 : j ≤ k) (le : n ≤ m) : Sq k m d := ⟨h.sh, Nat.le_trans h.dp le2, Nat.le_trans h.ln le⟩
theorem SqA.nil {k : Nat} : SqA k 0 [] := ⟨by simp only [PyData.showableAll], by simp only [PyData.depthAll]; omega, by rw [PyData.shownAll_nil]; exact Nat.le_refl _⟩
theorem SqA.cons {k n m : Nat} {d : PyData} {ds : List PyData} (h : Sq k n d) (t : SqA k m ds) : SqA k (n + m + 2) (d :: ds) := by
  refine ⟨by simp only [PyData.showableAll, h.sh, t.sh, Bool.and_self], ?_, ?_⟩
  · have h1 := h.dp
    have h2 := t.dp
    simp only [PyData.depthAll]
    omega
  · have h1 := h.ln
    have h2 := t.ln
    rw [PyData.shownAll_cons]
    simp only [List.map_cons, List.sum_cons, List.length_cons]
    omega
theorem Sq.lst {k n : Nat} {ds : List PyData} (h : SqA k n ds) : Sq (k + 1) (n + 3) (.list ds) := by
  refine ⟨by simp only [PyData.showable, h.sh], ?_, ?_⟩
  · have := h.dp
    simp only [PyData.depth]
    omega
  · have h1 := h.ln
    have h2 := listText_len_le (PyData.shownAll ds)
    rw [PyData.shownAll_length] at h2
    simp only [PyData.shown]
    omega
theorem Sq.tup {k n : Nat} {ds : List PyData} (h : SqA k n ds) : Sq (k + 1) (n + 3) (.tuple ds) := by
  refine ⟨by simp only [PyData.showable, h.sh], ?_, ?_⟩
  · have := h.dp
    simp only [PyData.depth]
    omega
  · have h1 := h.ln
    have h2 := tupleText_len_le (PyData.shownAll ds)
    rw [PyData.shownAll_length] at h2
    simp only [PyData.shown]
    omega
theorem Sq.dic : Sq 1 2 (.dict []) := ⟨by simp only [PyData.showable, PyData.showableKv], by simp only [PyData.depth, PyData.depthKv]; omega, by decide +kernel⟩
theorem Sq.non : Sq 1 10 .none := ⟨by simp only [PyData.showable], by simp only [PyData.depth]; omega, by decide +kernel⟩
theorem Sq.str {x : Str} {n : Nat} (h : (reprText x).length ≤ n) : Sq 1 n (.str x) := ⟨by simp only [PyData.showable], by simp only [PyData.depth]; omega, by rw [PyData.shown_str]; exact h⟩
/-- what repr shows of such data -/
structure RD (K : PySem.W.Frag) (xs : List V) (H : Hp) (Q : VK) : Prop where
  ex : ∃ (v : V) (d : PyData), xs = [v] ∧ Dq K H v d ∧ Sq 64 16777216 d ∧ Q (.str d.shown) H
theorem RD.mono {K : PySem.W.Frag} (xs : List V) (H : Hp) (Q Q' : VK) (imp : ∀ v H', Q v H' → Q' v H') (h : RD K xs H Q) : RD K xs H Q' := by
  obtain ⟨v, d, e, dq, sq, q⟩ := h.ex
  exact ⟨v, d, e, dq, sq, imp _ _ q⟩
/-! over trees -/
mutual
def T.datD : T → Option PyData
  | .non => some .none
  | .bl b => some (.bool b)
  | .int i => some (.int i)
  | .str z => some (.str z)
  | .dct => some (.dict [])
  | .lst l => (T.datDL l).map .list
  | .tup l => (T.datDL l).map .tuple
  | _ => none
def T.datDL : List T → Option (List PyData)
  | [] => some []
  | t :: ts => match t.datD, T.datDL ts with
    | some d, some ds => some (d :: ds)
    | _, _ => none
end
section
variable {K : PySem.W.Frag} {Z : Addr → Prop} {S : Store} {H : Hp}
mutual
theorem rep_dq : ∀ {v : V} {t : T} {d : PyData}, Rep K Z S H v t → t.datD = some d → Dq K H v d
  | _, _, _, .non, e => by rw [T.datD] at e; cases e; exact .non
  | _, _, _, .bl b, e => by rw [T.datD] at e; cases e; exact .bl b
  | _, _, _, .int i, e => by rw [T.datD] at e; cases e; exact .int i
  | _, _, _, .str z, e => by rw [T.datD] at e; cases e; exact .str z
  | _, _, _, .ty n, e => by simp [T.datD] at e
  | _, _, _, .st a, e => by simp [T.datD] at e
  | _, _, _, .cell a, e => by simp [T.datD] at e
  | _, _, _, .tup h r, e => by
    rw [T.datD] at e
    obtain ⟨ds, e1, rfl⟩ := Option.map_eq_some_iff.mp e
    exact .tup h.sq (reps_dq r e1)
  | _, _, _, .lst h r, e => by
    rw [T.datD] at e
    obtain ⟨ds, e1, rfl⟩ := Option.map_eq_some_iff.mp e
    exact .lst h.1 (reps_dq r e1)
  | _, _, _, .scr h r, e => by simp [T.datD] at e
  | _, _, _, .ins h n r, e => by simp [T.datD] at e
  | _, _, _, .dct h n, e => by rw [T.datD] at e; cases e; exact .dic h
  | _, _, _, .exc h n hd nd r, e => by simp [T.datD] at e
theorem reps_dq : ∀ {vs : List V} {ts : List T} {ds : List PyData}, Reps K Z S H vs ts → T.datDL ts = some ds → DqAll K H vs ds
  | _, _, _, .nil, e => by rw [T.datDL] at e; cases e; exact .nil
  | _, _, _, .cons h r, e => by
    rw [T.datDL] at e
    split at e
    · rename_i d ds e1 e2
      cases e
      exact .cons (rep_dq h e1) (reps_dq r e2)
    · cases e
end
end
def kReprD : List T → Store → (T → Store → Prop) → XT → Prop := fun xs S R _ => ∃ x d, xs = [x] ∧ x.datD = some d ∧ Sq 64 16777216 d ∧ R (.str d.shown) S
/-! calls while an error is handled: p, the error's address and object, stands in the context -/
structure FnP (P : Program) (w : World) (K : PySem.W.Frag) (mg : Str → Option Value) (base : Heap) (CX : CXT) (k : Nat) (f : Addr) (fd : FuncData) (ps : List Str) (sp : Addr × Obj → Sp) : Prop where
  len : ∀ p vs H Q E, sp p vs H Q E → vs.length = ps.length
  go : ∀ (A : Around) (out : List Env) (st : Shared) (H : Hp) (as : Args) (us : List Value) (vs : List V) (Q : VK) (E : XK) (p : Addr × Obj), A.guards = some [] → L2H.RoomH k A → L2H.Hot1 A p → L2H.PinOk out H st p → Env0 P w K mg base A out st H →
    BindsTo st fd as (ps.zip us) → Vals vs us → sp p vs H Q E → codeAny (model P w) A (.call (.ref f) as) (CR CX out P w H st Q E) st
section
variable {P : Program} {w : World} {K : PySem.W.Frag} {mg : Str → Option Value} {base : Heap} {CX : CXT} {k : Nat} {f : Addr} {fd : FuncData} {ps : List Str} {sp : Addr × Obj → Sp}
end
section
variable {X : Cx} {k : Nat} {f : Addr} {fd : FuncData} {ps : List Str} {sp : Addr × Obj → Sp} {x : Str} {p : Addr × Obj} {ep pos : Pos} {e : Expr} {es : List Expr} {t : TA}
end
/-! tuples walked and unpacked while an error is handled -/
section
open HotX
variable {prog : Program} {w : World} {A : Around} {E : Value → Shared → Prop} {s : Shared}
theorem HotAt.ext {x1 b : Addr} {h h' : Heap} (hot : HotAt A x1 h) (e : Heap.ExtBut b h h') (n : x1 ≠ b) : HotAt A x1 h' := by
  obtain ⟨hh, o1, vs1, h1, d1, c1⟩ := hot
  exact ⟨hh, o1, vs1, e x1 o1 n h1, d1, c1⟩
theorem HotAt.lt {x1 : Addr} {h : Heap} (hot : HotAt A x1 h) : x1 < h.objs.size := by
  obtain ⟨_, _, _, h1, _⟩ := hot
  exact Heap.lt_size h1
end
section
open HotX
variable {X : Cx}
end
section
open HotX
variable {X : Cx}
end
/-! ### the tree layer while an error is handled -/
theorem _root_.L2H.RoomH.units {k : Nat} {A : Around} (r : L2H.RoomH k A) : A.units + 64 < cLine := by have := r.un; omega
structure FnPT (P : Program) (w : World) (K : PySem.W.Frag) (mg : Str → Option Value) (base : Heap) (k : Nat) (f : Addr) (fd : FuncData) (ps : List Str) (sp : SpT) : Prop where
  fn : FnP P w K mg base CX0 k f fd ps (fun _ vs H Q _ => UpF K sp vs H Q EF)
section
variable {P : Program} {w : World} {K : PySem.W.Frag} {mg : Str → Option Value} {base : Heap} {k : Nat} {f : Addr} {fd : FuncData} {ps : List Str} {sp : SpT}
end
section
variable {X : Cx} {E : XK} {k : Nat} {f : Addr} {fd : FuncData} {ps : List Str} {sp : SpT} {x : Str} {p : Addr × Obj} {ep pos : Pos} {e a : Expr} {es : List Expr} {t : TRA} {ra : TR}
/-- a walk over a tuple -/
structure IHT (X : Cx) (E : XK) (tg it : Expr) (r : TRI) : Prop where
  pi : L2H.PIH X tg it (UpI X.K E r)
def iSeqH (ra : TR) : TRI := fun σ S R RE => ra σ S (fun t S1 => ∃ ts, t = .tup ts ∧ R ts S1) RE
/-- o.m() by the own def -/
structure MetDH (X : Cx) (m : Str) (D : Addr → SpT → Prop) : Prop where
  at_ : ∀ C sp, D C sp → ∃ k f fd ps, Cls X.K C ∧ Meth X.K C m f ∧ FnPT X.prog X.w X.K X.mg X.base k f fd ps sp ∧ L2H.RoomH k X.A ∧ Binds X.K fd ps []
theorem MetDH.one {C : Addr} {m : Str} (c : Cls X.K C) (hm : Meth X.K C m f) (F : FnPT X.prog X.w X.K X.mg X.base k f fd ps sp) (hr : L2H.RoomH k X.A) (cd : Binds X.K fd ps []) : MetDH X m (one C sp) := ⟨fun C' sp' ⟨e1, e2⟩ => by
  subst e1 e2
  exact ⟨k, f, fd, ps, c, hm, F, hr, cd⟩⟩
theorem MetDH.or {m : Str} {D1 D2 : Addr → SpT → Prop} (h1 : MetDH X m D1) (h2 : MetDH X m D2) : MetDH X m (fun C sp => D1 C sp ∨ D2 C sp) := ⟨fun C sp d => d.elim (h1.at_ C sp) (h2.at_ C sp)⟩
/-- str and repr by the own def -/
structure StrDH (P : Program) (w : World) (K : PySem.W.Frag) (mg : Str → Option Value) (base : Heap) (m : Str) (j : Nat) (D : Addr → SpT → Prop) : Prop where
  at_ : ∀ C sp, D C sp → ∃ k f fd ps, OwnDef K C m f ∧ FnPT P w K mg base k f fd ps sp ∧ k + 2 ≤ j ∧ Binds K fd ps []
theorem StrDH.one {P : Program} {w : World} {K : PySem.W.Frag} {mg : Str → Option Value} {base : Heap} {m : Str} {j : Nat} {C : Addr} (o : OwnDef K C m f) (F : FnPT P w K mg base k f fd ps sp) (hk : k + 2 ≤ j) (hb : Binds K fd ps []) : StrDH P w K mg base m j (one C sp) := ⟨fun C' sp' ⟨e1, e2⟩ => by
  subst e1 e2
  exact ⟨k, f, fd, ps, o, F, hk, hb⟩⟩
theorem StrDH.or {P : Program} {w : World} {K : PySem.W.Frag} {mg : Str → Option Value} {base : Heap} {m : Str} {j : Nat} {D1 D2 : Addr → SpT → Prop} (h1 : StrDH P w K mg base m j D1) (h2 : StrDH P w K mg base m j D2) : StrDH P w K mg base m j (fun C sp => D1 C sp ∨ D2 C sp) := ⟨fun C sp d => d.elim (h1.at_ C sp) (h2.at_ C sp)⟩
theorem StrDH.none {P : Program} {w : World} {K : PySem.W.Frag} {mg : Str → Option Value} {base : Heap} {m : Str} {j : Nat} : StrDH P w K mg base m j (fun _ _ => False) := ⟨fun _ _ d => d.elim⟩
end

/-! the end where defs make lambdas: their tables of code objects are tracked from the start -/
section
variable {P : Program} {w : World} {K : PySem.W.Frag} {mg mb : Str → Option Value} {k : Nat} {fa a : Addr} {fd : FuncData} {x : Str} {sp : Sp} {st : Shared} {vs : List Value} {ns : List Int} {cs : List (Addr × Addr)}
/-- what is known of the heap behind the top -/
structure Rear (K : PySem.W.Frag) (mg mb : Str → Option Value) (cs : List (Addr × Addr)) (h : Heap) : Prop where
  inK : K.In h
  g : h.Ns mainGlobals mg
  b : h.Ns builtinsNs mb
  boot : ∀ x : Str, x ≠ "__name__" → mb x = bootBuiltins x
  lim : h.NoLimit
  mods : ∃ mm, h.Ns sysModules mm
  main : ∃ bm ob, mg "__builtins__" = some (.ref bm) ∧ bm ≠ builtinsNs ∧ h.get? bm = some ob ∧ ob.cls = .type "module" ∧ ob.dict = some builtinsNs ∧ ob.data = .plain
  tab : ∀ p ∈ cs, h.get? p.2 = some { cls := .none, data := .fields #[] }
  head : ∀ p ∈ cs, PySem.W.CodeHd h p.1 p.2
  free : ∀ p ∈ cs, K.lookup p.2 = none
end
/-- the tables that stand -/
def TabsIn (T0 : List (Addr × Str)) (S : Store) : Prop := ∀ a q, S a = some (.tab q) ↔ (a, q) ∈ T0
section
variable {K : PySem.W.Frag} {Z : Addr → Prop} {S S' : Store} {H H1 : Hp} {T0 : List (Addr × Str)}
theorem le_ext (x : LamX.ExtN H H1) : Le S H S H1 := fun a o e n nt => ⟨x a o e nt, n⟩
theorem Ok.ext (ok : Ok K Z S H) (t : TabsIn T0 S) (x : LamX.ExtN H H1) (tb : LamX.Tabs T0 H1) : Ok K Z S H1 := by
  refine ⟨fun a => ?_, fun a z => ?_⟩
  · have k := ok.cl a
    cases e : S a with
    | none => trivial
    | some c =>
      rw [e] at k
      cases c with
      | lst ts => obtain ⟨vs, q, r⟩ := k; exact ⟨vs, x _ _ q (fun _ e => nomatch e), r.le (le_ext x)⟩
      | ins C gs => obtain ⟨dx, fs, q, r⟩ := k; exact ⟨dx, fs, x _ _ q (fun _ e => nomatch e), r.le (le_ext x)⟩
      | tab q => exact tb (a, q) ((t a q).mp e)
  · obtain ⟨n, vs, e⟩ := ok.hid a z
    exact ⟨n, vs, x _ _ e vs.nt⟩
theorem le_same (x : Same H H1) : Le S H S H1 := fun a o e n _ => ⟨x a o e, n⟩
theorem Ok.same (ok : Ok K Z S H) (x : Same H H1) : Ok K Z S H1 := ok.le (le_same x) fun a n => by
  have k := ok.cl a
  cases e : S a with
  | none => exact absurd e n
  | some c =>
    rw [e] at k
    cases c with
    | lst ts => obtain ⟨vs, q, _⟩ := k; rw [q, x _ _ q]
    | ins C gs => obtain ⟨dx, fs, q, _⟩ := k; rw [q, x _ _ q]
    | tab w => obtain ⟨ps, q, _⟩ := k; rw [q, x _ _ q]
end
/-! a def that makes lambdas: its code object is known -/
/-- what a lambda of the def q is called -/
abbrev lamQ (q : Str) : Str := (q ++ (".<locals>." : Str)) ++ ("<lambda>" : Str)
/-! the law, with tables from the start -/
def sp_lawT (T0 : List (Addr × Str)) : SpT := fun ts S R _ => match ts with
  | [.scr l] => (∃ ns : List Int, l = ns.map T.int ∧ ns.length ≤ 63) ∧ TabsIn T0 S ∧ ∀ S', R (.bl true) S'
  | _ => False
def tabS (T0 : List (Addr × Str)) : Store := fun a => (T0.lookup a).map Cell.tab
theorem lookup_mem : ∀ {T0 : List (Addr × Str)} {a : Addr} {q : Str}, T0.lookup a = some q → (a, q) ∈ T0
  | [], _, _, h => nomatch h
  | (b, r) :: l, a, q, h => by
    by_cases e : a = b
    · subst e
      simp only [List.lookup, beq_self_eq_true, Option.some.injEq] at h
      subst h
      exact List.mem_cons_self
    · have ne : (a == b) = false := beq_eq_false_iff_ne.mpr e
      simp only [List.lookup, ne] at h
      exact List.mem_cons_of_mem _ (lookup_mem h)
theorem mem_lookup : ∀ {T0 : List (Addr × Str)} {a : Addr} {q : Str}, (T0.map (·.1)).Nodup → (a, q) ∈ T0 → T0.lookup a = some q
  | [], _, _, _, m => nomatch m
  | (b, r) :: l, a, q, nd, m => by
    rw [List.map_cons, List.nodup_cons] at nd
    rcases List.mem_cons.mp m with e | m
    · cases e
      simp [List.lookup]
    · have ne : (a == b) = false := by
        refine beq_eq_false_iff_ne.mpr fun e => nd.1 ?_
        rw [← e]
        exact List.mem_map.mpr ⟨_, m, rfl⟩
      simp only [List.lookup, ne]
      exact mem_lookup nd.2 m
theorem tabS_in {T0 : List (Addr × Str)} (nd : (T0.map (·.1)).Nodup) : TabsIn T0 (tabS T0) := fun a q => by
  unfold tabS
  constructor
  · intro h
    obtain ⟨r, e, z⟩ := Option.map_eq_some_iff.mp h
    cases z
    exact lookup_mem e
  · intro m
    rw [mem_lookup nd m]
    rfl
theorem law_wantT {K : PySem.W.Frag} {H : Hp} {a : Addr} {ns : List Int} {cs : List (Addr × Addr)} {T0 : List (Addr × Str)} (hl : ns.length ≤ 63) (nd : (T0.map (·.1)).Nodup) (hT : ∀ p ∈ T0, ∃ c, (c, p.1) ∈ cs) (hC : ∀ p ∈ cs, ∃ q, (p.2, q) ∈ T0)
    (tb : ∀ p ∈ cs, H p.2 = some (.tbl #[])) (only : ∀ b, H b = none ∨ (∃ p ∈ cs, p.2 = b) ∨ ∃ o xs, H b = some (.frz o (.lst xs))) (hS : SqL K H a (ns.map V.int)) : UpF K (sp_lawT T0) [.ref a] H (fun v _ => v = .bl true) EF := by
  have tin := tabS_in nd
  have none_of : ∀ {u : HO}, H a = some u → (∀ ps, u ≠ .tbl ps) → tabS T0 a = none := by
    intro u e nt
    cases h : tabS T0 a with
    | none => rfl
    | some c =>
      obtain ⟨q, e2, z⟩ := Option.map_eq_some_iff.mp h
      obtain ⟨c, m⟩ := hT _ (lookup_mem e2)
      have := tb _ m
      rw [e] at this
      cases this
      exact absurd rfl (nt _)
  have sc : ScrAt K (fun _ => False) (tabS T0) H a (ns.map V.int) := by
    rcases hS with h | h
    · rcases h with h | ⟨o, h⟩
      · rcases only a with z | ⟨p, hp, z⟩ | ⟨o, xs, z⟩
        · rw [h] at z; cases z
        · have := tb p hp; rw [z, h] at this; cases this
        · rw [h] at z; cases z
      · exact .inl ⟨⟨o, h⟩, none_of h (fun _ e => nomatch e), id⟩
    · exact .inr h
  refine ⟨fun _ => False, [.scr (ns.map T.int)], tabS T0, fun t _ => t = .bl true, XF, .cons (.scr sc (reps_ints ns)) .nil, ⟨fun b => ?_, fun _ z => z.elim⟩, ⟨⟨ns, rfl, hl⟩, tin, fun _ => rfl⟩, ?_, fun _ _ _ _ _ _ z => z.elim⟩
  · cases h : tabS T0 b with
    | none => trivial
    | some c =>
      obtain ⟨q, e2, z⟩ := Option.map_eq_some_iff.mp h
      subst z
      obtain ⟨c, m⟩ := hT _ (lookup_mem e2)
      exact LamX.TabS.nil (tb _ m)
  · intro t S' v H' e _ _ rep
    subst e
    cases rep
    rfl
/-! == and != of data, whatever texts are in it -/
mutual
theorem dat_plain : ∀ (x : T) {d : PyData}, x.dat = some d → d.plain = true
  | .non, d, h => by rw [T.dat] at h; cases h; rfl
  | .bl _, d, h => by rw [T.dat] at h; cases h; rfl
  | .int _, d, h => by rw [T.dat] at h; cases h; rfl
  | .str _, d, h => by rw [T.dat] at h; cases h; rfl
  | .lst l, d, h => by
    rw [T.dat] at h
    obtain ⟨ds, e, rfl⟩ := Option.map_eq_some_iff.mp h
    rw [PyData.plain]
    exact datL_plain l e
  | .tup l, d, h => by
    rw [T.dat] at h
    obtain ⟨ds, e, rfl⟩ := Option.map_eq_some_iff.mp h
    rw [PyData.plain]
    exact datL_plain l e
  | .ty _, d, h => by rw [T.dat] at h <;> first | cases h | (intros; nofun)
  | .st _, d, h => by rw [T.dat] at h <;> first | cases h | (intros; nofun)
  | .cell _, d, h => by rw [T.dat] at h <;> first | cases h | (intros; nofun)
  | .scr _, d, h => by rw [T.dat] at h <;> first | cases h | (intros; nofun)
  | .ins _ _, d, h => by rw [T.dat] at h <;> first | cases h | (intros; nofun)
  | .dct, d, h => by rw [T.dat] at h <;> first | cases h | (intros; nofun)
  | .exc _ _, d, h => by rw [T.dat] at h <;> first | cases h | (intros; nofun)
theorem datL_plain : ∀ (l : List T) {ds : List PyData}, T.datL l = some ds → PyData.plainAll ds = true
  | [], ds, h => by rw [T.datL] at h; cases h; rfl
  | t :: ts, ds, h => by
    rw [T.datL] at h
    split at h
    · rename_i d ds' e1 e2
      cases h
      rw [PyData.plainAll, dat_plain t e1, datL_plain ts e2]
      rfl
    · cases h
end
section
variable {X : Cx} {E : XK}
def rEqP (K : PySem.W.Frag) (ng : Bool) : R2 := fun x y H Q => ∃ d e, Dp K H x d ∧ Dp K H y e ∧ d.plain = true ∧ e.plain = true ∧ d.depth ≤ 64 ∧ Q (.bl (ng ^^ PyData.eqv d e)) H
theorem op_eqP (hu : X.A.units + 64 < cLine) : OpR X (compareOp .Eq) (rEqP X.K false) := by
  intro pins s σ H x y v u Q I rx ry h
  obtain ⟨d, e, hd, he, sd, se, dp, q⟩ := h
  obtain ⟨as, r1⟩ := Dp.reads I d x v hd rx
  obtain ⟨bs, r2⟩ := Dp.reads I e y u he ry
  rw [Bool.false_xor] at q
  exact PySem.SeqAt.eq_plain r1 r2 sd se (by have := Nat.min_le_left d.depth e.depth; omega) ⟨.bl _, H, I, rfl, q⟩
theorem op_neP (hu : X.A.units + 64 < cLine) : OpR X (compareOp .NotEq) (rEqP X.K true) := by
  intro pins s σ H x y v u Q I rx ry h
  obtain ⟨d, e, hd, he, sd, se, dp, q⟩ := h
  obtain ⟨as, r1⟩ := Dp.reads I d x v hd rx
  obtain ⟨bs, r2⟩ := Dp.reads I e y u he ry
  rw [Bool.true_xor] at q
  exact PySem.SeqAt.ne_plain r1 r2 sd se (by have := Nat.min_le_left d.depth e.depth; omega) ⟨.bl _, H, I, rfl, q⟩
def kEqP (ng : Bool) : KB := fun x y S R _ => ∃ d e, x.dat = some d ∧ y.dat = some e ∧ d.depth ≤ 64 ∧ R (.bl (ng ^^ PyData.eqv d e)) S
theorem cv_eqP {ng : Bool} : Conv X.K E (kEqP ng) (rEqP X.K ng) := by
  intro Z x y S v u H R RE Q ok rx ry kk po xo
  obtain ⟨d, e, hd, he, dp, k⟩ := kk
  exact ⟨d, e, rx.dp hd, ry.dp he, dat_plain x hd, dat_plain y he, dp, po _ _ _ _ k .refl ok (.bl _)⟩
/-- the same data -/
theorem eqP_same {ng : Bool} {x : T} {d : PyData} {S : Store} {R : T → Store → Prop} {RE : XT} (h : x.dat = some d) (dp : d.depth ≤ 64) (q : R (.bl (!ng)) S) : kEqP ng x x S R RE := by
  refine ⟨d, d, h, h, dp, ?_⟩
  rw [PySem.SeqAt.eqv_refl_plain d (dat_plain x h), Bool.xor_true]
  exact q
end

/-! [e for x in xs for y in ys] -/
def rComp2 (fr : T → Fm) (ri1 : TRI) (fr1 : T → T → Fm) (tt : TRB) (re : TR) : List T → List T → Store → (List T → Store → Prop) → Prop
  | [], acc, S, R => R acc S
  | t :: ts, acc, S, R => ri1 (fr t) S (fun us S1 => rComp (fr1 t) tt re us acc S1 (fun acc2 S2 => rComp2 fr ri1 fr1 tt re ts acc2 S2 R)) XF
def rLc2 (ri : TRI) (i : Nat) (ri1 : TRI) (j : Nat) (tt : TRB) (re : TR) : TR := fun σ S R RE => ri σ S (fun ts S1 => rComp2 (fun t => (σ.set j none).set i (some t)) ri1 (fun t u => ((σ.set j none).set i (some t)).set j (some u)) tt re ts [] S1 (fun ys S2 => R (.lst ys) S2)) RE
/-- J walks ts, whatever becomes of what is hidden -/
def SrcOkZ (K : PySem.W.Frag) (Z : Addr → Prop) (S0 : Store) (H0 : Hp) (J : It) (ts : List T) : Prop := ∀ S H, LeZ Z S0 H0 S H → Ok K Z S H →
  (∀ i t, ts[i]? = some t → J.go i H ∧ ∀ x H', J.yld i H x H' → Le S H S H' ∧ Ok K Z S H' ∧ Rep K Z S H' x t) ∧ ∀ i, ts.length ≤ i → J.stop i H
structure UpIZ (K : PySem.W.Frag) (E : XK) (r : TRI) (sl : L2.St) (H : Hp) (Q : It → Hp → Prop) : Prop where
  ex : ∃ Z σ S R RE, FrR K Z S H sl σ ∧ Ok K Z S H ∧ r σ S R RE ∧ (∀ ts S' J H', R ts S' → Le S H S' H' → Ok K Z S' H' → SrcOkZ K Z S' H' J ts → Q J H') ∧ XOk K Z S H RE E
structure ITZ (X : Cx) (E : XK) (tg it : Expr) (r : TRI) : Prop where
  pi : PI X tg it (UpIZ X.K E r)
theorem LeZ.trans {Z : Addr → Prop} {S S1 S2 : Store} {H H1 H2 : Hp} (a : LeZ Z S H S1 H1) (b : LeZ Z S1 H1 S2 H2) : LeZ Z S H S2 H2 := fun p o h n z nt => b p o (a p o h n z nt).1 (a p o h n z nt).2 z nt
/-! two fors: as a value, given to a name -/
section
variable {X : Cx} {E : XK}
/-! a name of the text that is a written tuple -/
structure GTup (K : PySem.W.Frag) (mg : Str → Option Value) (x : Str) (t : T) : Prop where
  ex : ∃ (v : V) (u : Value), mg x = some u ∧ RelV v u ∧ ∀ Z S H, Rep K Z S H v t
/-! for i, x in enumerate(a list) -/
def iEnumL (t : TRA) : TRI := fun σ S R RE => t σ S (fun xs S1 => ∃ ts, xs = [.lst ts] ∧ R (enumT ts) S1) RE
end

/-! the truth of a list that changes -/
def rTruC (ra : TR) : TRB := fun σ S R RE => ra σ S (fun x S1 => ∃ a l, x = .cell a ∧ S1 a = some (.lst l) ∧ R (!l.isEmpty) S1) RE
section
variable {X : Cx} {E : XK}
/-! {"k1": e1, "k2": e2}.get(x, d), truths -/
def rDget2 (k1 k2 : Str) (t1 t2 tx td : TR) : TR := fun σ S R _ => t1 σ S (fun y1 S1 => t2 σ S1 (fun y2 S2 => tx σ S2 (fun x S3 => td σ S3 (fun d S4 =>
  ∃ b1 b2 bd z, y1 = .bl b1 ∧ y2 = .bl b2 ∧ d = .bl bd ∧ x = .str z ∧ R (.bl (if z = k1 then b1 else if z = k2 then b2 else bd)) S4) XF) XF) XF) XF
/-! x in y, x data of any depth, y a tuple or a list of data -/
def rInP (K : PySem.W.Frag) (ng : Bool) : R2 := fun x y H Q => ∃ d ds, Dp K H x d ∧ (Dp K H y (.tuple ds) ∨ Dp K H y (.list ds)) ∧ d.plain = true ∧ PyData.plainAll ds = true ∧ d.depth ≤ 64 ∧ Q (.bl (ng ^^ ds.any fun z => PyData.eqv z d)) H
def kInP (ng : Bool) : KB := fun x y S R _ => ∃ d ds, x.dat = some d ∧ (y.dat = some (.tuple ds) ∨ y.dat = some (.list ds)) ∧ d.depth ≤ 64 ∧ R (.bl (ng ^^ ds.any fun z => PyData.eqv z d)) S
end

section
variable {X : Cx} {E : XK} {ra : TR} {rl rh : TRO} {a : Expr} {lo hi : Option Expr} {p2 pos : Pos}
/-! a slice of a list that changes -/
def rSlC (ra : TR) (rl rh : TRO) : TR := fun σ S R RE => ra σ S (fun x S1 => rl σ S1 (fun lo S2 => rh σ S2 (fun hi S3 => ∃ a l, x = .cell a ∧ S3 a = some (.lst l) ∧ R (.lst (cutT l lo hi)) S3) RE) RE) RE
end

section
variable {X : Cx} {E : XK} {st : Stmt} {r : TRS} {K : PySem.W.Frag} {Z : Addr → Prop} {S : Store} {H : Hp}
/-- the same value, read as another tree -/
theorem FrR.as {sl : List (Option V)} {σ : List (Option T)} {v : V} {t t' : T} {i : Nat} (f : FrR K Z S H sl σ) (hs : sl[i]? = some (some v)) (rep : Rep K Z S H v t') : FrR K Z S H sl (σ.set i (some t')) := by
  have := f.set i rep
  have e : sl.set i (some v) = sl := by
    obtain ⟨h1, h2⟩ := List.getElem?_eq_some_iff.mp hs
    rw [← h2, List.set_getElem_self]
  rw [e] at this
  exact this
/-- from this statement on a list that changes changes no more -/
def sFrzV (i : Nat) (r : TRS) : TRS := fun D σ S => ∃ a ts, σ[i]? = some (some (.cell a)) ∧ S a = some (.lst ts) ∧ r D (σ.set i (some (.lst ts))) (S.drop a)
/-- behind this statement the list that the name had before is not read -/
def sDrp (i : Nat) (r : TRS) : TRS := fun D σ S => ∃ a, σ[i]? = some (some (.cell a)) ∧ r { D with nx := fun σ' S' => D.nx σ' (S'.drop a) } σ S
end

/-! ### t[::-1] of a tuple -/
section
variable {prog : Program} {w : World} {A : Around} {E : Value → Shared → Prop} {s : Shared}
end
structure RRevT (K : PySem.W.Frag) (x : V) (H : Hp) (Q : VK) : Prop where
  ex : ∃ a xs, x = .ref a ∧ SqT K H a xs ∧ xs ≠ [] ∧ ∀ p, H p = none → Q (.ref p) (upd H p (.tup xs.reverse))
def tRevT (K : PySem.W.Frag) (te : TE) : TE := fun σ H Q => te σ H fun x H1 => RRevT K x H1 Q
/-- t[::-1] -/
def rRevT (ra : TR) : TR := fun σ S R RE => ra σ S (fun x S1 => ∃ l, x = .tup l ∧ l ≠ [] ∧ R (.tup l.reverse) S1) RE
/-! {"k1": "v1", "k2": "v2"}[x] -/
section
variable {X : Cx} {E : XK}
def rDix2 (k1 k2 : Str) (t1 t2 tx : TR) : TR := fun σ S R _ => t1 σ S (fun y1 S1 => t2 σ S1 (fun y2 S2 => tx σ S2 (fun x S3 =>
  ∃ b1 b2 z, y1 = .str b1 ∧ y2 = .str b2 ∧ x = .str z ∧ ((z = k1 ∧ R (.str b1) S3) ∨ (z = k2 ∧ R (.str b2) S3))) XF) XF) XF
end

/-! zip(tuple, tuple) -/
section
open RZ
def iZipT (t : TRA) : TRI := fun σ S R RE => t σ S (fun xs S1 => ∃ ts us, xs = [.tup ts, .tup us] ∧ R (zipT ts us) S1) RE
end

/-! max of a tuple of whole numbers -/
def maxN (n : Int) (ns : List Int) : Int := ns.foldl (fun a y => if a < y then y else a) n
def rMaxT (K : PySem.W.Frag) : List V → Hp → VK → Prop := fun vs H Q => ∃ (a : Addr) (n : Int) (ns : List Int), vs = [V.ref a] ∧ SqT K H a ((n :: ns).map V.int) ∧ Q (.int (maxN n ns)) H
def kMaxT : KA := fun xs S R _ => ∃ (n : Int) (ns : List Int), xs = [.tup ((n :: ns).map T.int)] ∧ R (.int (maxN n ns)) S
/-! o(e, ..): an instance is called -/
section
variable {X : Cx} {E : XK} {C f : Addr} {fd : FuncData} {k : Nat} {ps : List Str} {sp : SpT} {fe e : Expr} {es : List Expr} {pos : Pos} {rf : TR} {t : TRA}
def rCallOwn (C : Addr) (sp : SpT) (rf : TR) (t : TRA) : TR := fun σ S R RE => rf σ S (fun x S1 => ∃ gs, x = .ins C gs ∧ t σ S1 (fun xs S2 => sp (x :: xs) S2 R RE) RE) RE
end

/-! ### x, *xs = a tuple, the list changes -/
namespace StarU
open PySem PySem.Spec PySem.Calls PyProof.Rows PySem.W
end StarU
def gStarVT (K : PySem.W.Frag) (t : TGs) : TG := fun v σ H Q => ∃ a x xs, v = .ref a ∧ SqT K H a (x :: xs) ∧ xs.length < 16384 ∧ ∀ D, H D = none → t [x, .ref D] σ (upd H D (.lst xs)) Q
section
variable {X : Cx} {E : XK} {pos p1 p2 p3 : Pos} {x y : Str}
def gStarTC (gs : TRGs) : TRG := fun t σ S R RE => ∃ a l, t = .tup (a :: l) ∧ l.length < 16384 ∧ ∀ D, S D = none → gs [a, .cell D] σ (S.put D (.lst l)) R RE
end
/-! ### *x in a written tuple or list, x a list that changes, a list or a tuple -/
section
variable {X : Cx} {E : XK} {e : Expr} {es : List Expr} {p : Pos} {ra : TR} {t : TRA}
def itemsT : T → Store → Option (List T)
  | .cell a, S => match S a with
    | some (.lst l) => some l
    | _ => none
  | .lst l, _ => some l
  | .tup l, _ => some l
  | _, _ => none
def rStarA (ra : TR) (t : TRA) : TRA := fun σ S R RE => ra σ S (fun x S1 => ∃ l, itemsT x S1 = some l ∧ t σ S1 (fun ys S2 => R (l ++ ys) S2) RE) RE
end
/-! ### list(x), the new list changes -/
section
variable {X : Cx} {E : XK}
def kListC : KA := fun xs S R _ => ∃ x l, xs = [x] ∧ seqOf x = some l ∧ ∀ a, S a = none → R (.cell a) (S.put a (.lst l))
end
/-! ### NAME.index(z), a written tuple of texts -/
structure GStrs (K : PySem.W.Frag) (mg : Str → Option Value) (x : Str) (ys : List Str) : Prop where
  ex : ∃ (A : Addr) (its : Array Value) (n : Nat) (sl : Array (Option Value)), mg x = some (.ref A) ∧ K.lookup A = some ⟨.type "tuple", none, .seq its n, sl⟩ ∧ its.size ≤ sizeLine ∧ Vals (ys.map V.str) its.toList
section
variable {X : Cx} {E : XK}
def rTidx (ys : List Str) (t : TRA) : TR := fun σ S R RE => t σ S (fun xs S2 => ∃ z j, xs = [.str z] ∧ ys[j]? = some z ∧ (∀ m, m < j → ys[m]? ≠ some z) ∧ R (.int (j : Nat)) S2) RE
end

/-! ### a comprehension whose list changes -/
section
variable {X : Cx} {E : XK} {pos : Pos}
def rLcC (ri : TRI) (j : Nat) (tt : TRB) (re : TR) : TR := fun σ S R RE => ri σ S (fun ts S1 => rComp (fun t => σ.set j (some t)) tt re ts [] S1 (fun ys S2 => ∀ a, S2 a = none → R (.cell a) (S2.put a (.lst ys)))) RE
end

/-! ### t[a:b] of a tuple, the whole of it too -/
def rSlW (ra : TR) (rl rh : TRO) : TR := fun σ S R RE => ra σ S (fun x S1 => rl σ S1 (fun l S2 => rh σ S2 (fun h S3 => ∃ ts, x = .tup ts ∧ R (.tup (cutT ts l h)) S3) RE) RE) RE
section
variable {X : Cx} {E : XK} {a lo hi : Expr} {p2 pos : Pos} {ra : TR} {rl rh : TRO}
end

/-! ### a, b = a list of two -/
def gTupLV (K : PySem.W.Frag) (n : Nat) (t : TGs) : TG := fun v σ H Q => ∃ a xs, v = .ref a ∧ SqL K H a xs ∧ xs.length = n ∧ t xs σ H Q
section
variable {X : Cx} {E : XK} {pos : Pos}
def gTupL (n : Nat) (gs : TRGs) : TRG := fun t σ S R RE => ∃ ts, t = .lst ts ∧ ts.length = n ∧ gs ts σ S R RE
end

/-! integers of many digits, where no limit of digits was set -/
namespace BigI
open PySem PySem.Calls PySem.NumText PySem.W PySem.W.KIN PyProof.Rows
section
variable {prog : Program} {w : World} {A : Around} {E : Value → Shared → Prop} {s : Shared} {a : Int} {t : Tok}
theorem code_repr {R : Result → Shared → Prop} (hn : s.heap.NoDigits) (hl : a.natAbs < 10 ^ 4300) (h : R (.ok (.ret (.str (toString a) s.toks))) { s with toks := s.toks + 1 }) :
    codeAny (model prog w) A (.builtin "int.__repr__" ⟨[.int a t], []⟩) R s := by
  refine codeAny_builtin entry_int_repr ?_
  rw [Around.under_plainId plain_int_repr _]
  unfold Builtin.«int.__repr__»
  show wpAny _ _ (do let r ← Builtin.overDigitLimit? a; _) _ _ s
  refine wpAny_bind (overDigitLimit_any hn (fun _ => ?_) (fun hge => absurd hl (Nat.not_lt.mpr hge)))
  exact wpAny_bind (wpAny_mkStr (wpAny_pure h) (int_text_fits10 hl))
theorem call_repr0 {Q : Value → Shared → Prop} (hn : s.heap.NoDigits) (hl : a.natAbs < 10 ^ 4300) (h : Q (.str (toString a) s.toks) { s with toks := s.toks + 1 }) :
    wpAny (model prog w) A (call (.builtin "int.__repr__") [.int a t]) Q E s := by
  refine wpAny_call_entry F.slot_int_repr (typeIs_int s a t) F.entry_int_repr ?_ (F.args_int_repr_1 _)
  unfold Builtin.«int.__repr__»
  show wpAny _ _ (do let r ← Builtin.overDigitLimit? a; _) _ _ s
  refine wpAny_bind (overDigitLimit_any hn (fun _ => ?_) (fun hge => absurd hl (Nat.not_lt.mpr hge)))
  exact wpAny_bind (wpAny_mkStr (wpAny_pure ⟨_, rfl, h⟩) (int_text_fits10 hl))
theorem field {Q : Value → Shared → Prop} (hn : s.heap.NoDigits) (hl : a.natAbs < 10 ^ 4300)
    (h : Q (.str (toString a) (s.toks + 1)) { s with toks := s.toks + 1 + 1 }) :
    wpAny (model prog w) A (formatField (.int a t) Str.empty) Q E s := by
  show wpAny _ _ (holding [.int a t] (pyFormat (.int a t) Str.empty)) Q E s
  refine wpAny_holding ?_
  unfold pyFormat
  refine wpAny_bind (wpAny_mkStr ?_ (by decide))
  refine wpAny_bind (m := callSpecial? (.int a t) (Str.ofString "__format__") [.str Str.empty s.toks]) (wpAny_callSpecial?_slot (name := Str.ofString "__format__") (typeIs_int _ a t) slot_int_format ?_)
  refine wpAny_call (codeAny_call_builtin slot_int_format.plain entry_int_format (slot_int_format.check _ _ _ _ _ _ _ _ (typeIs_int _ a t) (args_int_format _ _) ?_))
  show wpAny _ _ (do let _kind ← typeNameOf (.str Str.empty s.toks); (do rule "int.format.empty"; again (.builtin "int.__repr__" ⟨[.int a t], []⟩))) _ _ _
  refine wpAny_bind (wpAny_typeNameOf (T := "str") (typeIs_str _ _ _) (by decide) fun _ => wpAny_bind (wpAny_rule (wpAny_pure ⟨plainId_quiet plain_int_repr _, code_repr hn hl ?_⟩)))
  show wpAny _ _ (do if ← isInstance (.str (toString a) (s.toks + 1)) (.type "str") then return (.str (toString a) (s.toks + 1)) else _) Q E _
  exact wpAny_bind (wpAny_isInstance (typeIs_str _ _ _) isSubtype_str_str (wpAny_pure h))
theorem reprObj {Q : Value → Shared → Prop} (hn : s.heap.NoDigits) (hl : a.natAbs < 10 ^ 4300) (h : Q (.str (toString a) s.toks) { s with toks := s.toks + 1 }) : wpAny (model prog w) A (pyReprObj (.int a t)) Q E s := by
  have hv : [Value.int a t].any Value.onHeap = false := rfl
  unfold pyReprObj
  simp only [cRoomFor, hv, Bool.false_eq_true, if_false, pure_bind]
  refine wpAny_bind (wpAny_specialOf (name := Str.ofString "__repr__") (typeIs_int s a t) F.slot_int_repr.lookup ?_)
  refine wpAny_bind (m := callSpecialIfBound? (.int a t) (Str.ofString "__repr__")) (wpAny_callSpecialIfBound?_slot (name := Str.ofString "__repr__") (typeIs_int s a t) F.slot_int_repr (call_repr0 hn hl ?_))
  exact wpAny_bind (wpAny_isInstance (T := "str") (b := true) rfl isSubtype_str_str (wpAny_pure h))
theorem call_repr {Q : Value → Shared → Prop} (hn : s.heap.NoDigits) (hl : a.natAbs < 10 ^ 4300) (h : Q (.str (toString a) s.toks) { s with toks := s.toks + 1 }) : wpAny (model prog w) A (call (.builtin "repr") [.int a t]) Q E s := by
  have hv : [Value.int a t].any Value.onHeap = false := rfl
  refine Calls.call_function_entry F.kind_repr F.plain_repr F.entry_repr (F.args_repr1 _) ?_
  unfold Builtin.«repr»
  refine wpAny_bind (m := oneArg "repr" _) (wpAny_pure ?_)
  simp only [cRoomFor, hv, Bool.false_eq_true, if_false, pure_bind]
  refine wpAny_bind (wpAny_specialOf (name := Str.ofString "__repr__") (typeIs_int s a t) F.slot_int_repr.lookup ?_)
  refine wpAny_bind (m := callSpecialIfBound? (.int a t) (Str.ofString "__repr__")) (wpAny_callSpecialIfBound?_slot (name := Str.ofString "__repr__") (typeIs_int s a t) F.slot_int_repr (call_repr0 hn hl ?_))
  refine wpAny_bind (wpAny_isInstance (T := "str") (b := true) rfl isSubtype_str_str ?_)
  exact wpAny_pure ⟨_, rfl, h⟩
/-- in a repr of what holds it -/
theorem reprK {h₀ : Heap} {as : List Addr} {d : Nat} (hn : h₀.NoDigits) (hl : a.natAbs < 10 ^ 4300) : ReprK prog w as h₀ d (.int a t) (toString a) := by
  intro base hb A g E s Q _ _ _ hk0 hQ
  have hn' : base ≤ sizeLine := by omega
  rw [pyReprUnder_leaf (v := .int a t) hn' (fun _ e => nomatch e)]
  unfold pyRepr
  exact wpAny_bind (reprObj (hn.keeps hk0) hl (wpAny_pure (hQ s.heap _ fun _ _ e => e)))
end
theorem wp_text2 {M : Model} {A : Around} {E : Value → Shared → Prop} {s : Shared} {Q : Value → Shared → Prop} {v : Value} {text : List Nat} {n : Int} (hnd : s.heap.NoDigits)
    (hs : ¬ (text.takeWhile (· != 0)).length ≤ 640) (hr : (int_private% "readNumeral") 4300 10 (text.takeWhile (· != 0)) = (int_private% "Numeral.value") n)
    (ha : ((text.takeWhile (· != 0)).length == text.length) = true) (h : Q (.int n s.toks) { s with toks := s.toks + 1 }) :
    wpAny M A ((int_private% "intFromText") v text 10) Q E s := by
  obtain ⟨mc, hns, hnone⟩ := hnd
  have lim : ∀ (Q : Nat → Shared → Prop) (E : Value → Shared → Prop), Q 4300 s → wpAny M A Builtin.intMaxStrDigits Q E s := fun Q E q => by
    unfold Builtin.intMaxStrDigits
    refine wpAny_bind (wpAny_nsGet hns ?_)
    rw [hnone]
    exact wpAny_pure q
  obtain ⟨hp, g, d, tk, os⟩ := s
  repeat (any_goals (first
    | assumption
    | (with_reducible refine wpAny_ite_false (decide_eq_false hs) ?_)
    | (with_reducible refine wpAny_ite_true (decide_eq_true ha) ?_)
    | (refine lim _ _ ?_)
    | wp_step))
  all_goals (try rw [hr])
  all_goals (try dsimp only)
  repeat (any_goals (first
    | assumption
    | (with_reducible refine wpAny_ite_true (decide_eq_true ha) ?_)
    | wp_step))
end BigI
namespace BigI
open PySem PySem.Calls PySem.NumText PySem.W PySem.W.KIN PyProof.Rows
set_option maxHeartbeats 4000000 in
theorem meets_text2 {x : PySem.Str} {u : Tok} {n : Int} (hl : x.length ≤ 4300) (hn : PySem.intText? x = some n) : Meets (Builtin.«int.__new__» ⟨[.type "int", .str x u], []⟩) (fun _ R s => s.heap.NoDigits ∧ R (.ok (.ret (.int n s.toks))) { s with toks := s.toks + 1 }) := by
  by_cases short : (numSeenOf x).length ≤ 640
  · refine (show Gives (Builtin.«int.__new__» ⟨[.type "int", .str x u], []⟩) (.int n) from ?_).meets.of_imp fun A R s h => h.2
    exact .of_wp fun M A E s Q h => by
      obtain ⟨hp, g, d, tk, os⟩ := s
      have f1 := F.conv_sub_int
      have f2 := F.madeHere_int
      have f3 := str_int
      have f4 := str_idx
      have f5 := str_trunc
      have f6 : typeOf (.str x u) = pure (.type "str") := rfl
      have hr : (int_private% "readNumeral") 0 10 (numSeenOf x) = (int_private% "Numeral.value") n ∧ ((numSeenOf x).length == (numTextOf x).length) = true := by
        rcases read0 x short with ⟨m, h1, h2, h3⟩ | ⟨h1, _⟩
        · rw [hn] at h1
          injection h1 with h1
          subst h1
          exact ⟨h3, h2⟩
        · rw [hn] at h1
          cases h1
      have hk := Hid.mk (And.intro short hr)
      clear short hr hl hn
      repeat (any_goals (first
        | assumption
        | ((with_reducible show wpAny _ _ ((int_private% "intFromText") _ _ _) _ _ _); refine wp_text hk.out.1 hk.out.2.1 hk.out.2.2 ?_)
        | wp_step))
      all_goals first | exact ⟨_, rfl, h⟩ | skip
  · refine .of_wp fun prog w A R s h => by
      obtain ⟨nd, h⟩ := h
      have f1 := F.conv_sub_int
      have f2 := F.madeHere_int
      have f3 := str_int
      have f4 := str_idx
      have f5 := str_trunc
      have f6 : typeOf (.str x u) = pure (.type "str") := rfl
      have hr : (int_private% "readNumeral") 4300 10 (numSeenOf x) = (int_private% "Numeral.value") n ∧ ((numSeenOf x).length == (numTextOf x).length) = true := by
        rcases read4300 x (by rw [sizeLine_eq]; omega) with ⟨m, h1, h2, h3⟩ | ⟨h1, _⟩
        · rw [hn] at h1
          injection h1 with h1
          subst h1
          exact ⟨h3, h2⟩
        · rw [hn] at h1
          cases h1
      have hk := Hid.mk (And.intro short (And.intro hr nd))
      clear short hr hl hn nd
      obtain ⟨hp, g, d, tk, os⟩ := s
      repeat (any_goals (first
        | assumption
        | ((with_reducible show wpAny _ _ ((int_private% "intFromText") _ _ _) _ _ _); refine wp_text2 hk.out.2.2 hk.out.1 hk.out.2.1.1 hk.out.2.1.2 ?_)
        | wp_step))
      all_goals first | exact ⟨_, rfl, h⟩ | skip
theorem call_text2 {prog : Program} {w : World} {A : Around} {E : Value → Shared → Prop} {s : Shared} {Q : Value → Shared → Prop} {x : PySem.Str} {t : Tok} {n : Int} (nd : s.heap.NoDigits) (hn : PySem.intText? x = some n) (hl : x.length ≤ 4300) (h : Q (.int n s.toks) { s with toks := s.toks + 1 }) : wpAny (model prog w) A (call (.type "int") [.str x t]) Q E s :=
  call_int_1 (meets_text2 hl hn) ⟨nd, ⟨rfl, h⟩⟩
end BigI
theorem big_lt {i : Int} (h : i.natAbs < 2 ^ 14000) : i.natAbs < 10 ^ 4300 := Nat.lt_of_lt_of_le h (by decide +kernel)
section
variable {X : Cx} {E : XK} {e : Expr} {pos : Pos} {ra : TR} {te : TE}
theorem nd_at {pins : List (Addr × Obj)} {sl : L2.St} {H : Hp} {s : Shared} (nd : X.base.NoDigits) (I : Inv X pins sl H s) : s.heap.NoDigits := nd.keeps I.bk
/-! f-strings of integers of many digits -/
def tFmtB (te : TE) : TE := fun σ H Q => te σ H fun x H1 => (∃ y : Str, x = .str y ∧ y.length ≤ sizeLine ∧ Q (.str y) H1) ∨ ∃ i : Int, x = .int i ∧ i.natAbs < 2 ^ 14000 ∧ Q (.str (toString i)) H1
theorem pe_fmtB (nd : X.base.NoDigits) (he : PE X e te) : PE X (.FormattedValue e (-1) none pos) (tFmtB te) := by
  refine ⟨fun pins s σ H Q I h => ?_⟩
  refine wpAny_FormattedValue_plain (thn (he.run pins s σ H _ I h) fun v s1 hv => ?_)
  obtain ⟨x, H1, I1, r1, q⟩ := hv
  rcases q with ⟨y, rfl, hz, q⟩ | ⟨i, rfl, hz, q⟩
  · obtain ⟨t, rfl⟩ := r1
    exact wpAny_formatField_str ⟨.str y, H1, I1, ⟨t, rfl⟩, q⟩ ⟨.str y, H1, I1.tok _, ⟨_, rfl⟩, q⟩ hz
  · obtain ⟨t, rfl⟩ := r1
    exact BigI.field (nd_at nd I1) (big_lt hz) ⟨.str (toString i), H1, I1.tok _, ⟨_, rfl⟩, q⟩
def kFmtB : T → Store → (T → Store → Prop) → Prop := fun x S R => match x with
  | .str y => y.length ≤ sizeLine ∧ R (.str y) S
  | .int i => i.natAbs < 2 ^ 14000 ∧ R (.str (toString i)) S
  | _ => False
def rFmtB (ra : TR) : TR := fun σ S R RE => ra σ S (fun x S1 => kFmtB x S1 R) RE
theorem et_fmtB (nd : X.base.NoDigits) (ha : ET X E e ra) : ET X E (.FormattedValue e (-1) none pos) (rFmtB ra) :=
  ⟨pe_weak (pe_fmtB nd ha.pe) fun sl H Q ⟨⟨Z, σ, S, R, RE, fr, ok, w, po, xo⟩⟩ => ⟨Z, σ, S, _, RE, fr, ok, w, fun x S1 v H1 k le ok1 rep => by
    replace k : kFmtB x S1 R := k
    unfold kFmtB at k
    split at k
    · cases rep
      exact .inl ⟨_, rfl, k.1, po _ _ _ _ k.2 le ok1 (.str _)⟩
    · cases rep
      exact .inr ⟨_, rfl, k.1, po _ _ _ _ k.2 le ok1 (.str _)⟩
    · exact k.elim, xo⟩⟩
/-! int(text) of many digits -/
def kIntB : KA := fun xs S R _ => ∃ a n, xs = [.str a] ∧ PySem.intText? a = some n ∧ a.length ≤ 4300 ∧ R (.int n) S
theorem call_int_strB (nd : X.base.NoDigits) : CallR X (.type "int") (fun xs H Q => ∃ a n, xs = [.str a] ∧ PySem.intText? a = some n ∧ a.length ≤ 4300 ∧ Q (.int n) H) := by
  intro pins s σ H xs us Q I r h
  obtain ⟨a, n, rfl, hn, hl, q⟩ := h
  obtain ⟨u, rfl, t, rfl⟩ := vals1 r
  exact BigI.call_text2 (nd_at nd I) hn hl ⟨.int n, H, I.tok _, ⟨_, rfl⟩, q⟩
theorem cv_intB : ConvA X.K E kIntB (fun xs H Q => ∃ a n, xs = [.str a] ∧ PySem.intText? a = some n ∧ a.length ≤ 4300 ∧ Q (.int n) H) := by
  intro Z xs S vs H R RE Q ok rs ⟨a, n, e, hn, hl, k⟩ po xo
  subst e
  cases rs with
  | cons r rr =>
    cases rr; cases r
    exact ⟨_, _, rfl, hn, hl, po _ _ _ _ k .refl ok (.int _)⟩
/-! repr of data with integers of many digits -/
end
mutual
def showB : PyData → Prop
  | .int i => i.natAbs < 2 ^ 14000
  | .list xs | .tuple xs => showBAll xs
  | .dict kvs => kvs = []
  | _ => True
def showBAll : List PyData → Prop
  | [] => True
  | x :: xs => showB x ∧ showBAll xs
end
section
variable {prog : Program} {w : World} {h₀ : Heap}
mutual
theorem reprB_of_reads (nd : h₀.NoDigits) : ∀ {v : Value} {d : PyData} {as : List Addr}, Reads h₀ v d as → showB d → (d.hasDict = true → sysModules ∉ as) → d.shown.length ≤ sizeLine → ∃ bs, ReadAtMost h₀ d.depth bs ∧ ReprK prog w bs h₀ d.depth v d.shown
  | _, _, _, .none, _, _, _ => ⟨[], (fun _ h => nomatch h), by simp only [PyData.shown]; exact .of_is ReprIs.none _ _ _⟩
  | _, _, _, .bool b, _, _, _ => ⟨[], (fun _ h => nomatch h), by simp only [PyData.shown]; exact .of_is (ReprIs.bool b) _ _ _⟩
  | _, _, _, .int i t, hs, _, _ => ⟨[], (fun _ h => nomatch h), by simp only [PyData.shown]; exact BigI.reprK nd (big_lt (by simpa only [showB] using hs))⟩
  | _, _, _, .str x t, _, _, hz => ⟨[], (fun _ h => nomatch h), by simp only [PyData.shown]; exact .of_is (ReprIs.str x t (by simpa only [PyData.shown] using hz)) _ _ _⟩
  | _, _, _, .list (a := a) (vs := vs) (xs := xs) h1 h2 h3 h4, hs, hsm, hz => by
    have hz' : (listText (PyData.shownAll xs)).length ≤ sizeLine := by simpa only [PyData.shown] using hz
    obtain ⟨bs, hb, hk⟩ := reprBAll_of_reads nd h4 (by simpa only [showB] using hs) (fun hx hm => hsm (by simpa [PyData.hasDict] using hx) (List.mem_cons_of_mem _ hm)) (fun t ht => Nat.le_trans (listText_mem_le ht) hz')
    have r : Reads h₀ (.ref a) (.list xs) _ := .list h1 h2 h3 h4
    have hna : a ∉ bs := not_mem_of_deeper r (by simp only [PyData.depth]; omega) hb
    refine ⟨a :: bs, ReadAtMost.cons r (by simp only [PyData.depth]; omega) hb, ?_⟩
    simp only [PyData.depth, PyData.shown]
    obtain ⟨l⟩ := vs
    cases l with
    | nil =>
      have h4' : ReadsAll h₀ [] xs _ := h4
      cases h4'
      simp only [PyData.shownAll, listText_nil]
      exact ReprK.listEmpty h1 h2 h3
    | cons x l => exact ReprK.list h1 h2 h3 hna (by simpa using hk.length_eq) (fun i y e => hk.item i y (by simpa using e))
  | _, _, _, .tuple (a := a) (xs := xs) h1 h2 h3 h4, hs, hsm, hz => by
    have hz' : (tupleText (PyData.shownAll xs)).length ≤ sizeLine := by simpa only [PyData.shown] using hz
    obtain ⟨bs, hb, hk⟩ := reprBAll_of_reads nd h4 (by simpa only [showB] using hs) (fun hx => hsm (by simpa [PyData.hasDict] using hx)) (fun t ht => Nat.le_trans (tupleText_mem_le ht) hz')
    have r : Reads h₀ (.ref a) (.tuple xs) _ := .tuple h1 h2 h3 h4
    have hna : a ∉ bs := not_mem_of_deeper r (by simp only [PyData.depth]; omega) hb
    refine ⟨a :: bs, ReadAtMost.cons r (by simp only [PyData.depth]; omega) hb, ?_⟩
    simp only [PyData.depth, PyData.shown]
    exact ReprK.tuple h1 h2 h3 hna hk
  | _, _, _, .dict (a := a) (es := es) (kvs := kvs) (as := as₁) (bs := bs₁) h1 h2 h3 h4 h5, hs, hsm, hz => by
    have hk : kvs = [] := by simpa only [showB] using hs
    subst hk
    exact ReprK.of_reads (.dict h1 h2 h3 h4 h5) (by simp only [PyData.showable, PyData.showableKv]) hsm hz
theorem reprBAll_of_reads (nd : h₀.NoDigits) : ∀ {vs : List Value} {ds : List PyData} {as : List Addr}, ReadsAll h₀ vs ds as → showBAll ds → (PyData.hasDictAll ds = true → sysModules ∉ as) → (∀ t ∈ PyData.shownAll ds, t.length ≤ sizeLine) →
    ∃ bs, ReadAtMost h₀ (PyData.depthAll ds) bs ∧ ReprAllK prog w bs h₀ (PyData.depthAll ds) vs (PyData.shownAll ds)
  | _, _, _, .nil, _, _, _ => ⟨[], (fun _ h => nomatch h), by simp only [PyData.shownAll]; exact .nil⟩
  | _, _, _, .cons (d := d) (ds := ds) r rs, hs, hsm, hz => by
    have hs' : showB d ∧ showBAll ds := by simpa only [showBAll] using hs
    obtain ⟨b1, hb1, k1⟩ := reprB_of_reads nd r hs'.1 (fun hx hm => hsm (by simp only [PyData.hasDictAll, hx, Bool.true_or]) (List.mem_append_left _ hm)) (hz _ (by simp only [PyData.shownAll]; exact List.mem_cons_self ..))
    obtain ⟨b2, hb2, k2⟩ := reprBAll_of_reads nd rs hs'.2 (fun hx hm => hsm (by simp only [PyData.hasDictAll, hx, Bool.or_true]) (List.mem_append_right _ hm)) (fun t ht => hz t (by simp only [PyData.shownAll]; exact List.mem_cons_of_mem _ ht))
    refine ⟨b1 ++ b2, ?_, ?_⟩
    · intro b hm
      simp only [PyData.depthAll]
      rcases List.mem_append.mp hm with hm | hm
      · obtain ⟨d', as', r', hd'⟩ := hb1 b hm
        exact ⟨d', as', r', Nat.le_trans hd' (Nat.le_max_left _ _)⟩
      · obtain ⟨d', as', r', hd'⟩ := hb2 b hm
        exact ⟨d', as', r', Nat.le_trans hd' (Nat.le_max_right _ _)⟩
    · simp only [PyData.depthAll, PyData.shownAll]
      exact .cons ((k1.more fun b hb => List.mem_append_left _ hb).level_le (Nat.le_max_left _ _)) (k2.more_le (fun b hb => List.mem_append_right _ hb) (Nat.le_max_right _ _))
end
end
structure SqB (d : PyData) : Prop where
  sh : showB d
  dp : d.depth ≤ 64
  ln : d.shown.length ≤ 16777216
structure RDB (K : PySem.W.Frag) (xs : List V) (H : Hp) (Q : VK) : Prop where
  ex : ∃ (v : V) (d : PyData), xs = [v] ∧ Dq K H v d ∧ SqB d ∧ Q (.str d.shown) H
theorem reprDB {X : Cx} (nd : X.base.NoDigits) (sys : ∃ o, X.base.get? sysModules = some o) (gds : X.A.guards = some []) (room : X.A.units + 70 < cLine) : CallR X (.builtin "repr") (RDB X.K) := by
  intro pins st sl H xs us Q inv vals want
  obtain ⟨v, d, e, dq, sq, q⟩ := want.ex
  subst e
  obtain ⟨u, eu, rel⟩ := vals1 vals
  subst eu
  obtain ⟨ob, hb⟩ := sys
  have free := (inv.bs _ _ hb).2
  have len : d.shown.length ≤ sizeLine := by rw [sizeLine_eq]; exact sq.ln
  have deep : X.A.units + (d.depth + 1) < cLine := by have := sq.dp; omega
  obtain ⟨as, rd, no⟩ := Dq.reads inv free d v u dq rel
  have nds := nd_at nd inv
  cases dq with
  | non =>
    cases rel
    exact PySem.P.repr_of_none ⟨.str _, H, inv.tok _, ⟨_, rfl⟩, q⟩
  | bl b =>
    cases rel
    exact PySem.P.repr_of_bool ⟨.str _, H, inv.tok _, ⟨_, rfl⟩, by rw [PyData.shown_bool] at q; exact q⟩
  | int i =>
    obtain ⟨tk, rfl⟩ := rel
    have small := sq.sh
    simp only [showB] at small
    exact BigI.call_repr nds (big_lt small) ⟨.str _, H, inv.tok _, ⟨_, rfl⟩, by rw [PyData.shown_int] at q; exact q⟩
  | str x =>
    obtain ⟨tk, rfl⟩ := rel
    rw [PyData.shown_str] at q len
    exact PySem.P.repr_of_str ⟨.str _, H, inv.tok _, ⟨_, rfl⟩, q⟩ len
  | dic h =>
    cases rel
    exact repr_of_reads' rd (by simp only [PyData.showable, PyData.showableKv]) (fun _ => no) gds deep (fun _ _ z => z) (fun h' u' tk kp => ⟨.str _, H, inv.kept kp, ⟨_, rfl⟩, q⟩) len
  | lst h t =>
    cases rel
    cases rd with
    | list h1 h2 h3 h4 =>
      rename_i o vs n bs₀
      have sh := sq.sh
      simp only [showB] at sh
      have hz' := len
      simp only [PyData.shown] at hz' q
      obtain ⟨bs, hb', hk⟩ := reprBAll_of_reads (prog := X.prog) (w := X.w) nds h4 sh (fun hx hm => no (List.mem_cons_of_mem _ hm)) (fun t ht => Nat.le_trans (listText_mem_le ht) hz')
      have hna := not_mem_of_deeper (.list h1 h2 h3 h4) (by simp only [PyData.depth]; omega) hb'
      simp only [PyData.depth] at deep
      refine call_repr_slot (by omega) ⟨o, h1, h2⟩ F.slot_list_repr.toG ?_
      obtain ⟨l⟩ := vs
      cases l with
      | nil =>
        have h4' : ReadsAll st.heap [] _ _ := h4
        cases h4'
        simp only [PyData.shownAll, listText_nil] at q
        exact call_list_repr_empty ⟨o, h1, h2⟩ h1 h3 ⟨_, _, rfl, .str _, H, inv.tok _, ⟨_, rfl⟩, q⟩
      | cons x l =>
        exact call_list_reprK h1 h2 h3 hna (by simpa using hk.length_eq) (fun i y e => hk.item i y (by simpa using e)) gds (fun b _ => Clear.nil b) (by show X.A.units + 1 + _ < cLine; omega) (fun _ _ z => z) (fun h' u' tk kp => ⟨_, _, rfl, .str _, H, inv.kept kp, ⟨_, rfl⟩, q⟩) hz'
  | tup h t =>
    cases rel
    cases rd with
    | tuple h1 h2 h3 h4 =>
      rename_i o vs n
      have sh := sq.sh
      simp only [showB] at sh
      have hz' := len
      simp only [PyData.shown] at hz' q
      obtain ⟨bs, hb', hk⟩ := reprBAll_of_reads (prog := X.prog) (w := X.w) nds h4 sh (fun hx => no) (fun t ht => Nat.le_trans (tupleText_mem_le ht) hz')
      have hna := not_mem_of_deeper (.tuple h1 h2 h3 h4) (by simp only [PyData.depth]; omega) hb'
      simp only [PyData.depth] at deep
      refine call_repr_slot (by omega) ⟨o, h1, h2⟩ F.slot_tuple_repr ?_
      exact call_tuple_reprK h1 h2 h3 hna hk gds (fun b _ => Clear.nil b) (by show X.A.units + 1 + _ < cLine; omega) (fun _ _ z => z) (fun h' u' tk kp => ⟨_, _, rfl, .str _, H, inv.kept kp, ⟨_, rfl⟩, q⟩) hz'
def kReprB : List T → Store → (T → Store → Prop) → XT → Prop := fun xs S R _ => ∃ x d, xs = [x] ∧ x.datD = some d ∧ SqB d ∧ R (.str d.shown) S
theorem cv_reprB {K : PySem.W.Frag} {E : XK} : ConvA K E kReprB (RDB K) := by
  intro Z xs S vs H R RE Q ok rs k po xo
  obtain ⟨x, d, rfl, e, sq, q⟩ := k
  cases rs with
  | cons r rr =>
    cases rr
    exact ⟨_, d, rfl, rep_dq r e, sq, po _ _ _ _ q .refl ok (.str _)⟩
/-! ### the end, where no limit of digits was set -/
section
variable {P : Program} {w : World} {K : PySem.W.Frag} {mg mb : Str → Option Value} {k : Nat} {fa a : Addr} {fd : FuncData} {x : Str} {sp : Sp} {st : Shared} {vs : List Value} {ns : List Int} {cs : List (Addr × Addr)}
theorem endCoreTD (R : Rear K mg mb cs st.heap) (dig : st.heap.NoDigits) (gens : st.gens = #[]) (ha : st.heap.get? a = some { cls := .type "list", data := .seq vs.toArray }) (hr : Room k callerA)
    (F : ∀ base : Heap, K.In base → base.Ns mainGlobals mg → (∃ o, base.get? sysModules = some o) → base.NoDigits → (∀ p ∈ cs, LamX.TabB base mg p.1 p.2) → FnG P w K mg base CX0 k fa fd [x] sp) (bind : ∀ (s : Shared) (u : Value), BindsTo s fd ⟨[u], []⟩ [(x, u)])
    {H : Hp} (hH : ∀ p ∈ cs, H p.2 = some (.tbl #[])) (only : ∀ b, H b = none ∨ (∃ p ∈ cs, p.2 = b) ∨ ∃ o xs, H b = some (.frz o (.lst xs))) (ok : HOk P w H st.heap) (one : ∀ b, H b ≠ none → b = a ∨ ∃ p ∈ cs, p.2 = b) (notK : H a ≠ none → K.lookup a = none)
    (want : sp [.ref a] H (fun v _ => v = .bl true) fun _ _ _ => False) :
    codeAny (model P w) callerA (.call (.ref fa) ⟨[.ref a], []⟩) (fun r s' => r = .ok (.ret (.bool true)) ∧ OldK st.heap s'.heap ∧ s'.os = st.os ∧ AllBare s'.gens) st := by
  have untracked : ∀ {b : Addr} {o : Obj}, st.heap.get? b = some o → (∀ n, o.data ≠ .seq vs.toArray n) → o.data ≠ .fields #[] → H b = none := by
    intro b o e n1 n2
    refine Option.eq_none_iff_forall_ne_some.mpr fun u z => ?_
    rcases one b (by rw [z]; exact fun t => nomatch t) with eb | ⟨p, hp, eb⟩
    · subst eb
      rw [ha] at e
      cases e
      exact n1 _ rfl
    · subst eb
      rw [R.tab p hp] at e
      cases e
      exact n2 rfl
  have toBase : ∀ {b : Addr} {m : Str → Option Value}, st.heap.Ns b m → (hidT st.heap H).Ns b m := by
    rintro b m ⟨o, es, ep, e, d, r⟩
    refine ⟨o, es, ep, hidT_get e (untracked e (fun _ z => ?_) fun z => ?_), d, r⟩
    · rw [d] at z
      cases z
    · rw [d] at z
      cases z
  have inBase : K.In (hidT st.heap H) := by
    intro b o e
    refine hidT_get (R.inK b o e) (Option.eq_none_iff_forall_ne_some.mpr fun u z => ?_)
    have nn : H b ≠ none := by rw [z]; exact fun t => nomatch t
    rcases one b nn with eb | ⟨p, hp, eb⟩
    · subst eb
      rw [notK nn] at e
      cases e
    · subst eb
      rw [R.free p hp] at e
      cases e
  obtain ⟨mc, l1, l2⟩ := R.lim
  have md : Mod K mg (hidT st.heap H) := ⟨inBase, toBase R.g, ⟨mb, toBase R.b, R.boot⟩, ⟨mc, toBase l1, l2⟩⟩
  have sys : ∃ o, (hidT st.heap H).get? sysModules = some o := by
    obtain ⟨mm, hm⟩ := R.mods
    obtain ⟨o, _, _, e, _⟩ := toBase hm
    exact ⟨o, e⟩
  have dg : (hidT st.heap H).NoDigits := by
    obtain ⟨mc, l1, l2⟩ := dig
    exact ⟨mc, toBase l1, l2⟩
  have TB : ∀ p ∈ cs, LamX.TabB (hidT st.heap H) mg p.1 p.2 := by
    intro p hp
    have tp := R.tab p hp
    have gne : mainGlobals ≠ p.2 := fun z => by
      obtain ⟨o, es, ep, e, d, _⟩ := R.g
      rw [z, tp] at e
      cases e
      cases d
    refine ⟨?_, ?_, gne⟩
    · obtain ⟨o, us, f1, f2, f3, f4, f5, f6, f7, e, c1, c2, c3, more⟩ := R.head p hp
      refine ⟨o, us, f1, f2, f3, f4, f5, f6, f7, hidT_get e (untracked e (fun _ z => ?_) fun z => ?_), c1, c2, c3, more⟩
      · rw [c2] at z
        cases z
      · rw [c2] at z
        cases z
        cases c3
    · obtain ⟨bm, ob, m1, m2, e, c1, c2, c3⟩ := R.main
      refine ⟨bm, ob, m1, m2, fun z => ?_, fun z => ?_, hidT_get e (untracked e (fun _ z => ?_) fun z => ?_), c1, c2, c3⟩
      · obtain ⟨o, es, ep, e2, d, _⟩ := R.g
        rw [z, e2] at e
        cases e
        rw [d] at c3
        cases c3
      · rw [z, tp] at e
        cases e
        cases c3
      · rw [c3] at z
        cases z
      · rw [c3] at z
        cases z
  have e0 : Env0 P w K mg (hidT st.heap H) callerA [] st H := by
    refine ⟨rfl, md, fun b o e => of_hidT e, Nat.le_of_eq (hidT_size _ _), trivial, fun b hb => ?_, ok, .of_eq gens⟩
    cases hb
  refine codeAny_mono ((F _ inBase md.glob sys dg TB).go callerA [] st H ⟨[.ref a], []⟩ [.ref a] [.ref a] _ _ rfl hr e0 (bind st (.ref a)) (.cons rfl .nil) want) fun r s' got => ?_
  cases r with
  | error e => exact got.elim
  | ok fl =>
    cases fl with
    | next => exact got.elim
    | brk => exact got.elim
    | cont => exact got.elim
    | ret u =>
      obtain ⟨v, H', os, bare, un, ok', rel, q⟩ := got
      have q2 : v = .bl true := q
      subst q2
      have q3 : u = Value.bool true := rel
      subst q3
      have stays : ∀ b o, (∀ p ∈ cs, p.2 ≠ b) → st.heap.get? b = some o → s'.heap.get? b = some o := by
        intro b o nt e
        rcases only b with z | ⟨p, hp, z⟩ | ⟨ob, xs, z⟩
        · refine un.keep b o e z (fun m => ?_) (by simp)
          cases m
        · exact absurd z (nt p hp)
        · have z2 := un.frzs b ob _ z
          obtain ⟨e1, _⟩ := ok b _ z
          obtain ⟨e2, _⟩ := ok' b _ z2
          rw [e1] at e
          cases e
          exact e2
      have grows : ∀ p ∈ cs, ∃ more : Array Value, s'.heap.get? p.2 = some { cls := .none, data := .fields more } := by
        intro p hp
        obtain ⟨more, z⟩ := un.tbls p.2 #[] (hH p hp)
        exact ⟨_, ok' p.2 _ z⟩
      refine ⟨rfl, ⟨fun b o e => ?_, fun b o e => ?_⟩, os, bare⟩
      · by_cases t : ∃ p ∈ cs, p.2 = b
        · obtain ⟨p, hp, rfl⟩ := t
          obtain ⟨more, z⟩ := grows p hp
          rw [R.tab p hp] at e
          cases e
          exact .inr (.inl ⟨((R.head p hp).tab (R.tab p hp)).isCodeTable, rfl, #[], more, rfl, by rw [Array.empty_append]; exact z⟩)
        · exact .inl (stays b o (fun p hp z => t ⟨p, hp, z⟩) e)
      · by_cases t : ∃ p ∈ cs, p.2 = b
        · obtain ⟨p, hp, rfl⟩ := t
          obtain ⟨more, z⟩ := grows p hp
          exact ⟨_, z⟩
        · exact ⟨o, stays b o (fun p hp z => t ⟨p, hp, z⟩) e⟩
theorem endCallTD (R : Rear K mg mb cs st.heap) (dig : st.heap.NoDigits) (gens : st.gens = #[]) (ha : st.heap.get? a = some { cls := .type "list", data := .seq vs.toArray }) (hi : IntsAre vs ns) (hl : ns.length ≤ sizeLine) (hr : Room k callerA)
    (F : ∀ base : Heap, K.In base → base.Ns mainGlobals mg → (∃ o, base.get? sysModules = some o) → base.NoDigits → (∀ p ∈ cs, LamX.TabB base mg p.1 p.2) → FnG P w K mg base CX0 k fa fd [x] sp) (bind : ∀ (s : Shared) (u : Value), BindsTo s fd ⟨[u], []⟩ [(x, u)])
    (want : ∀ H : Hp, (∀ p ∈ cs, H p.2 = some (.tbl #[])) → (∀ b, H b = none ∨ (∃ p ∈ cs, p.2 = b) ∨ ∃ o xs, H b = some (.frz o (.lst xs))) → SqL K H a (ns.map V.int) → sp [.ref a] H (fun v _ => v = .bl true) fun _ _ _ => False) :
    codeAny (model P w) callerA (.call (.ref fa) ⟨[.ref a], []⟩) (fun r s' => r = .ok (.ret (.bool true)) ∧ OldK st.heap s'.heap ∧ s'.os = st.os ∧ AllBare s'.gens) st := by
  have rv := vals_ints hi
  have aT : ¬ ∃ p ∈ cs, p.2 = a := by
    rintro ⟨p, hp, rfl⟩
    rw [R.tab p hp] at ha
    have z := congrArg Obj.data (Option.some.inj ha)
    cases z
  classical
  cases hk : K.lookup a with
  | some o =>
    have e := R.inK a o hk
    rw [ha] at e
    cases e
    have at_ : ∀ b, (fun b => if ∃ p ∈ cs, p.2 = b then some (HO.tbl #[]) else none) b = if ∃ p ∈ cs, p.2 = b then some (HO.tbl #[]) else none := fun _ => rfl
    have seq : ∀ H : Hp, SqL K H a (ns.map V.int) := fun H => .inr ⟨_, vs.toArray, _, hk, rfl, rfl, rfl, by rw [List.size_toArray, hi.length]; exact hl, by simpa using rv⟩
    have onl : ∀ b, (fun b => if ∃ p ∈ cs, p.2 = b then some (HO.tbl #[]) else none) b = none ∨ (∃ p ∈ cs, p.2 = b) ∨ ∃ o xs, (fun b => if ∃ p ∈ cs, p.2 = b then some (HO.tbl #[]) else none) b = some (.frz o (.lst xs)) := fun b => by
      by_cases t : ∃ p ∈ cs, p.2 = b
      · exact .inr (.inl t)
      · exact .inl (if_neg t)
    refine endCoreTD R dig gens ha hr F bind (H := fun b => if ∃ p ∈ cs, p.2 = b then some (HO.tbl #[]) else none) (fun p hp => if_pos ⟨p, hp, rfl⟩) onl (fun b u z => ?_) (fun b z => ?_) (fun z => absurd (if_neg aT) z) (want _ (fun p hp => if_pos ⟨p, hp, rfl⟩) onl (seq _))
    · rw [at_] at z
      split at z
      · rename_i t
        obtain ⟨p, hp, rfl⟩ := t
        cases z
        exact R.tab p hp
      · cases z
    · by_cases t : ∃ p ∈ cs, p.2 = b
      · exact .inr t
      · exact absurd (if_neg t) z
  | none =>
    have at_ : ∀ b, (fun b => if b = a then some (HO.frz { cls := .type "list", data := .seq vs.toArray } (.lst (ns.map V.int))) else if ∃ p ∈ cs, p.2 = b then some (HO.tbl #[]) else none) b = if b = a then some (HO.frz { cls := .type "list", data := .seq vs.toArray } (.lst (ns.map V.int))) else if ∃ p ∈ cs, p.2 = b then some (HO.tbl #[]) else none := fun _ => rfl
    have hHt : ∀ p ∈ cs, (if p.2 = a then some (HO.frz { cls := .type "list", data := .seq vs.toArray } (.lst (ns.map V.int))) else if ∃ q ∈ cs, q.2 = p.2 then some (HO.tbl #[]) else none) = some (HO.tbl #[]) := fun p hp => by
      rw [if_neg (fun z => aT ⟨p, hp, z⟩), if_pos ⟨p, hp, rfl⟩]
    have onl : ∀ b, (fun b => if b = a then some (HO.frz { cls := .type "list", data := .seq vs.toArray } (.lst (ns.map V.int))) else if ∃ p ∈ cs, p.2 = b then some (HO.tbl #[]) else none) b = none ∨ (∃ p ∈ cs, p.2 = b) ∨ ∃ o xs, (fun b => if b = a then some (HO.frz { cls := .type "list", data := .seq vs.toArray } (.lst (ns.map V.int))) else if ∃ p ∈ cs, p.2 = b then some (HO.tbl #[]) else none) b = some (.frz o (.lst xs)) := fun b => by
      by_cases e : b = a
      · exact .inr (.inr ⟨_, _, if_pos e⟩)
      · by_cases t : ∃ p ∈ cs, p.2 = b
        · exact .inr (.inl t)
        · refine .inl ?_
          show (if b = a then _ else _) = none
          rw [if_neg e, if_neg t]
    refine endCoreTD R dig gens ha hr F bind (H := fun b => if b = a then some (HO.frz { cls := .type "list", data := .seq vs.toArray } (.lst (ns.map V.int))) else if ∃ p ∈ cs, p.2 = b then some (HO.tbl #[]) else none) hHt onl (fun b u z => ?_) (fun b z => ?_) (fun _ => hk) (want _ hHt onl (.inl (.inr ⟨_, if_pos rfl⟩)))
    · rw [at_] at z
      by_cases e : b = a
      · rw [if_pos e] at z
        subst e
        cases z
        exact ⟨ha, by rw [List.length_map]; exact hl, vs, _, rv, ha⟩
      · rw [if_neg e] at z
        split at z
        · rename_i t
          obtain ⟨p, hp, rfl⟩ := t
          cases z
          exact R.tab p hp
        · cases z
    · by_cases e : b = a
      · exact .inl e
      · by_cases t : ∃ p ∈ cs, p.2 = b
        · exact .inr t
        · exact absurd (by rw [if_neg e, if_neg t]) z
end
theorem walkTD {l : PySem.W.OpenLaw} {k : Nat} {q : Program} {loose : List Str} {XP : (Str → Option Value) → Heap → Prop} {YP : World → Heap → Prop} {d : DefRec} {K : Params → PySem.W.Frag} {cs : List (Addr × Addr)} {T0 : List (Addr × Str)} {x : Str}
    (hn : l.most = some 63) (hdf : d.params.defaults = []) (hr : Room k callerA) (hY : ∀ (w : World) (h : Heap), YP w h → (K w.params).In h)
    (F : ∀ (w : World) (mean : ExcName → Option Value) (mg mb : Str → Option Value) (fa : Addr) (h : Heap), Top q (PySem.W.looseW q loose) mean mg mb h → YP w h → (K w.params).In h → h.Ns mainGlobals mg → mg d.name = some (.ref fa) →
      Rear (K w.params) mg mb cs h ∧ ∃ fd : FuncData, (∀ (s : Shared) (u : Value), BindsTo s fd ⟨[u], []⟩ [(x, u)]) ∧ ∀ base : Heap, (K w.params).In base → base.Ns mainGlobals mg → (∃ o, base.get? sysModules = some o) → base.NoDigits → (∀ p ∈ cs, LamX.TabB base mg p.1 p.2) → FnT l.prog w (K w.params) mg base k fa fd [x] (sp_lawT T0))
    (nd : (T0.map (·.1)).Nodup) (hT : ∀ p ∈ T0, ∃ c, (c, p.1) ∈ cs) (hC : ∀ p ∈ cs, ∃ q, (p.2, q) ∈ T0) :
    PySem.W.WalkO q loose XP YP l.row.toRowW d [] (fun f vs => PySem.call f vs) := by
  refine Att.attach_call hn hdf ?_
  intro w s₀ s₁ mg mb fa o pm cd doc a vs ns G Y ho hd hcd hmg hobj hints hlen hg
  obtain ⟨R, fd, hb, hF⟩ := F w _ mg mb fa _ G.T Y (hY w _ Y) G.T.g hmg
  exact endCallTD (sp := fun vs H Q _ => UpF (K w.params) (sp_lawT T0) vs H Q EF) R G.T.nodigits hg hobj hints (Nat.le_trans hlen (by rw [sizeLine_eq]; decide)) hr (fun base i n s d t => (hF base i n s d t).cx0) hb fun H hH onl seq => law_wantT hlen nd hT hC hH onl seq

/-! ### a text is walked; in a text -/
def signsT (z : Str) : List T := z.cps.toList.map fun c => T.str ⟨#[c]⟩
theorem src_str {K : PySem.W.Frag} {Z : Addr → Prop} {S : Store} {H : Hp} (z : Str) : SrcOk K Z S H (Its z) (signsT z) := fun Z' S1 H1 hz le ok => by
  refine ⟨fun i t hi => ?_, fun i hi => ?_⟩
  · unfold signsT at hi
    rw [List.getElem?_map] at hi
    obtain ⟨c, hc, rfl⟩ := Option.map_eq_some_iff.mp hi
    rw [Array.getElem?_toList] at hc
    obtain ⟨lt, _⟩ := Array.getElem?_eq_some_iff.mp hc
    refine ⟨lt, fun x H' y => ?_⟩
    obtain ⟨rfl, c', hc', rfl⟩ := y
    rw [hc] at hc'
    cases hc'
    exact ⟨.refl, ok, .str _⟩
  · unfold signsT at hi
    rw [List.length_map, Array.length_toList] at hi
    exact hi
def iStrT (ra : TR) : TRI := fun σ S R RE => ra σ S (fun t S1 => ∃ z, t = .str z ∧ R (signsT z) S1) RE
section
variable {X : Cx} {E : XK} {a : Expr} {ra : TR}
theorem it_str {tg : Expr} (ha : ET X E a ra) : IT X E tg a (iStrT ra) := ⟨pi_weak (pi_str ha.pe) fun sl H Q ⟨⟨Z, σ, S, R, RE, fr, ok, w, po, xo⟩⟩ => by
  refine ⟨_, σ, S, _, RE, fr, ok, w, fun t S1 v H1 k le ok1 rep => ?_, xo⟩
  obtain ⟨z, rfl, k⟩ := k
  cases rep
  exact ⟨_, rfl, po _ S1 _ H1 k le ok1 (src_str z)⟩⟩
def kInS (ng : Bool) : KB := fun x y S R _ => ∃ i j, x = .str i ∧ y = .str j ∧ R (.bl (ng ^^ !(Builtin.Str.occurrences j i 0 j.length 1).isEmpty)) S
theorem cv_ninS : Conv X.K E (kInS true) (fun x y H Q => ∃ i j, x = .str i ∧ y = .str j ∧ Q (.bl (!(!(Builtin.Str.occurrences j i 0 j.length 1).isEmpty))) H) := by
  intro Z x y S v u H R RE Q ok rx ry ⟨i, j, e1, e2, k⟩ po xo
  subst e1 e2
  cases rx; cases ry
  exact ⟨_, _, rfl, rfl, po _ _ _ _ (by simpa using k) .refl ok (.bl _)⟩
end
/-! a text some times over -/
def repS (z : Str) (n : Nat) : Str := ⟨(List.replicate n z.cps).foldl (· ++ ·) #[]⟩
theorem foldl_rep (a : Array Nat) : ∀ (n : Nat) (acc : Array Nat), ((List.replicate n a).foldl (· ++ ·) acc).toList = acc.toList ++ (List.replicate n a.toList).flatten
  | 0, acc => by simp
  | n + 1, acc => by
    rw [List.replicate_succ, List.foldl_cons, foldl_rep a n, List.replicate_succ, List.flatten_cons, Array.toList_append, List.append_assoc]
theorem repS_tl (z : Str) (n : Nat) : (repS z n).cps.toList = (List.replicate n z.cps.toList).flatten := by
  unfold repS
  rw [foldl_rep]
  simp
section
variable {X : Cx} {E : XK}
def kMulS : KB := fun x y S R _ => ∃ z k, x = .str z ∧ y = .int k ∧ 1 < k ∧ k ≤ 4000 ∧ 0 < z.length ∧ z.length ≤ 1000 ∧ R (.str (repS z k.toNat)) S
theorem op_mulS : OpR X (binaryOp .Mult) (fun x y H Q => ∃ z k, x = .str z ∧ y = .int k ∧ 1 < k ∧ k ≤ 4000 ∧ 0 < z.length ∧ z.length ≤ 1000 ∧ Q (.str (repS z k.toNat)) H) := by
  intro pins s σ H x y v u Q I rx ry h
  obtain ⟨z, k, rfl, rfl, k1, k2, z0, z1, q⟩ := h
  obtain ⟨t, rfl⟩ := rx
  obtain ⟨t', rfl⟩ := ry
  have e1 : (k == 1 || z.length == 0) = false := by
    have a : (k == 1) = false := by simpa using (show k ≠ 1 by omega)
    have b : (z.length == 0) = false := by simpa using (show z.length ≠ 0 by omega)
    rw [a, b]; rfl
  have hl : z.length * k.toNat ≤ 4000000 := Nat.le_trans (Nat.mul_le_mul z1 (show k.toNat ≤ 4000 by omega)) (by decide)
  refine PySem.P.mul_str (by have a : decide (k < -(2 ^ 63 : Int)) = false := decide_eq_false (by omega); have b : decide (k ≥ (2 ^ 63 : Int)) = false := decide_eq_false (by omega); rw [a, b]; rfl) (fun _ _ => ?_) (fun _ _ => ?_) ?_
  · have : (1000 : Int) ≤ (2 ^ 63 - 1 : Int) / k := (Int.le_ediv_iff_mul_le (by omega)).mpr (by omega)
    omega
  · exact decide_eq_false (by rw [sizeLine_eq]; omega)
  · rw [if_neg (by omega), if_neg (by rw [e1]; exact Bool.false_ne_true)]
    refine ⟨?_, .str _, H, I.tok _, ⟨_, rfl⟩, q⟩
    show (repS z k.toNat).cps.size ≤ sizeLine
    rw [← Array.length_toList, repS_tl, List.length_flatten, List.map_replicate, List.sum_replicate_nat, Array.length_toList, sizeLine_eq]
    show k.toNat * z.length ≤ _
    rw [Nat.mul_comm]
    omega
theorem cv_mulS : Conv X.K E kMulS (fun x y H Q => ∃ z k, x = .str z ∧ y = .int k ∧ 1 < k ∧ k ≤ 4000 ∧ 0 < z.length ∧ z.length ≤ 1000 ∧ Q (.str (repS z k.toNat)) H) := by
  intro Z x y S v u H R RE Q ok rx ry ⟨z, k, e1, e2, h1, h2, h3, h4, q⟩ po xo
  subst e1 e2
  cases rx; cases ry
  exact ⟨_, _, rfl, rfl, h1, h2, h3, h4, po _ _ _ _ q .refl ok (.str _)⟩
end
theorem occ_one (c : Nat) (j : Str) : (!(Builtin.Str.occurrences j ⟨#[c]⟩ 0 j.length 1).isEmpty) = decide (c ∈ j.cps.toList) := by
  have := SX.in_one j.cps.toList c
  rwa [SX.S_tl] at this

/-! ### z[::-1] of a text -/
def revSOk (z y : Str) : Prop := y.length = z.length ∧ ∀ c ∈ y.cps.toList, c ∈ z.cps.toList
theorem revS_ok (z : Str) (t u : Tok) : ∃ y, PySem.sliceMade z t none none (some (-1, u)) = .str y ∧ revSOk z y := by
  have e : PySem.sliceMade z t none none (some (-1, u)) = .str (PySem.Txt.sliceBy z none none (-1, u)) := by
    unfold PySem.sliceMade PySem.Txt.sliceBy
    have h : (((some ((-1 : Int), u)).map (·.1)).getD 1 == 1) = false := rfl
    rw [h, Bool.false_and]
    rfl
  refine ⟨_, e, step_rev_len z u, fun c hc => ?_⟩
  rw [step_rev_list] at hc
  obtain ⟨k, hk, rfl⟩ := List.mem_map.mp hc
  have lt : z.length - 1 - k < z.cps.size := by
    have := List.mem_range.mp hk
    show _ < z.length
    omega
  simp only [Array.getD, lt, dif_pos]
  exact Array.getElem_mem_toList lt
section
variable {X : Cx} {E : XK} {ra : TR}
def tRevS (te : TE) : TE := fun σ H Q => te σ H fun x H1 => ∃ z, x = .str z ∧ z.length ≤ sizeLine ∧ ∀ y, revSOk z y → Q (.str y) H1
theorem pe_revS {e : Expr} {te : TE} {k : Nat} {p1 p2 p3 pos : Pos} (he : PE X e te) : PE X (.Subscript e (.Slice none none (some (.UnaryOp .USub (.Constant (.int 1) k p1) p2)) p3) pos) (tRevS te) := by
  refine ⟨fun pins s σ H Q I h => ?_⟩
  refine Subscript_ (thn (he.run pins s σ H _ I h) fun v s1 ⟨x, H1, I1, r1, q1⟩ => ?_)
  obtain ⟨z, ex, hz, q⟩ := q1
  subst ex
  obtain ⟨t, rfl⟩ := r1
  have hst : L2.PO X (some (.UnaryOp .USub (.Constant (.int 1) k p1) p2)) (tPart (tUn (rU fun i => .int (-i)) (tC (.int 1)))) := po_some (pe_un un_neg pe_int)
  refine wpAny_Slice (thn (po_none.run pins s1 σ H1 (fun o H2 => o = none ∧ H2 = H1) I1 ⟨rfl, rfl⟩) fun vl s2 ⟨l, H2, I2, pl, el, e2⟩ => ?_)
  subst el e2
  refine thn (po_none.run pins s2 σ H2 (fun o H3 => o = none ∧ H3 = H2) I2 ⟨rfl, rfl⟩) fun vu s3 ⟨u, H3, I3, pu, eu, e3⟩ => ?_
  subst eu e3
  refine thn (hst.run pins s3 σ H3 (fun o H4 => o = some (-1) ∧ H4 = H3) I3 ⟨1, rfl, -1, rfl, rfl, rfl⟩) fun vs s4 ⟨o, H4, I4, ps, eo, e4⟩ => ?_
  subst eo e4
  have I5 : Inv X pins σ H4 { s4 with heap := s4.heap.push { cls := .type "slice", data := .fields #[vl, vu, vs] } } := I4.kept (t' := s4.toks) fun b ob q => Heap.get?_push_of_some _ q
  show wpAny (model X.prog X.w) X.A (subscriptTail e (.Slice none none (some (.UnaryOp .USub (.Constant (.int 1) k p1) p2)) p3) (.str z t) (.ref s4.heap.objs.size)) (EP X pins σ Q) X.xe { s4 with heap := s4.heap.push { cls := .type "slice", data := .fields #[vl, vu, vs] } }
  cases pl
  cases pu
  obtain ⟨tk, rfl⟩ : ∃ tk, vs = .int (-1) tk := by
    cases ps
    exact ⟨_, rfl⟩
  refine tail_any (ops := [.str z t, .ref s4.heap.objs.size]) (typeIs_str _ z t) (PySem.F.slot_str_getitem.lookup) ?_ (by with_unfolding_all rfl)
  refine wpAny_getItem_str_slice (l := none) (u := none) (st := some (-1, tk)) ⟨_, Heap.get?_push_size _ rfl, rfl, rfl⟩ rfl ?_
  obtain ⟨y, ey, ok⟩ := revS_ok z t tk
  rw [ey]
  exact ⟨by rw [ok.1]; exact hz, .str y, _, I5.tok _, ⟨_, rfl⟩, q y ok⟩
def rRevS (ra : TR) : TR := fun σ S R RE => ra σ S (fun x S1 => ∃ z, x = .str z ∧ z.length ≤ sizeLine ∧ ∀ y, revSOk z y → R (.str y) S1) RE
theorem et_revS {e : Expr} {k : Nat} {p1 p2 p3 pos : Pos} (ha : ET X E e ra) : ET X E (.Subscript e (.Slice none none (some (.UnaryOp .USub (.Constant (.int 1) k p1) p2)) p3) pos) (rRevS ra) :=
  ⟨pe_weak (pe_revS ha.pe) fun sl H Q ⟨⟨Z, σ, S, R, RE, fr, ok, w, po, xo⟩⟩ => ⟨Z, σ, S, _, RE, fr, ok, w, fun x S1 v H1 k1 le1 ok1 rep => by
    obtain ⟨z, rfl, hz, k1⟩ := k1
    cases rep
    exact ⟨z, rfl, hz, fun y hy => po _ _ _ _ (k1 y hy) le1 ok1 (.str _)⟩, xo⟩⟩
end

/-! the text -/
abbrev T0 : List (Addr × Str) := []
/-! numbers -/
def gcdI (a b : Int) : Int := (Int.gcd a b : Int)
theorem gcdI_step {a b : Int} (hb : 0 < b) : gcdI b (a % b) = gcdI a b := by
  unfold gcdI
  rw [Int.gcd_comm a b, Int.emod_def, Int.mul_comm b, Int.gcd_sub_mul_right_right]
theorem gcdI_zero {a : Int} (ha : 0 < a) : gcdI a 0 = a := by
  unfold gcdI
  rw [Int.gcd_zero_right]
  omega
theorem gcdI_pos {a b : Int} (ha : 0 < a) : 0 < gcdI a b := by
  unfold gcdI
  have := Int.gcd_pos_of_ne_zero_left b (show a ≠ 0 by omega)
  omega
theorem gcdI_le {a b : Int} (ha : 0 < a) : gcdI a b ≤ a := by
  unfold gcdI
  exact Int.le_of_dvd ha (Int.gcd_dvd_left ..)
theorem gcdI_comm (a b : Int) : gcdI a b = gcdI b a := by unfold gcdI; rw [Int.gcd_comm]
theorem gcdI_one {a : Int} : gcdI a 1 = 1 := by
  unfold gcdI
  rw [Int.gcd_one_right]
  rfl
theorem emod_lt {a b : Int} (hb : 0 < b) : 0 ≤ a % b ∧ a % b < b := ⟨Int.emod_nonneg _ (by omega), Int.emod_lt_of_pos _ hb⟩
/-- within n bits, above 0 -/
structure Pn (n : Nat) (a : Int) : Prop where
  pos : 0 < a
  lt : a.natAbs < 2 ^ n
theorem Pn.up {n m : Nat} {a : Int} (h : Pn n a) (le : n ≤ m) : Pn m a := ⟨h.pos, Nat.lt_of_lt_of_le h.lt (Nat.pow_le_pow_right (by decide) le)⟩
theorem Pn.of {n : Nat} {a : Int} (h : 0 < a) (l : a < 2 ^ n) : Pn n a := ⟨h, by
  have e : ((2 ^ n : Nat) : Int) = (2 : Int) ^ n := by norm_cast
  omega⟩
theorem Pn.le {n : Nat} {a b : Int} (h : Pn n b) (p : 0 < a) (l : a ≤ b) : Pn n a := ⟨p, wide_le (by omega) l h.lt⟩
theorem Pn.mul {n m : Nat} {a b : Int} (h : Pn n a) (k : Pn m b) : Pn (n + m) (a * b) := ⟨Int.mul_pos h.pos k.pos, wide_lt h.lt k.lt⟩
theorem Pn.mulW {n m : Nat} {a b : Int} (h : Pn n a) (k : Pn m b) (l : n + m ≤ 1000000 := by decide) (hn : 0 < n := by decide) (hm : 0 < m := by decide) : IntMulOk a b := (wide_mul h.lt k.lt hn hm l).ok
/-- the left one within 64 bits -/
theorem mulL {a b : Int} (h : -(2 ^ 64) < a ∧ a < 2 ^ 64) : IntMulOk a b := CMul.ok (.inl h)
theorem Pn.divW {n : Nat} {b : Int} (h : Pn n b) (x : Int) (l : n ≤ 9000 := by decide) (hn : 0 < n := by decide) : CDivP x b := ⟨h.pos, PyProof.noPylong_of_log2 (wide_div (i := x) h.pos h.lt hn l).2⟩
theorem div_small {b : Int} (h : 0 < b) (l : b < 2 ^ 64) (x : Int) : CDivP x b := (Pn.of (n := 64) h l).divW x
theorem Pn.gcd {n : Nat} {a b : Int} (h : Pn n a) : Pn n (gcdI a b) := h.le (gcdI_pos h.pos) (gcdI_le h.pos)
/-! lowest terms -/
def lwA (a b : Int) : Int := a / gcdI a b
def lwB (a b : Int) : Int := b / gcdI a b
theorem Pn.lwA {n : Nat} {a b : Int} (h : Pn n a) : Pn n (lwA a b) :=
  h.le (Int.ediv_pos_of_pos_of_dvd h.pos (by have := gcdI_pos (b := b) h.pos; omega) (Int.gcd_dvd_left ..)) (Int.ediv_le_self _ (by have := h.pos; omega))
theorem Pn.lwB {n : Nat} {a b : Int} (ha : 0 < a) (h : Pn n b) : Pn n (lwB a b) :=
  h.le (Int.ediv_pos_of_pos_of_dvd h.pos (by have := gcdI_pos (b := b) ha; omega) (Int.gcd_dvd_right ..)) (Int.ediv_le_self _ (by have := h.pos; omega))
theorem gcd_low {a b : Int} (ha : 0 < a) : gcdI (lwA a b) (lwB a b) = 1 := by
  have h := gcdI_pos (b := b) ha
  unfold lwA lwB
  unfold gcdI at h ⊢
  rw [Int.gcd_ediv_gcd_ediv_gcd (by omega)]
  rfl
/-- a fraction in lowest terms, both parts within n bits -/
structure Fr (n : Nat) (x y : Int) : Prop where
  a : Pn n x
  b : Pn n y
  g : gcdI x y = 1
theorem Fr.up {n m : Nat} {a b : Int} (h : Fr n a b) (le : n ≤ m) : Fr m a b := ⟨h.a.up le, h.b.up le, h.g⟩
theorem Fr.low {n : Nat} {a b : Int} (ha : Pn n a) (hb : Pn n b) : Fr n (lwA a b) (lwB a b) := ⟨ha.lwA, hb.lwB ha.pos, gcd_low ha.pos⟩
theorem Fr.lwA {n : Nat} {a b : Int} (h : Fr n a b) : lwA a b = a := by unfold Gd.lwA; rw [h.g, Int.ediv_one]
theorem Fr.lwB {n : Nat} {a b : Int} (h : Fr n a b) : lwB a b = b := by unfold Gd.lwB; rw [h.g, Int.ediv_one]
/-- a tree of it -/
def frT (a b : Int) : T := .tup [.int a, .int b]
/-! while, by an invariant and a measure -/
theorem while_inv {tc : TRB} {rb : TRS} {D : EnT} {σ : Fm} {S : Store} (I : Fm → Store → Prop) (μ : Fm → Store → Nat) (h0 : I σ S)
    (turn : ∀ σ S, I σ S → ∀ N : Fm → Store → Prop, (∀ σ' S', I σ' S' → μ σ' S' < μ σ S → N σ' S') → tc σ S (fun c S1 => if c = true then rb { D with nx := N, ct := N, bk := D.nx } σ S1 else D.nx σ S1) D.ex) : sWhile tc rb D σ S :=
  ⟨fun m σ S => I σ S ∧ μ σ S = m, ⟨_, h0, rfl⟩, fun m σ S ⟨i, e⟩ => turn σ S i _ fun σ' S' i' l => ⟨μ σ' S', by omega, i', rfl⟩⟩
theorem ite_d {c : Prop} [Decidable c] {A B : Prop} (h : c → A) (h' : ¬ c → B) : if (decide c) = true then A else B := by
  by_cases e : c
  · rw [if_pos (decide_eq_true e)]; exact h e
  · rw [if_neg (by simp [e])]; exact h' e
/-- one statement, then the rest -/
theorem sSeq_i {ra rb : TRS} {D : EnT} {σ : Fm} {S : Store} (h : ∀ N : Fm → Store → Prop, (∀ σ' S', rb D σ' S' → N σ' S') → ra { D with nx := N } σ S) : sSeq ra rb D σ S := h _ fun _ _ q => q
theorem sc_common_divisor : FnScope ["one", "other"] ["one", "other"] (defScope s_common_divisor) := ⟨rfl, rfl, rfl, by decide +kernel, rfl, by decide +kernel, by decide +kernel⟩
def sp_common_divisor : SpT := fun ts S R _ => match ts with
  | [.int a, .int b] => 0 < a ∧ 0 ≤ b ∧ R (.int (gcdI a b)) S
  | _ => False
theorem ok_common_divisor {P : Program} {w : World} {K : PySem.W.Frag} {mg : Str → Option Value} {base : Heap} {f : Addr} {fd : FuncData}   (F : Fun K "common_divisor" "common_divisor" s_common_divisor f fd)
    : FnT P w K mg base 1 f fd ["one", "other"] sp_common_divisor := by
  refine okT F sc_common_divisor (by intro ts S R RE h; unfold sp_common_divisor at h; split at h <;> first | rfl | exact h.elim) (fun cdv A out s H E hg hr => (bs_cons (ss_while (passes_of rfl) (tt_cmp op_gt cv_B2n (et_var (pv 1)) et_int (nomark _)) (bs_one (ss_par (i := 0) (j := 1) (by rfl) sc_common_divisor.nd rfl rfl (by decide) rfl rfl (at_cons (et_var (pv 1)) (at_cons (et_op op_mod cv_I2 (et_var (pv 0)) (et_var (pv 1))) at_nil)) (by rfl))))
    (bs_one (ss_ret (et_var (pv 0)))))) ?_
  intro ts S R RE h
  unfold sp_common_divisor at h
  split at h
  · rename_i a b
    obtain ⟨ha, hb, q⟩ := h
    refine while_inv (fun σ S' => S' = S ∧ ∃ x y : Int, σ = [some (.int x), some (.int y)] ∧ 0 < x ∧ 0 ≤ y ∧ gcdI x y = gcdI a b) (fun σ _ => match σ with | [_, some (.int y)] => y.toNat | _ => 0) ⟨rfl, a, b, rfl, ha, hb, rfl⟩ ?_
    rintro σ S' ⟨rfl, x, y, rfl, hx, hy, g⟩ N hN
    simp only [sRet, sPar, rVar, rC, rBin, rTest, aNil, aCons, kI2, kI2n, T.bl.injEq, List.cons.injEq, Option.some.injEq, List.getElem?_cons_zero, List.getElem?_cons_succ, List.set_cons_zero, List.set_cons_succ, exists_eq_left', exists_and_left, and_true, and_assoc]
    refine ite_d (fun c => ?_) (fun c => ?_)
    · have := emod_lt (a := x) c
      exact ⟨c, hN _ _ ⟨rfl, y, _, rfl, c, this.1, (gcdI_step c).trans g⟩ (by show (x % y).toNat < y.toNat; omega)⟩
    · have e : y = 0 := by omega
      subst e
      rw [gcdI_zero hx] at g
      subst g
      exact q
  · exact h.elim
/-! of what kind a value is -/
def kindsT : List String := ["int", "bool", "str", "tuple", "list"]
def isK : T → String → Bool
  | .int _, n => n == "int"
  | .bl _, n => n == "bool" || n == "int"
  | .str _, n => n == "str"
  | .tup _, n => n == "tuple"
  | .lst _, n => n == "list"
  | .scr _, n => n == "list"
  | .cell _, n => n == "list"
  | _, _ => false
/-- a value of which the kind is known -/
def ValT (K : PySem.W.Frag) (S : Store) (x : T) : Prop := ∃ t, TyT K S x t ∧ ∀ n ∈ kindsT, PySem.W.kitOne K t (.type n) = some (isK x n)
theorem kind_of {K : PySem.W.Frag} {S : Store} {x : T} {ty : String} (h : TyT K S x (.type ty)) (e : kindsT.all (fun n => kitB ty n == some (isK x n)) = true) : ValT K S x :=
  ⟨_, h, fun n m => kit_ty (by have := List.all_eq_true.mp e n m; simpa using this)⟩
section
variable {K : PySem.W.Frag} {S : Store}
theorem ValT.non : ValT K S .non := kind_of .non (by decide +kernel)
theorem ValT.bl {b : Bool} : ValT K S (.bl b) := kind_of (.bl b) (by show (kindsT.all fun n => kitB "bool" n == some (isK (.bl true) n)) = true; decide +kernel)
theorem ValT.int {i : Int} : ValT K S (.int i) := kind_of (.int i) (by show (kindsT.all fun n => kitB "int" n == some (isK (.int 0) n)) = true; decide +kernel)
theorem ValT.str {z : Str} : ValT K S (.str z) := kind_of (.str z) (by show (kindsT.all fun n => kitB "str" n == some (isK (.str Str.empty) n)) = true; decide +kernel)
theorem ValT.tup {l : List T} : ValT K S (.tup l) := kind_of (.tup l) (by show (kindsT.all fun n => kitB "tuple" n == some (isK (.tup []) n)) = true; decide +kernel)
theorem ValT.lst {l : List T} : ValT K S (.lst l) := kind_of (.lst l) (by show (kindsT.all fun n => kitB "list" n == some (isK (.lst []) n)) = true; decide +kernel)
theorem ValT.is {x : T} {n : String} (h : ValT K S x) (m : n ∈ kindsT) {R : T → Store → Prop} {RE : XT} (q : R (.bl (isK x n)) S) : kIsi K [x, .ty n] S R RE := by
  obtain ⟨t, ty, k⟩ := h
  exact ⟨x, .ty n, t, .type n, _, rfl, .ty n, ty, k n m, q⟩
end
def isInt : T → Bool
  | .int _ => true
  | _ => false
def isPos : T → Bool
  | .int i => decide (0 < i)
  | _ => false
theorem sc_is_integer : FnScope ["value"] ["value"] (defScope s_is_integer) := ⟨rfl, rfl, rfl, by decide +kernel, rfl, by decide +kernel, by decide +kernel⟩
def sp_is_integer (K : PySem.W.Frag) : SpT := fun ts S R _ => match ts with
  | [x] => ValT K S x ∧ R (.bl (isInt x)) S
  | _ => False
theorem ok_is_integer {P : Program} {w : World} {K : PySem.W.Frag} {mg : Str → Option Value} {base : Heap} {f : Addr} {fd : FuncData}   (F : Fun K "is_integer" "is_integer" s_is_integer f fd)
    (n_isinstance : mg "isinstance" = none)
    (n_bool : mg "bool" = none)
    (n_int : mg "int" = none)
    : FnT P w K mg base 1 f fd ["value"] (sp_is_integer K) := by
  refine okT F sc_is_integer (by intro ts S R RE h; unfold sp_is_integer at h; split at h <;> first | rfl | exact h.elim) (fun cdv A out s H E hg hr => (bs_one (ss_ret (et_and (et_blt call_isiY (cv_isi (K := K)) (by rfl) n_isinstance PyProof.Rows.boot_isinstance (at_cons (et_var (pv 0)) (at_cons (et_blty (by rfl) n_int PyProof.Rows.boot_int) at_nil))) (et_one (et_not (et_blt call_isiY (cv_isi (K := K)) (by rfl) n_isinstance PyProof.Rows.boot_isinstance (at_cons (et_var (pv 0)) (at_cons (et_blty (by rfl) n_bool PyProof.Rows.boot_bool) at_nil))))))))) ?_
  intro ts S R RE h
  unfold sp_is_integer at h
  split at h
  · rename_i x
    obtain ⟨hv, q⟩ := h
    simp only [sRet, rVar, rC, vAnd, vNot, aNil, aCons, rArgs, startT, Option.some.injEq, List.map_cons, List.map_nil, List.length_cons, List.length_nil, List.append_nil, List.getElem?_cons_zero, List.replicate_zero, exists_eq_left', Nat.sub_self, Nat.zero_add]
    refine hv.is (n := "int") (by decide) ?_
    refine ⟨_, rfl, ?_⟩
    cases e : isK x "int" with
    | true =>
      rw [if_pos rfl]
      refine hv.is (n := "bool") (by decide) ?_
      refine ⟨_, rfl, ?_⟩
      have : (!isK x "bool") = isInt x := by cases x <;> first | rfl | (cases e; done)
      rw [this]
      exact q
    | false =>
      have : isInt x = false := by cases x <;> first | rfl | (cases e; done)
      rw [this] at q
      exact q
  · exact h.elim
theorem sc_is_positive : FnScope ["value"] ["value"] (defScope s_is_positive) := ⟨rfl, rfl, rfl, by decide +kernel, rfl, by decide +kernel, by decide +kernel⟩
def sp_is_positive (K : PySem.W.Frag) : SpT := fun ts S R _ => match ts with
  | [x] => ValT K S x ∧ R (.bl (isPos x)) S
  | _ => False
theorem ok_is_positive {P : Program} {w : World} {K : PySem.W.Frag} {mg : Str → Option Value} {base : Heap} {f : Addr} {fd : FuncData} {g_is_integer : Addr} {gd_is_integer : FuncData} (F : Fun K "is_positive" "is_positive" s_is_positive f fd)
    (G_is_integer : FnT P w K mg base 1 g_is_integer gd_is_integer ["value"] (sp_is_integer K))
    (m_is_integer : mg "is_integer" = some (.ref g_is_integer))
    (k_is_integer : PySem.W.keepIn K (.ref g_is_integer) = true)
    (b_is_integer : Binds K gd_is_integer ["value"] [])
    : FnT P w K mg base 2 f fd ["value"] (sp_is_positive K) := by
  refine okT F sc_is_positive (by intro ts S R RE h; unfold sp_is_positive at h; split at h <;> first | rfl | exact h.elim) (fun cdv A out s H E hg hr => (bs_one (ss_ret (et_and (et_callD G_is_integer hg (hr.mono (by decide)) (by rfl) m_is_integer k_is_integer (CallD.all b_is_integer) (passL2N (L2N.takes_of rfl rfl rfl rfl)) (at_cons (et_var (pv 0)) at_nil)) (et_one (et_cmp op_gt cv_B2n (et_var (pv 0)) et_int (nomark _))))))) ?_
  intro ts S R RE h
  unfold sp_is_positive at h
  split at h
  · rename_i x
    obtain ⟨hv, q⟩ := h
    simp only [sp_is_integer, sRet, rVar, rC, rBin, vAnd, aNil, aCons, rCall, kI2n, startT, T.bl.injEq, Option.some.injEq, List.map_cons, List.map_nil, List.length_cons, List.length_nil, List.append_nil, List.getElem?_cons_zero, List.replicate_zero, exists_eq_left', Nat.sub_self, Nat.zero_add]
    refine ⟨hv, ?_⟩
    cases x <;> first | exact q | (simp only [isInt, isPos, rCallOwn, iZipT, kMaxT, rRevT, rDix2, sFrzV, sDrp, rSlC, rDget2, sSeq, sAsg, sDrop, sRet, sRetN, sIf, sNext, sPar, sPar3, sFor, sRaise, sFldT, sNo, rNo, rVar, rFrz, rC, rBin, rTest, bAnd, bOr, bNot, bIf, vAnd, vOr, vNot, rIf, rNeg, aNil, aCons, rTup, rLst, rLstC, rArgs, gNameT, gNilT, gConsT, gTupT, gSubT, iSeq, iRng1T, iRng2T, rLc, rCall, rCallN, rCallS, rFld, rCon, rMake, rMakeN, rMakeP, rMeth, rMethK, rProp, rClsFn, rOpOwn, rSl, oNone, oSome, rFmt, kFmt, rJs, rLidx, rChain, rTru, truT, rStr0, rPart, rSplit, kIntS, gStarT, kStrOwn, kAddC, rDct, kInt1, iEnumT, rMakeStar, rJoin, iZipM, iSeqH, iEnumL, rLc2, rTruC, rLcP, kLenOwn, kBoolOwn, rCMeth, rClsStar, rClsMake, rLz, rRevL, rRev2, rCMethK, rExcV, rMut, kAdd, kI2, kI2n, kMul, kIx, kIn, kLen, kU, kA2, kDm, kStrI, kAll, kSl, kAppend, kExtend, kTuple, kList, lenT, seqOf, bYes, startT, one, pickG, selG, insOf, putT, flatT, Bool.false_xor, Bool.true_xor, List.all_cons, List.all_nil, Bool.and_self, T.int.injEq, T.bl.injEq, T.str.injEq, T.lst.injEq, T.tup.injEq, T.cell.injEq, T.ins.injEq, Cell.lst.injEq, Cell.ins.injEq, Prod.mk.injEq, List.cons.injEq, Option.some.injEq, List.map_cons, List.map_nil, List.length_cons, List.length_nil, List.cons_append, List.nil_append, List.append_nil, List.getElem?_cons_zero, List.getElem?_cons_succ, List.set_cons_zero, List.set_cons_succ, List.replicate_succ, List.replicate_zero, exists_eq_left, exists_eq_left', exists_and_left, and_true, true_and, and_self, and_assoc, Nat.sub_self, Nat.reduceAdd, Nat.reduceSub, Nat.zero_add, put_put, put_same, reduceIte, Bool.false_eq_true, Bool.true_eq_false, Bool.not_true, Bool.not_false, at_0, at_1, at_2, at_3, at_4, at_5, at_6, at_7, ix_1_0, ix_2_0, ix_2_1, ix_3_0, ix_3_1, ix_3_2, ix_4_0, ix_4_1, ix_4_2, ix_4_3] at q ⊢; exact q)
  · exact h.elim
/-! the pool -/
def PoolT (S : Store) (p : Addr) : Prop := ∃ x d c : Int, S p = some (.lst [.int x, .int d, .int c]) ∧ 0 ≤ x ∧ x < 2147483137 ∧ 0 ≤ d
theorem cutT_ints (ns : List Int) (lo hi : Option Int) : ∃ ms : List Int, cutT (ns.map T.int) lo hi = ms.map T.int := by
  refine ⟨(ns.drop (HT.sIx (ns.map T.int).length 0 lo)).take (HT.sIx (ns.map T.int).length (ns.map T.int).length hi - HT.sIx (ns.map T.int).length 0 lo), ?_⟩
  unfold cutT
  rw [List.map_take, List.map_drop]
theorem at_ints {ns : List Int} {k : Int} (h0 : 0 ≤ k) (c : k < (ns.length : Int)) : ∃ z, atI (ns.map T.int) k = some (.int z) := by
  have hn : k.toNat < ns.length := by omega
  have := atI_nat (xs := ns.map T.int) (j := k.toNat) (v := .int ns[k.toNat]) (by rw [List.getElem?_map, List.getElem?_eq_getElem hn]; rfl)
  rw [show ((k.toNat : Nat) : Int) = k by omega] at this
  exact ⟨_, this⟩
/-- the pool at p goes on -/
def PS (S : Store) (p : Addr) (S' : Store) : Prop := ∃ x d c : Int, 0 ≤ x ∧ x < 2147483137 ∧ 0 ≤ d ∧ S' = S.put p (.lst [.int x, .int d, .int c])
theorem PS.pool {S S' : Store} {p : Addr} (h : PS S p S') : PoolT S' p := by
  obtain ⟨x, d, c, h1, h2, h3, rfl⟩ := h
  exact ⟨x, d, c, put_same, h1, h2, h3⟩
theorem PS.trans {S S' S2 : Store} {p : Addr} (h : PS S p S') (k : PS S' p S2) : PS S p S2 := by
  obtain ⟨x, d, c, h1, h2, h3, rfl⟩ := h
  obtain ⟨x', d', c', h1, h2, h3, rfl⟩ := k
  exact ⟨x', d', c', h1, h2, h3, put_put⟩
theorem sc_l_cell : FnScope ["_law_script", "_law_k", "_law_state", "_law_figure"] ["_law_script", "_law_k"] (defScope s_l_cell) := ⟨rfl, rfl, rfl, by decide +kernel, rfl, by decide +kernel, by decide +kernel⟩
def sp_l_cell : SpT := fun ts S R _ => match ts with
  | [.scr ts, .int k] => (∃ ns : List Int, ts = ns.map T.int ∧ ns.length ≤ 63) ∧ 0 ≤ k ∧ k < 2 ^ 60 ∧ ∀ z : Int, R (.int z) S
  | _ => False
theorem ok_l_cell {P : Program} {w : World} {K : PySem.W.Frag} {mg : Str → Option Value} {base : Heap} {f : Addr} {fd : FuncData}   (F : Fun K "_law_cell" "_law_cell" s_l_cell f fd)
    (n_len : mg "len" = none)
    : FnT P w K mg base 1 f fd ["_law_script", "_law_k"] sp_l_cell := by
  refine okT F sc_l_cell (by intro ts S R RE h; unfold sp_l_cell at h; split at h <;> first | rfl | exact h.elim) (fun cdv A out s H E hg hr => (bs_cons (ss_if (tt_cmp op_lt cv_B2n (et_var (pv 1)) (et_blt call_len cv_len (by rfl) n_len PySem.boot_len (at_cons (et_var (pv 0)) at_nil)) (nomark _)) (bs_one (ss_ret (et_ix ix_seq cv_ix (et_var (pv 0)) (et_var (pv 1)) (fun _ _ => rfl)))) bs_nil)
    (bs_cons (ss_set (i := 2) sc_l_cell.nd rfl (by first | exact Or.inl rfl | exact Or.inr rfl) (et_op op_mod cv_I2 (et_op op_mulG cv_mul et_int (et_op op_addG cv_add (et_op op_addG cv_add (et_op op_mulG cv_mul (et_var (pv 1)) (et_var (pv 1))) (et_op op_mulG cv_mul et_int (et_var (pv 1)))) et_int)) et_int))
    (bs_cons (ss_for (passes_of rfl) rfl (it_seq (et_slice (et_var (pv 0)) ot_none (ot_some et_int))) (gt_name (pg_name (i := 3) sc_l_cell.nd rfl (by first | exact Or.inl rfl | exact Or.inr rfl))) (bs_one (ss_set (i := 2) sc_l_cell.nd rfl (by first | exact Or.inl rfl | exact Or.inr rfl) (et_op op_mod cv_I2 (et_op op_addG cv_add (et_op op_mulG cv_mul (et_var (pv 2)) et_int) (et_var (pv 3))) et_int))))
    (bs_one (ss_ret (et_var (pv 2)))))))) ?_
  intro ts S R RE h
  unfold sp_l_cell at h
  split at h
  · rename_i ts k
    obtain ⟨⟨ns, rfl, h63⟩, h0, hk, q⟩ := h
    simp only [sSeq, sAsg, sRet, sIf, sNext, sFor, rVar, rC, rBin, rTest, aNil, aCons, rArgs, gNameT, iSeq, rSl, oNone, oSome, kAdd, kI2, kI2n, kMul, kIx, kLen, kSl, lenT, seqOf, startT, T.int.injEq, T.bl.injEq, List.cons.injEq, Option.some.injEq, List.map_cons, List.map_nil, List.length_cons, List.length_nil, List.cons_append, List.nil_append, List.getElem?_cons_zero, List.getElem?_cons_succ, List.set_cons_zero, List.set_cons_succ, List.replicate_succ, List.replicate_zero, exists_eq_left', exists_and_left, and_true, and_assoc, Nat.reduceAdd, Nat.reduceSub, Nat.zero_add]
    refine ite_d (fun c => ?_) (fun c => ?_)
    · rw [List.length_map] at c
      obtain ⟨z, hz⟩ := at_ints h0 c
      exact ⟨_, hz, q z⟩
    · refine ⟨mulL (by omega), mulL (by decide), mulL (by decide), by decide, ?_⟩
      obtain ⟨ms, em⟩ := cutT_ints ns none (some 3)
      rw [em]
      refine rLoop_inv (fun _ σ S' => S' = S ∧ ∃ (z : Int) (v : Option T), σ = [some (.scr (ns.map T.int)), some (.int k), some (.int z), v] ∧ 0 ≤ z ∧ z < 2147483137) ⟨rfl, _, none, rfl, (emod_lt (by decide)).1, (emod_lt (by decide)).2⟩ ?_ ?_
      · rintro i t σ S' hi ⟨rfl, z, v, rfl, z0, z1⟩ N hN
        rw [List.getElem?_map] at hi
        obtain ⟨y, _, rfl⟩ := Option.map_eq_some_iff.mp hi
        simp only [sAsg, rVar, rC, rBin, gNameT, kAdd, kI2, kMul, Option.some.injEq, List.getElem?_cons_zero, List.getElem?_cons_succ, List.set_cons_zero, List.set_cons_succ, exists_eq_left', and_assoc]
        exact ⟨mulL (by omega), by decide, hN _ _ ⟨rfl, _, _, rfl, (emod_lt (by decide)).1, (emod_lt (by decide)).2⟩⟩
      · rintro σ S' ⟨rfl, z, v, rfl, _⟩
        simp only [sRet, rVar, Option.some.injEq, List.getElem?_cons_zero, List.getElem?_cons_succ, exists_eq_left']
        exact q z
  · exact h.elim
theorem sc_l_pool : FnScope ["_law_figure", "_law_digits"] ["_law_figure"] (defScope s_l_pool) := ⟨rfl, rfl, rfl, by decide +kernel, rfl, by decide +kernel, by decide +kernel⟩
def sp_l_pool : SpT := fun ts S R _ => match ts with
  | [.int z] => ∀ p S', S p = none → PS S p S' → R (.cell p) S'
  | _ => False
theorem ok_l_pool {P : Program} {w : World} {K : PySem.W.Frag} {mg : Str → Option Value} {base : Heap} {f : Addr} {fd : FuncData}   (F : Fun K "_law_pool" "_law_pool" s_l_pool f fd)
    (n_abs : mg "abs" = none)
    : FnT P w K mg base 1 f fd ["_law_figure"] sp_l_pool := by
  refine okT F sc_l_pool (by intro ts S R RE h; unfold sp_l_pool at h; split at h <;> first | rfl | exact h.elim) (fun cdv A out s H E hg hr => (bs_cons (ss_set (i := 1) sc_l_pool.nd rfl (by first | exact Or.inl rfl | exact Or.inr rfl) (et_if (tt_w (tw_or (tt_cmp op_lt cv_B2n (et_var (pv 0)) et_int (nomark _)) (tw_or1 (tt_cmp op_ge cv_B2n (et_var (pv 0)) (et_op op_pow cv_I2 et_int et_int) (nomark _))))) (et_blt call_abs cv_U (by rfl) n_abs PyProof.Rows.boot_abs (at_cons (et_var (pv 0)) at_nil)) et_int))
    (bs_one (ss_ret (et_lstC (at_cons (et_op op_mod cv_I2 (et_var (pv 0)) et_int) (at_cons (et_var (pv 1)) (at_cons et_int at_nil)))))))) ?_
  intro ts S R RE h
  unfold sp_l_pool at h
  split at h
  · rename_i z
    have m := emod_lt (a := z) (b := 2147483137) (by decide)
    simp only [sSeq, sAsg, sRet, rVar, rC, rBin, rTest, bOr, rIf, aNil, aCons, rLstC, rArgs, gNameT, kI2, kI2n, kU, startT, T.int.injEq, T.bl.injEq, List.cons.injEq, Option.some.injEq, List.map_cons, List.map_nil, List.length_cons, List.length_nil, List.cons_append, List.nil_append, List.getElem?_cons_zero, List.getElem?_cons_succ, List.set_cons_zero, List.set_cons_succ, List.replicate_succ, List.replicate_zero, exists_eq_left', and_true, Nat.reduceAdd, Nat.reduceSub, Nat.zero_add, reduceIte]
    refine ite_d (fun c => ⟨by decide, by decide, fun p hp => h p _ hp ⟨_, _, _, m.1, m.2, by split <;> omega, rfl⟩⟩) (fun c => ⟨⟨by decide, by decide, by decide⟩, ite_d (fun c => ⟨by decide, by decide, fun p hp => h p _ hp ⟨_, _, _, m.1, m.2, by split <;> omega, rfl⟩⟩) (fun c => ⟨by decide, by decide, fun p hp => h p _ hp ⟨_, _, _, m.1, m.2, by omega, rfl⟩⟩)⟩)
  · exact h.elim
theorem sc_l_draw : FnScope ["_law_pool_here", "_law_most", "_law_state", "_law_digit"] ["_law_pool_here", "_law_most"] (defScope s_l_draw) := ⟨rfl, rfl, rfl, by decide +kernel, rfl, by decide +kernel, by decide +kernel⟩
def sp_l_draw : SpT := fun ts S R _ => match ts with
  | [.cell p, .int m] => PoolT S p ∧ Pn 8000 m ∧ ∀ r S', 0 ≤ r → r < m → PS S p S' → R (.int r) S'
  | _ => False
theorem ok_l_draw {P : Program} {w : World} {K : PySem.W.Frag} {mg : Str → Option Value} {base : Heap} {f : Addr} {fd : FuncData}   (F : Fun K "_law_draw" "_law_draw" s_l_draw f fd)
    (n_divmod : mg "divmod" = none)
    : FnT P w K mg base 1 f fd ["_law_pool_here", "_law_most"] sp_l_draw := by
  refine okT F sc_l_draw (by intro ts S R RE h; unfold sp_l_draw at h; split at h <;> first | rfl | exact h.elim) (fun cdv A out s H E hg hr => (bs_cons (ss_asg (et_op op_addG cv_add (et_ix ix_seq cv_ix (et_var (pv 0)) et_int (fun _ _ => rfl)) et_int) (gt_sub (et_var (pv 0)) et_int))
    (bs_cons (ss_set (i := 2) sc_l_draw.nd rfl (by first | exact Or.inl rfl | exact Or.inr rfl) (et_ix ix_seq cv_ix (et_var (pv 0)) et_int (fun _ _ => rfl)))
    (bs_cons (ss_asg (et_op op_mod cv_I2 (et_op op_addG cv_add (et_op op_mulG cv_mul (et_var (pv 2)) (et_op op_addG cv_add (et_op op_mod cv_I2 (et_var (pv 2)) et_int) et_int)) (et_op op_mulG cv_mul et_int (et_ix ix_seq cv_ix (et_var (pv 0)) et_int (fun _ _ => rfl)))) et_int) (gt_sub (et_var (pv 0)) et_int))
    (bs_cons (ss_if (tt_cmp op_gt cv_B2n (et_ix ix_seq cv_ix (et_var (pv 0)) et_int (fun _ _ => rfl)) et_int (nomark _)) (bs_cons (ss_asg (et_blt call_divmodW cv_dm (by rfl) n_divmod PyProof.Rows.boot_divmod (at_cons (et_ix ix_seq cv_ix (et_var (pv 0)) et_int (fun _ _ => rfl)) (at_cons (et_var (pv 1)) at_nil))) (gt_tup (n := 2) (by rfl) (gts_cons (gt_sub (et_var (pv 0)) et_int) (gts_cons (gt_name (pg_name (i := 3) sc_l_draw.nd rfl (by first | exact Or.inl rfl | exact Or.inr rfl))) gts_nil))))
    (bs_one (ss_ret (et_var (pv 3))))) bs_nil)
    (bs_one (ss_ret (et_op op_mod cv_I2 (et_op op_fdivP cv_I2 (et_ix ix_seq cv_ix (et_var (pv 0)) et_int (fun _ _ => rfl)) et_int) (et_var (pv 1)))))))))) ?_
  intro ts S R RE h
  unfold sp_l_draw at h
  split at h
  · rename_i p m
    obtain ⟨⟨x, d, c, hp, x0, x1, d0⟩, hm, q⟩ := h
    refine sSeq_i fun N hN => ?_
    simp only [hp, sAsg, rVar, rC, rBin, gSubT, kAdd, kIx, startT, T.int.injEq, T.cell.injEq, Cell.lst.injEq, Option.some.injEq, List.map_cons, List.map_nil, List.length_cons, List.length_nil, List.cons_append, List.nil_append, List.getElem?_cons_zero, List.set_cons_zero, List.set_cons_succ, List.replicate_succ, List.replicate_zero, exists_eq_left', exists_and_left, Nat.reduceAdd, Nat.reduceSub, Nat.zero_add, at_2, ix_3_2]
    refine hN _ _ ?_
    refine sSeq_i fun N hN => ?_
    simp only [sAsg, rVar, rC, rBin, gNameT, kIx, Cell.lst.injEq, Option.some.injEq, List.getElem?_cons_zero, List.set_cons_zero, List.set_cons_succ, exists_eq_left', exists_and_left, put_same, at_0]
    refine hN _ _ ?_
    refine sSeq_i fun N hN => ?_
    simp only [sAsg, rVar, rC, rBin, gSubT, kAdd, kI2, kMul, kIx, T.int.injEq, T.cell.injEq, Cell.lst.injEq, Option.some.injEq, List.length_cons, List.length_nil, List.getElem?_cons_zero, List.getElem?_cons_succ, List.set_cons_zero, exists_eq_left', exists_and_left, and_assoc, Nat.reduceAdd, Nat.zero_add, put_put, put_same, at_2, ix_3_0]
    have hx2 := emod_lt (a := x) (b := 50023) (by decide)
    have hy := emod_lt (a := x * (x % 50023 + 30013) + 80029 * (c + 1)) (b := 2147483137) (by decide)
    refine ⟨by decide, mulL (by omega), mulL (by decide), by decide, hN _ _ ?_⟩
    generalize (x * (x % 50023 + 30013) + 80029 * (c + 1)) % 2147483137 = y at hy ⊢
    refine sSeq_i fun N hN => ?_
    simp only [sSeq, sAsg, sRet, sIf, sNext, rVar, rC, rBin, rTest, aNil, aCons, rArgs, gNameT, gNilT, gConsT, gTupT, gSubT, kI2n, kIx, kDm, T.int.injEq, T.bl.injEq, T.tup.injEq, T.cell.injEq, Cell.lst.injEq, List.cons.injEq, Option.some.injEq, List.length_cons, List.length_nil, List.getElem?_cons_zero, List.getElem?_cons_succ, List.set_cons_zero, List.set_cons_succ, exists_eq_left', exists_and_left, and_true, true_and, and_assoc, Nat.reduceAdd, Nat.zero_add, put_put, put_same, at_1, ix_3_1]
    refine ite_d (fun cc => ⟨hm.divW _, ?_⟩) (fun cc => hN _ _ ?_)
    · exact q _ _ (emod_lt hm.pos).1 (emod_lt hm.pos).2 ⟨_, _, _, hy.1, hy.2, Int.ediv_nonneg d0 (by have := hm.pos; omega), rfl⟩
    · simp only [sRet, rVar, rC, rBin, kI2, kIx, Cell.lst.injEq, Option.some.injEq, List.getElem?_cons_zero, List.getElem?_cons_succ, exists_eq_left', exists_and_left, put_same, at_0]
      exact ⟨div_small (by decide) (by decide) _, hm.pos, q _ _ (emod_lt hm.pos).1 (emod_lt hm.pos).2 ⟨_, _, _, hy.1, hy.2, d0, rfl⟩⟩
  · exact h.elim
theorem sc_l_low : FnScope ["_law_high_part", "_law_low_part", "_law_lead", "_law_rest"] ["_law_high_part", "_law_low_part"] (defScope s_l_low) := ⟨rfl, rfl, rfl, by decide +kernel, rfl, by decide +kernel, by decide +kernel⟩
def sp_l_low : SpT := fun ts S R _ => match ts with
  | [.int a, .int b] => Pn 8000 a ∧ 0 < b ∧ R (frT (lwA a b) (lwB a b)) S
  | _ => False
theorem ok_l_low {P : Program} {w : World} {K : PySem.W.Frag} {mg : Str → Option Value} {base : Heap} {f : Addr} {fd : FuncData}   (F : Fun K "_law_low" "_law_low" s_l_low f fd)
    : FnT P w K mg base 1 f fd ["_law_high_part", "_law_low_part"] sp_l_low := by
  refine okT F sc_l_low (by intro ts S R RE h; unfold sp_l_low at h; split at h <;> first | rfl | exact h.elim) (fun cdv A out s H E hg hr => (bs_cons (ss_par (i := 2) (j := 3) (by rfl) sc_l_low.nd rfl rfl (by decide) rfl rfl (at_cons (et_var (pv 0)) (at_cons (et_var (pv 1)) at_nil)) (by rfl))
    (bs_cons (ss_while (passes_of rfl) (tt_cmp op_gt cv_B2n (et_var (pv 3)) et_int (nomark _)) (bs_one (ss_par (i := 2) (j := 3) (by rfl) sc_l_low.nd rfl rfl (by decide) rfl rfl (at_cons (et_var (pv 3)) (at_cons (et_op op_mod cv_I2 (et_var (pv 2)) (et_var (pv 3))) at_nil)) (by rfl))))
    (bs_one (ss_ret (et_tup (at_cons (et_op op_fdivP cv_I2 (et_var (pv 0)) (et_var (pv 2))) (at_cons (et_op op_fdivP cv_I2 (et_var (pv 1)) (et_var (pv 2))) at_nil)))))))) ?_
  intro ts S R RE h
  unfold sp_l_low at h
  split at h
  · rename_i a b
    obtain ⟨ha, hb, q⟩ := h
    simp only [sSeq, sPar, rVar, aNil, aCons, startT, List.cons.injEq, Option.some.injEq, List.map_cons, List.map_nil, List.length_cons, List.length_nil, List.cons_append, List.nil_append, List.getElem?_cons_zero, List.getElem?_cons_succ, List.set_cons_zero, List.set_cons_succ, List.replicate_succ, List.replicate_zero, exists_eq_left', exists_and_left, and_true, and_assoc, Nat.reduceAdd, Nat.reduceSub, Nat.zero_add]
    refine while_inv (fun σ S' => S' = S ∧ ∃ x y : Int, σ = [some (.int a), some (.int b), some (.int x), some (.int y)] ∧ 0 < x ∧ 0 ≤ y ∧ gcdI x y = gcdI a b) (fun σ _ => match σ with | [_, _, _, some (.int y)] => y.toNat | _ => 0) ⟨rfl, a, b, rfl, ha.pos, by omega, rfl⟩ ?_
    rintro σ S' ⟨rfl, x, y, rfl, hx, hy, g⟩ N hN
    simp only [sRet, sPar, rVar, rC, rBin, rTest, aNil, aCons, rTup, kI2, kI2n, T.bl.injEq, List.cons.injEq, Option.some.injEq, List.length_cons, List.length_nil, List.getElem?_cons_zero, List.getElem?_cons_succ, List.set_cons_zero, List.set_cons_succ, exists_eq_left', exists_and_left, and_true, and_assoc, Nat.reduceAdd, Nat.zero_add]
    refine ite_d (fun c => ?_) (fun c => ?_)
    · have := emod_lt (a := x) c
      exact ⟨c, hN _ _ ⟨rfl, y, _, rfl, c, this.1, (gcdI_step c).trans g⟩ (by show (x % y).toNat < y.toNat; omega)⟩
    · have e : y = 0 := by omega
      subst e
      rw [gcdI_zero hx] at g
      subst g
      exact ⟨ha.gcd.divW _, ha.gcd.divW _, by decide, q⟩
  · exact h.elim
/-! fractions, good arguments only -/
def sgn (l r : Int) : Int := if l < r then -1 else if r < l then 1 else 0
theorem Pn.isPos {n : Nat} {a : Int} (h : Pn n a) : isPos (.int a) = true := decide_eq_true h.pos
theorem eqI {a b : Int} {S : Store} {R : T → Store → Prop} {RE : XT} {ng : Bool} (q : R (.bl (ng ^^ decide (a = b))) S) : kEqG ng (.int a) (.int b) S R RE := .inl ⟨rfl, q⟩
theorem eqI0 {a b : Int} {S : Store} {R : T → Store → Prop} {RE : XT} (q : R (.bl (decide (a = b))) S) : kEqG false (.int a) (.int b) S R RE := eqI (by simpa using q)
/-- all are fractions -/
def FrL (n : Nat) (l : List T) : Prop := ∀ x ∈ l, ∃ a b, x = frT a b ∧ Fr n a b
theorem FrL.one {n : Nat} {a b : Int} (h : Fr n a b) : FrL n [frT a b] := fun x m => by
  rw [List.mem_singleton.mp m]; exact ⟨a, b, rfl, h⟩
theorem FrL.two {n : Nat} {a b c d : Int} (h : Fr n a b) (k : Fr n c d) : FrL n [frT a b, frT c d] := fun x m => by
  rcases List.mem_cons.mp m with rfl | m
  · exact ⟨a, b, rfl, h⟩
  · rw [List.mem_singleton.mp m]; exact ⟨c, d, rfl, k⟩
/-- a value of which all is known that is asked of it -/
structure AnyV (K : PySem.W.Frag) (S : Store) (x : T) : Prop where
  v : ValT K S x
  l : ∀ ts, x = .tup ts → (∀ y ∈ ts, ValT K S y) ∧ ts.length ≤ 100
  n : ∀ a b, x = .tup [.int a, .int b] → 0 < a → 0 < b → Pn 8000 a ∧ Pn 8000 b
def goodF : T → Bool
  | .tup [.int a, .int b] => decide (0 < a) && decide (0 < b) && decide (gcdI a b = 1)
  | _ => false
theorem Fr.good {n : Nat} {a b : Int} (h : Fr n a b) : goodF (frT a b) = true := by
  simp [goodF, frT, h.a.pos, h.b.pos, h.g]
theorem Fr.any {K : PySem.W.Frag} {S : Store} {a b : Int} (h : Fr 8000 a b) : AnyV K S (frT a b) :=
  ⟨.tup, fun ts e => by
    have e := T.tup.inj e
    subst e
    refine ⟨fun y m => ?_, by simp⟩
    simp only [List.mem_cons, List.not_mem_nil, or_false] at m
    rcases m with rfl | rfl <;> exact .int, fun x y e _ _ => by
    have e := T.tup.inj e
    simp only [List.cons.injEq, T.int.injEq, and_true] at e
    obtain ⟨rfl, rfl⟩ := e
    exact ⟨h.a, h.b⟩⟩
theorem goodF_negL {y z : T} (h : isPos y = false) : goodF (.tup [y, z]) = false := by
  cases hg : goodF (.tup [y, z]) with
  | false => rfl
  | true =>
    unfold goodF at hg
    split at hg
    · rename_i a b e
      have e := T.tup.inj e
      simp only [List.cons.injEq, and_true] at e
      obtain ⟨rfl, rfl⟩ := e
      have : decide (0 < a) = false := h
      rw [this] at hg
      simp at hg
    · cases hg
theorem goodF_negR {y z : T} (h : isPos z = false) : goodF (.tup [y, z]) = false := by
  cases hg : goodF (.tup [y, z]) with
  | false => rfl
  | true =>
    unfold goodF at hg
    split at hg
    · rename_i a b e
      have e := T.tup.inj e
      simp only [List.cons.injEq, and_true] at e
      obtain ⟨rfl, rfl⟩ := e
      have : decide (0 < b) = false := h
      rw [this] at hg
      simp at hg
    · cases hg
theorem isPos_int {x : T} (h : isPos x = true) : ∃ a, x = .int a ∧ 0 < a := by
  cases x <;> first | (cases h; done) | skip
  rename_i i
  exact ⟨i, rfl, of_decide_eq_true h⟩
theorem sc_is_fraction : FnScope ["value", "top", "bottom"] ["value"] (defScope s_is_fraction) := ⟨rfl, rfl, rfl, by decide +kernel, rfl, by decide +kernel, by decide +kernel⟩
def sp_is_fraction (K : PySem.W.Frag) : SpT := fun ts S R _ => match ts with
  | [x] => AnyV K S x ∧ R (.bl (goodF x)) S
  | _ => False
theorem ok_is_fraction {P : Program} {w : World} {K : PySem.W.Frag} {mg : Str → Option Value} {base : Heap} {f : Addr} {fd : FuncData} {g_common_divisor g_is_positive : Addr} {gd_common_divisor : FuncData} {gd_is_positive : FuncData} (F : Fun K "is_fraction" "is_fraction" s_is_fraction f fd)
    (n_len : mg "len" = none)
    (n_isinstance : mg "isinstance" = none)
    (n_tuple : mg "tuple" = none)
    (G_common_divisor : FnT P w K mg base 1 g_common_divisor gd_common_divisor ["one", "other"] sp_common_divisor)
    (m_common_divisor : mg "common_divisor" = some (.ref g_common_divisor))
    (k_common_divisor : PySem.W.keepIn K (.ref g_common_divisor) = true)
    (b_common_divisor : Binds K gd_common_divisor ["one", "other"] [])
    (G_is_positive : FnT P w K mg base 2 g_is_positive gd_is_positive ["value"] (sp_is_positive K))
    (m_is_positive : mg "is_positive" = some (.ref g_is_positive))
    (k_is_positive : PySem.W.keepIn K (.ref g_is_positive) = true)
    (b_is_positive : Binds K gd_is_positive ["value"] [])
    : FnT P w K mg base 3 f fd ["value"] (sp_is_fraction K) := by
  refine okT F sc_is_fraction (by intro ts S R RE h; unfold sp_is_fraction at h; split at h <;> first | rfl | exact h.elim) (fun cdv A out s H E hg hr => (bs_cons (ss_if (tt_w (tw_or (tt_not (tt_val (et_blt call_isiY (cv_isi (K := K)) (by rfl) n_isinstance PyProof.Rows.boot_isinstance (at_cons (et_var (pv 0)) (at_cons (et_blty (by rfl) n_tuple PyProof.Rows.boot_tuple) at_nil))))) (tw_or1 (tt_cmp (op_neG hr.units) cv_ne (et_blt call_len cv_len (by rfl) n_len PySem.boot_len (at_cons (et_var (pv 0)) at_nil)) et_int (nomark _))))) (bs_one (ss_ret et_bl)) bs_nil)
    (bs_cons (ss_asg (et_var (pv 0)) (gt_tup (n := 2) (by rfl) (gts_cons (gt_name (pg_name (i := 1) sc_is_fraction.nd rfl (by first | exact Or.inl rfl | exact Or.inr rfl))) (gts_cons (gt_name (pg_name (i := 2) sc_is_fraction.nd rfl (by first | exact Or.inl rfl | exact Or.inr rfl))) gts_nil))))
    (bs_cons (ss_if (tt_w (tw_or (tt_not (tt_val (et_callD G_is_positive hg (hr.mono (by decide)) (by rfl) m_is_positive k_is_positive (CallD.all b_is_positive) (passL2N (L2N.takes_of rfl rfl rfl rfl)) (at_cons (et_var (pv 1)) at_nil)))) (tw_or1 (tt_not (tt_val (et_callD G_is_positive hg (hr.mono (by decide)) (by rfl) m_is_positive k_is_positive (CallD.all b_is_positive) (passL2N (L2N.takes_of rfl rfl rfl rfl)) (at_cons (et_var (pv 2)) at_nil))))))) (bs_one (ss_ret et_bl)) bs_nil)
    (bs_one (ss_ret (et_cmp (op_eqG hr.units) cv_eq (et_callD G_common_divisor hg (hr.mono (by decide)) (by rfl) m_common_divisor k_common_divisor (CallD.all b_common_divisor) (passL2N (L2N.takes_of rfl rfl rfl rfl)) (at_cons (et_var (pv 1)) (at_cons (et_var (pv 2)) at_nil))) et_int (nomark _)))))))) ?_
  intro ts S R RE h
  unfold sp_is_fraction at h
  split at h
  · rename_i x
    obtain ⟨av, q⟩ := h
    refine sSeq_i fun N hN => ?_
    simp only [sRet, sIf, sNext, rVar, rC, rBin, rTest, bOr, bNot, aNil, aCons, rArgs, kLen, lenT, startT, List.cons.injEq, Option.some.injEq, List.map_cons, List.map_nil, List.length_cons, List.length_nil, List.cons_append, List.nil_append, List.getElem?_cons_zero, List.replicate_succ, List.replicate_zero, exists_eq_left', exists_and_left, and_true, Nat.reduceAdd, Nat.reduceSub, Nat.zero_add, reduceIte]
    refine av.v.is (n := "tuple") (by decide) ⟨isK x "tuple", rfl, ?_⟩
    cases ek : isK x "tuple" with
    | false =>
      have g : goodF x = false := by
        cases x <;> first | rfl | (cases ek; done)
      rw [g] at q
      simp only [reduceIte, Bool.not_false]
      exact q
    | true =>
      obtain ⟨l, rfl⟩ : ∃ l, x = .tup l := by
        cases x <;> first | (cases ek; done) | exact ⟨_, rfl⟩
      obtain ⟨vl, ll⟩ := av.l l rfl
      simp only [Option.some.injEq, exists_eq_left', reduceIte, Bool.false_eq_true, Bool.not_true]
      refine eqI ?_
      match l, vl, ll, q, av with
      | [], _, _, q, _ => exact ⟨true, rfl, by rw [if_pos rfl]; exact q⟩
      | [a], _, _, q, _ =>
        have e : goodF (.tup [a]) = false := by unfold goodF; split <;> simp_all
        exact ⟨true, rfl, by rw [if_pos rfl, ← e]; exact q⟩
      | a :: b :: c :: l, _, _, q, _ =>
        have e : goodF (.tup (a :: b :: c :: l)) = false := by unfold goodF; split <;> simp_all
        refine ⟨true, ?_, by rw [if_pos rfl, ← e]; exact q⟩
        have : ¬ ((((a :: b :: c :: l).length : Nat) : Int) = 2) := by simp only [List.length_cons]; omega
        rw [decide_eq_false this]; rfl
      | [y, z], vl, _, q, av =>
        refine ⟨false, rfl, ?_⟩
        have vy := vl y (by simp)
        have vz := vl z (by simp)
        simp only [reduceIte, Bool.false_eq_true]
        refine hN _ _ ?_
        clear hN
        refine sSeq_i fun N hN => ?_
        simp only [sAsg, rVar, gNameT, gNilT, gConsT, gTupT, T.tup.injEq, List.cons.injEq, Option.some.injEq, List.length_cons, List.length_nil, List.getElem?_cons_zero, List.set_cons_zero, List.set_cons_succ, exists_eq_left', exists_and_left, true_and, and_assoc, Nat.reduceAdd, Nat.zero_add]
        refine hN _ _ ?_
        clear hN
        refine sSeq_i fun N hN => ?_
        simp only [sp_is_positive, sRet, sIf, sNext, rVar, rC, rTest, bOr, bNot, aNil, aCons, rCall, T.bl.injEq, Option.some.injEq, List.append_nil, List.getElem?_cons_zero, List.getElem?_cons_succ, exists_eq_left', reduceIte]
        refine ⟨vy, ?_⟩
        cases ey : isPos y with
        | false =>
          rw [goodF_negL ey] at q
          rw [if_pos (by decide)]
          exact q
        | true =>
          rw [if_neg (by decide)]
          refine ⟨vz, ?_⟩
          cases ez : isPos z with
          | false =>
            rw [goodF_negR ez] at q
            rw [if_pos (by decide)]
            exact q
          | true =>
            obtain ⟨a, rfl, a0⟩ := isPos_int ey
            obtain ⟨b, rfl, b0⟩ := isPos_int ez
            obtain ⟨pa, pb⟩ := av.n a b rfl a0 b0
            rw [if_neg (by decide)]
            refine hN _ _ ?_
            simp only [sp_common_divisor, sRet, rVar, rC, rBin, aNil, aCons, rCall, Option.some.injEq, List.append_nil, List.getElem?_cons_zero, List.getElem?_cons_succ, exists_eq_left']
            refine ⟨a0, Int.le_of_lt b0, eqI ?_⟩
            simp only [goodF, a0, b0, decide_true, Bool.true_and] at q
            rw [Bool.false_xor]
            exact q
  · exact h.elim
theorem sc_check_fractions : FnScope ["values", "value"] ["values"] (defScope s_check_fractions) := ⟨rfl, rfl, rfl, by decide +kernel, rfl, by decide +kernel, by decide +kernel⟩
def sp_check_fractions (K : PySem.W.Frag) (C : Addr) : SpT := fun ts S R RE => match ts with
  | [.tup l] => (∀ x ∈ l, AnyV K S x) ∧ (match l.find? (fun x => !goodF x) with | none => R .non S | some x => RE C [("value", x)] S)
  | _ => False
theorem ok_check_fractions {P : Program} {w : World} {K : PySem.W.Frag} {mg : Str → Option Value} {base : Heap} {f : Addr} {fd : FuncData} {g_is_fraction C_InvalidFraction fI_InvalidFraction : Addr} {gd_is_fraction : FuncData} (F : Fun K "check_fractions" "check_fractions" s_check_fractions f fd)
    (G_is_fraction : FnT P w K mg base 3 g_is_fraction gd_is_fraction ["value"] (sp_is_fraction K))
    (m_is_fraction : mg "is_fraction" = some (.ref g_is_fraction))
    (k_is_fraction : PySem.W.keepIn K (.ref g_is_fraction) = true)
    (b_is_fraction : Binds K gd_is_fraction ["value"] [])
    (Z_InvalidFraction : EvTxt K C_InvalidFraction fI_InvalidFraction "InvalidFraction.__init__")
    (m_InvalidFraction : mg "InvalidFraction" = some (.ref C_InvalidFraction))
    : FnT P w K mg base 4 f fd ["values"] (sp_check_fractions K C_InvalidFraction) := by
  refine okT F sc_check_fractions (by intro ts S R RE h; unfold sp_check_fractions at h; split at h <;> first | rfl | exact h.elim) (fun cdv A out s H E hg hr => (bs_one (ss_for (passes_of rfl) rfl (it_seq (et_var (pv 0))) (gt_name (pg_name (i := 1) sc_check_fractions.nd rfl (by first | exact Or.inl rfl | exact Or.inr rfl))) (bs_one (ss_if (tt_not (tt_val (et_callD G_is_fraction hg (hr.mono (by decide)) (by rfl) m_is_fraction k_is_fraction (CallD.all b_is_fraction) (passL2N (L2N.takes_of rfl rfl rfl rfl)) (at_cons (et_var (pv 1)) at_nil)))) (bs_one (ss_raise Z_InvalidFraction rfl m_InvalidFraction hr (L2N.takes_of rfl rfl rfl rfl) (hg := by rfl) (at_cons (et_var (pv 1)) at_nil))) bs_nil))))) ?_
  intro ts S R RE h
  unfold sp_check_fractions at h
  split at h
  · rename_i l
    obtain ⟨av, q⟩ := h
    simp only [sFor, rVar, iSeq, seqOf, startT, Option.some.injEq, List.map_cons, List.map_nil, List.length_cons, List.length_nil, List.cons_append, List.nil_append, List.getElem?_cons_zero, List.replicate_succ, List.replicate_zero, exists_eq_left', Nat.reduceAdd, Nat.reduceSub, Nat.zero_add]
    suffices hh : ∀ (pre us : List T) (v : Option T), l = pre ++ us → pre.find? (fun x => !goodF x) = none → rLoop (gNameT 1) (sIf (bNot (rTest (rCall (sp_is_fraction K) [] (aCons (rVar 1) aNil)))) (sRaise C_InvalidFraction (aCons (rVar 1) aNil)) sNext) { nx := fun _ S' => R .non S', rt := R, ex := RE } us [some (.tup l), v] S from hh [] l none rfl rfl
    intro pre us
    induction us generalizing pre with
    | nil =>
      intro v e fp
      rw [List.append_nil] at e
      subst e
      rw [fp] at q
      simp only [rLoop]
      exact q
    | cons u us ih =>
      intro v e fp
      have au := av u (by rw [e]; simp)
      simp only [rLoop, sp_is_fraction, sIf, sNext, sRaise, rVar, rTest, bNot, aNil, aCons, gNameT, rCall, T.bl.injEq, List.cons.injEq, Option.some.injEq, List.append_nil, List.getElem?_cons_zero, List.getElem?_cons_succ, List.set_cons_zero, List.set_cons_succ, exists_eq_left', and_true]
      refine ⟨au, ?_⟩
      cases eg : goodF u with
      | true =>
        rw [if_neg (by decide)]
        refine ih (pre ++ [u]) _ (by rw [e]; simp) ?_
        rw [List.find?_append, fp]
        simp [eg]
      | false =>
        have ef : l.find? (fun x => !goodF x) = some u := by
          rw [e, List.find?_append, fp]
          simp [eg]
        rw [ef] at q
        rw [if_pos (by decide)]
        exact q
  · exact h.elim
theorem chk_ok {K : PySem.W.Frag} {C : Addr} {l : List T} {S : Store} {R : T → Store → Prop} {RE : XT} (h : FrL 8000 l) (q : R .non S) : sp_check_fractions K C [.tup l] S R RE := by
  refine ⟨fun x m => ?_, ?_⟩
  · obtain ⟨a, b, rfl, f⟩ := h x m
    exact f.any
  · have e : l.find? (fun x => !goodF x) = none := List.find?_eq_none.mpr fun x m => by
      obtain ⟨a, b, rfl, f⟩ := h x m
      simp [f.good]
    rw [e]
    exact q
/-- a side stands for a fraction -/
inductive Side (n : Nat) : T → Int → Int → Prop
  | int {a : Int} (h : Pn n a) : Side n (.int a) a 1
  | fr {a b : Int} (h : Fr n a b) : Side n (frT a b) a b
theorem Side.is {n : Nat} {x : T} {a b : Int} (h : Side n x a b) : Fr n a b := by
  cases h with
  | @int a h => exact ⟨h, ⟨by decide, Nat.lt_of_le_of_lt (by have := h.pos; omega) h.lt⟩, gcdI_one⟩
  | fr h => exact h
theorem ValT.fr {K : PySem.W.Frag} {S : Store} {a b : Int} : ValT K S (frT a b) := .tup
open TL (numL tl tl_append tl_num joinL numL_free numL_digits numL_ne numL_val numL_inj)
open NumText (AllDigits digitsVal)
/-! texts of fractions, whatever they are: numbers of up to 2,400 digits -/
abbrev nS (i : Int) : Str := Str.ofString (toString i)
theorem nS_tl {w : Int} (h : 0 ≤ w) : tl (nS w) = numL w.toNat := by
  obtain ⟨n, rfl⟩ := Int.eq_ofNat_of_zero_le h
  exact tl_num n
theorem nS_S {w : Int} (h : 0 ≤ w) : nS w = SX.S (numL w.toNat) := by
  rw [← nS_tl h]
theorem sEmp (a : Str) : Str.empty ++ a = a := by
  show (⟨#[] ++ a.cps⟩ : Str) = a
  rw [Array.empty_append]
theorem num_free {n s : Nat} (h : s < 48 ∨ 57 < s) : s ∉ numL n := numL_free h
theorem sLen0 (a b : Str) : (a ++ b).length = a.length + b.length := by
  show (a.cps ++ b.cps).size = _
  rw [Array.size_append]; rfl
/-- the signs of a positive number -/
structure Canon (l : List Nat) : Prop where
  ne : l ≠ []
  hd : l.head? ≠ some 48
  dig : AllDigits l
theorem chr_nat : ∀ c, c < 58 → 48 ≤ c → (Char.ofNat c).toNat = c := by decide +kernel
theorem canon_back {l : List Nat} (h : Canon l) : numL (digitsVal l) = l ∧ 0 < digitsVal l := by
  obtain ⟨ne, hd, dig⟩ := h
  match l, ne with
  | c :: r, _ =>
  have hc := dig c (List.mem_cons_self ..)
  have h49 : 49 ≤ c := by
    rcases Nat.lt_or_ge c 49 with z | z
    · exact absurd (by simp; omega) hd
    · exact z
  refine ⟨?_, NumText.digitsVal_pos h49⟩
  have e := NumText.toDigits_digitsVal r.length (c :: r) rfl dig (.inr ⟨c, r, rfl, h49⟩)
  unfold numL
  rw [e, List.map_map]
  refine (List.map_congr_left (g := id) fun d m => ?_).trans (List.map_id _)
  have hd := dig d m
  exact chr_nat d (by omega) hd.1
theorem num_head (n : Nat) : 0 < n → (numL n).head? ≠ some 48 := by
  induction n using Nat.strongRecOn with
  | _ n ih =>
    intro h
    by_cases h10 : n < 10
    · rw [TL.numL_lt h10]
      simp
      omega
    · rw [TL.numL_step (by omega)]
      have ne := numL_ne (n / 10)
      have := ih (n / 10) (by omega) (by omega)
      cases hl : numL (n / 10) with
      | nil => exact absurd hl ne
      | cons c r => rw [hl] at this; simpa using this
theorem canon_num {n : Nat} (h : 0 < n) : Canon (numL n) := ⟨numL_ne n, num_head n h, numL_digits n⟩
theorem val_lt : ∀ (l : List Nat) (a : Nat), AllDigits l → l.foldl (fun acc c => acc * 10 + (c - 48)) a < (a + 1) * 10 ^ l.length
  | [], a, _ => by simp
  | c :: l, a, h => by
    have hc := h c (List.mem_cons_self ..)
    have ih := val_lt l (a * 10 + (c - 48)) fun d m => h d (List.mem_cons_of_mem _ m)
    rw [List.foldl_cons, List.length_cons, Nat.pow_succ]
    refine Nat.lt_of_lt_of_le ih ?_
    rw [show (a + 1) * (10 ^ l.length * 10) = ((a + 1) * 10) * 10 ^ l.length by rw [Nat.mul_assoc, Nat.mul_comm (10 ^ l.length) 10]]
    exact Nat.mul_le_mul_right _ (by omega)
theorem ten2400 : (10 : Nat) ^ 2400 ≤ 2 ^ 8000 := by decide +kernel
theorem val_bits {l : List Nat} (h : AllDigits l) (hl : l.length ≤ 2400) : digitsVal l < 2 ^ 8000 := by
  have := val_lt l 0 h
  rw [Nat.zero_add, Nat.one_mul] at this
  exact Nat.lt_of_lt_of_le this (Nat.le_trans (Nat.pow_le_pow_right (by decide) hl) ten2400)
theorem two8000 : (2 : Nat) ^ 8000 ≤ 10 ^ 2409 := by decide +kernel
theorem num_len {n : Nat} (h : n < 2 ^ 8000) : (numL n).length ≤ 2409 := TL.numL_len (by decide) (Nat.lt_of_lt_of_le h two8000)
theorem pn_nat {n : Nat} {a : Int} (h : Pn n a) : ∃ k : Nat, a = k ∧ 0 < k ∧ k < 2 ^ n := by
  have hp := h.pos
  have hl := h.lt
  obtain ⟨k, rfl⟩ := Int.eq_ofNat_of_zero_le (show 0 ≤ a by omega)
  exact ⟨k, rfl, by omega, by simpa using hl⟩
theorem nS_len {a : Int} (h : Pn 8000 a) : (nS a).length ≤ 2409 := by
  obtain ⟨k, rfl, k0, k1⟩ := pn_nat h
  rw [nS_S (by omega), SX.S_len]
  exact num_len k1
/-- is a numeral -/
abbrev isNm (z : Str) : Bool := Txt.isascii z && Txt.isdigit z
theorem dig_is : ∀ c, c < 128 → (Unicode.isDigit c = true ↔ (48 ≤ c ∧ c ≤ 57)) := by decide +kernel
theorem isNm_S {l : List Nat} : isNm (SX.S l) = true ↔ (l ≠ [] ∧ AllDigits l) := by
  have e1 : Txt.isascii (SX.S l) = l.all (fun c => decide (c < 128)) := by
    show (SX.S l).cps.all _ = _
    rw [← Array.all_toList]
  have e2 : Txt.isdigit (SX.S l) = (decide (l.length > 0) && l.all Unicode.isDigit) := by
    show (decide ((SX.S l).length > 0) && (SX.S l).cps.all Unicode.isDigit) = _
    rw [← Array.all_toList, SX.S_len]
  show (Txt.isascii (SX.S l) && Txt.isdigit (SX.S l)) = true ↔ _
  rw [e1, e2]
  simp only [Bool.and_eq_true, List.all_eq_true, decide_eq_true_eq]
  constructor
  · rintro ⟨h1, h2, h3⟩
    exact ⟨fun e => by rw [e] at h2; simp at h2, fun c m => (dig_is c (h1 c m)).mp (h3 c m)⟩
  · rintro ⟨h1, h2⟩
    refine ⟨fun c m => ?_, List.length_pos_iff.mpr h1, fun c m => ?_⟩
    · have := h2 c m; omega
    · have := h2 c m
      exact (dig_is c (by omega)).mpr this
theorem int_dig {l : List Nat} (h : l ≠ [] ∧ AllDigits l) (hl : l.length ≤ 4300) : PySem.intText? (SX.S l) = some ((digitsVal l : Nat) : Int) :=
  SX.int_S (List.all_eq_true.mpr fun c m => by have := h.2 c m; simp; omega) h.1 hl
/-- a fraction's text -/
def frL (a b : Int) : List Nat := if b = 1 then numL a.toNat else numL a.toNat ++ 47 :: numL b.toNat
def frS (a b : Int) : Str := if b = 1 then nS a else (nS a ++ "/") ++ nS b
theorem frS_1 {a : Int} : frS a 1 = nS a := if_pos rfl
theorem frS_n {a b : Int} (h : b ≠ 1) : frS a b = (nS a ++ "/") ++ nS b := if_neg h
theorem slash_S : ("/" : Str) = SX.S [47] := by decide +kernel
theorem frS_S {a b : Int} (ha : 0 ≤ a) (hb : 0 ≤ b) : frS a b = SX.S (frL a b) := by
  unfold frS frL
  split
  · exact nS_S ha
  · rw [nS_S ha, nS_S hb, slash_S, SX.S_cat, SX.S_cat, List.append_assoc]; rfl
/-- the number that a text writes -/
theorem split1 : ∀ (c : Nat) (l : List Nat), c ∉ l ∨ ∃ p q, l = p ++ c :: q ∧ c ∉ p
  | c, [] => .inl (by simp)
  | c, d :: l => by
    by_cases e : d = c
    · subst e
      exact .inr ⟨[], l, rfl, by simp⟩
    · rcases split1 c l with h | ⟨p, q, h1, h2⟩
      · exact .inl (by simp only [List.mem_cons, not_or]; exact ⟨fun z => e z.symm, h⟩)
      · exact .inr ⟨d :: p, q, by rw [h1]; rfl, by simp only [List.mem_cons, not_or]; exact ⟨fun z => e z.symm, h2⟩⟩
theorem cut_inj {c : Nat} : ∀ {p q r s : List Nat}, c ∉ p → c ∉ r → p ++ c :: q = r ++ c :: s → p = r ∧ q = s
  | [], _, [], _, _, _, e => by simpa using e
  | [], _, d :: r, _, _, h2, e => by
    simp only [List.nil_append, List.cons_append, List.cons.injEq] at e
    exact absurd (by rw [← e.1]; simp) h2
  | d :: p, _, [], _, h1, _, e => by
    simp only [List.nil_append, List.cons_append, List.cons.injEq] at e
    exact absurd (by rw [e.1]; simp) h1
  | d :: p, q, d' :: r, s, h1, h2, e => by
    simp only [List.cons_append, List.cons.injEq] at e
    obtain ⟨e1, e2⟩ := e
    simp only [List.mem_cons, not_or] at h1 h2
    obtain ⟨h3, h4⟩ := cut_inj h1.2 h2.2 e2
    exact ⟨by rw [e1, h3], h4⟩
theorem frL_one {l : List Nat} {a b : Int} (f : Fr 8000 a b) (h : 47 ∉ l) (e : SX.S l = frS a b) : b = 1 ∧ l = numL a.toNat ∧ Canon l := by
  have ha := f.a.pos
  have hb := f.b.pos
  rw [frS_S (by omega) (by omega)] at e
  have e := SX.S_inj e
  unfold frL at e
  split at e
  · rename_i hb1
    exact ⟨hb1, e, by rw [e]; exact canon_num (by omega)⟩
  · rw [e] at h
    simp at h
theorem frL_two {p q : List Nat} {a b : Int} (f : Fr 8000 a b) (h : 47 ∉ p) (e : SX.S (p ++ 47 :: q) = frS a b) : b ≠ 1 ∧ p = numL a.toNat ∧ q = numL b.toNat ∧ Canon p ∧ Canon q := by
  have ha := f.a.pos
  have hb := f.b.pos
  rw [frS_S (by omega) (by omega)] at e
  have e := SX.S_inj e
  unfold frL at e
  split at e
  · exact absurd (by rw [← e]; simp) (num_free (n := a.toNat) (s := 47) (.inl (by decide)))
  · rename_i hb1
    obtain ⟨e1, e2⟩ := cut_inj h (num_free (.inl (by decide))) e
    exact ⟨hb1, e1, e2, by rw [e1]; exact canon_num (by omega), by rw [e2]; exact canon_num (by omega)⟩
theorem numL_Z {a : Int} (h : 0 < a) : ((digitsVal (numL a.toNat) : Nat) : Int) = a := by rw [numL_val]; omega
theorem frS_inj {a b c d : Int} (f : Fr 8000 a b) (g : Fr 8000 c d) (e : frS a b = frS c d) : a = c ∧ b = d := by
  have h1 := f.a.pos
  have h2 := f.b.pos
  have h3 := g.a.pos
  have h4 := g.b.pos
  have e' := e
  rw [frS_S (by omega) (by omega)] at e
  unfold frL at e
  split at e
  · rename_i hb
    obtain ⟨k1, k2, _⟩ := frL_one g (num_free (.inl (by decide))) e
    have := numL_inj k2
    exact ⟨by omega, by omega⟩
  · obtain ⟨_, k1, k2, _⟩ := frL_two g (num_free (.inl (by decide))) e
    have := numL_inj k1
    have := numL_inj k2
    exact ⟨by omega, by omega⟩
/-- what a reading of a text is: the fraction with just this text, or none -/
def FindR (z : Str) (R : T → Store → Prop) (S : Store) : Prop := (∃ a b, Fr 8000 a b ∧ z = frS a b ∧ R (frT a b) S) ∨ ((∀ a b, Fr 8000 a b → z ≠ frS a b) ∧ R .non S)
theorem part_slash {z : Str} (hz : z.length ≤ 2400) : ∃ top sl bot, Txt.partition z "/" = (top, sl, bot) ∧ ∀ bt : Str, bt = (if sl = ("" : Str) then ("1" : Str) else bot) →
    ((isNm top = false ∨ isNm bt = false) ∧ (∀ a b, Fr 8000 a b → z ≠ frS a b)) ∨ ∃ n m : Nat, isNm top = true ∧ isNm bt = true ∧ PySem.intText? top = some (n : Int) ∧ top.length ≤ 4300 ∧ PySem.intText? bt = some (m : Int) ∧ bt.length ≤ 4300 ∧ n < 2 ^ 8000 ∧ m < 2 ^ 8000 ∧ ∀ a b, Fr 8000 a b → z = frS a b → a = n ∧ b = m := by
  have ez : z = SX.S z.cps.toList := (SX.S_tl z).symm
  generalize hl : z.cps.toList = l at ez
  have ll : l.length ≤ 2400 := by rw [← hl, Array.length_toList]; exact hz
  subst ez
  rcases split1 47 l with no | ⟨p, q, rfl, np⟩
  · refine ⟨SX.S l, SX.S [], SX.S [], ?_, fun bt hb => ?_⟩
    · rw [slash_S]; exact SX.partition_none (by simp) (SX.par_head_none no)
    · rw [if_pos (by decide +kernel)] at hb
      subst hb
      by_cases hn : l ≠ [] ∧ AllDigits l
      · refine .inr ⟨digitsVal l, 1, isNm_S.mpr hn, by decide +kernel, int_dig hn (by omega), by rw [SX.S_len]; omega, by decide +kernel, by decide, val_bits hn.2 ll, by decide +kernel, fun a b f e => ?_⟩
        obtain ⟨e1, e2, _⟩ := frL_one f no e
        refine ⟨?_, e1⟩
        rw [e2]
        exact (numL_Z f.a.pos).symm
      · refine .inl ⟨.inl ?_, fun a b f e => ?_⟩
        · cases h : isNm (SX.S l) with
          | false => rfl
          | true => exact absurd (isNm_S.mp h) hn
        · obtain ⟨_, _, c⟩ := frL_one f no e
          exact hn ⟨c.ne, c.dig⟩
  · refine ⟨SX.S p, SX.S [47], SX.S q, ?_, fun bt hb => ?_⟩
    · rw [slash_S]; exact SX.partition_some (by simp) (SX.par_head q np)
    · rw [if_neg (by decide +kernel)] at hb
      subst hb
      rw [List.length_append, List.length_cons] at ll
      by_cases hn : (p ≠ [] ∧ AllDigits p) ∧ (q ≠ [] ∧ AllDigits q)
      · refine .inr ⟨digitsVal p, digitsVal q, isNm_S.mpr hn.1, isNm_S.mpr hn.2, int_dig hn.1 (by omega), by rw [SX.S_len]; omega, int_dig hn.2 (by omega), by rw [SX.S_len]; omega, val_bits hn.1.2 (by omega), val_bits hn.2.2 (by omega), fun a b f e => ?_⟩
        obtain ⟨_, e1, e2, _⟩ := frL_two f np e
        refine ⟨?_, ?_⟩
        · rw [e1]; exact (numL_Z f.a.pos).symm
        · rw [e2]; exact (numL_Z f.b.pos).symm
      · refine .inl ⟨?_, fun a b f e => ?_⟩
        · rcases Classical.em (p ≠ [] ∧ AllDigits p) with h1 | h1
          · refine .inr ?_
            cases h : isNm (SX.S q) with
            | false => rfl
            | true => exact absurd ⟨h1, isNm_S.mp h⟩ hn
          · refine .inl ?_
            cases h : isNm (SX.S p) with
            | false => rfl
            | true => exact absurd (isNm_S.mp h) h1
        · obtain ⟨_, _, _, c1, c2⟩ := frL_two f np e
          exact hn ⟨⟨c1.ne, c1.dig⟩, c2.ne, c2.dig⟩
theorem isStr0 {K : PySem.W.Frag} {z : Str} {S : Store} {R : T → Store → Prop} {RE : XT} (q : R (.bl true) S) : kIsi K [.str z, .ty "str"] S R RE := by
  have := ValT.str (K := K) (S := S) (z := z) |>.is (n := "str") (by decide) (R := R) (RE := RE) (by show R (.bl true) S; exact q)
  exact this
theorem eqSt0 {a b : Str} {v ng : Bool} {S : Store} {R : T → Store → Prop} {RE : XT} (e : (ng ^^ decide (a = b)) = v) (q : R (.bl v) S) : kEqG ng (.str a) (.str b) S R RE := .inl ⟨rfl, by show R (.bl (ng ^^ decide (a = b))) S; rw [e]; exact q⟩
theorem big14 {n : Nat} {a : Int} (h : Pn n a) (hn : n ≤ 14000) : a.natAbs < 2 ^ 14000 := Nat.lt_of_lt_of_le h.lt (Nat.pow_le_pow_right (by decide) hn)
theorem sc_format_fraction : FnScope ["number", "top", "bottom"] ["number"] (defScope s_format_fraction) := ⟨rfl, rfl, rfl, by decide +kernel, rfl, by decide +kernel, by decide +kernel⟩
def sp_format_fraction (K : PySem.W.Frag) : SpT := fun ts S R _ => match ts with
  | [x] => ∃ a b, x = frT a b ∧ Fr 8000 a b ∧ R (.str (frS a b)) S
  | _ => False
theorem ok_format_fraction {P : Program} {w : World} {K : PySem.W.Frag} {mg : Str → Option Value} {base : Heap} {f : Addr} {fd : FuncData} {g_check_fractions C_InvalidFraction : Addr} {gd_check_fractions : FuncData} (F : Fun K "format_fraction" "format_fraction" s_format_fraction f fd)
    (G_check_fractions : FnT P w K mg base 4 g_check_fractions gd_check_fractions ["values"] (sp_check_fractions K C_InvalidFraction))
    (m_check_fractions : mg "check_fractions" = some (.ref g_check_fractions))
    (k_check_fractions : PySem.W.keepIn K (.ref g_check_fractions) = true)
    (b_check_fractions : Binds K gd_check_fractions ["values"] [])
    (ND : base.NoDigits)
    : FnT P w K mg base 5 f fd ["number"] (sp_format_fraction K) := by
  refine okT F sc_format_fraction (by intro ts S R RE h; unfold sp_format_fraction at h; split at h <;> first | rfl | exact h.elim) (fun cdv A out s H E hg hr => (bs_cons (ss_expr (et_callD G_check_fractions hg (hr.mono (by decide)) (by rfl) m_check_fractions k_check_fractions (CallD.all b_check_fractions) (passL2N (L2N.takes_of rfl rfl rfl rfl)) (at_cons (et_tup (at_cons (et_var (pv 0)) at_nil)) at_nil)))
    (bs_cons (ss_asg (et_var (pv 0)) (gt_tup (n := 2) (by rfl) (gts_cons (gt_name (pg_name (i := 1) sc_format_fraction.nd rfl (by first | exact Or.inl rfl | exact Or.inr rfl))) (gts_cons (gt_name (pg_name (i := 2) sc_format_fraction.nd rfl (by first | exact Or.inl rfl | exact Or.inr rfl))) gts_nil))))
    (bs_cons (ss_if (tt_cmp (op_eqG hr.units) cv_eq (et_var (pv 2)) et_int (nomark _)) (bs_one (ss_ret (et_joined1 (et_fmtB ND (et_var (pv 1)))))) bs_nil)
    (bs_one (ss_ret (et_joined (EJ.cons (et_fmtB ND (et_var (pv 1))) (EJ.cons et_str (EJ.cons (et_fmtB ND (et_var (pv 2))) EJ.nil)))))))))) ?_
  intro ts S R RE h
  unfold sp_format_fraction at h
  split at h
  · obtain ⟨a, b, rfl, f, q⟩ := h
    refine sSeq_i fun N hN => ?_
    simp only [frT, sDrop, rVar, aNil, aCons, rTup, rCall, startT, Option.some.injEq, List.map_cons, List.map_nil, List.length_cons, List.length_nil, List.cons_append, List.nil_append, List.append_nil, List.getElem?_cons_zero, List.replicate_succ, List.replicate_zero, exists_eq_left', Nat.reduceAdd, Nat.reduceSub, Nat.zero_add]
    refine ⟨by decide, chk_ok (FrL.one f) (hN _ _ ?_)⟩
    refine sSeq_i fun N hN => ?_
    simp only [sAsg, rVar, gNameT, gNilT, gConsT, gTupT, T.tup.injEq, List.cons.injEq, Option.some.injEq, List.length_cons, List.length_nil, List.getElem?_cons_zero, List.set_cons_zero, List.set_cons_succ, exists_eq_left', exists_and_left, true_and, and_assoc, Nat.reduceAdd, Nat.zero_add]
    refine hN _ _ ?_
    refine sSeq_i fun N hN => ?_
    simp only [rFmtB, kFmtB, sRet, sIf, sNext, rVar, rC, rBin, rTest, Option.some.injEq, List.getElem?_cons_zero, List.getElem?_cons_succ, exists_eq_left']
    have lga := big14 f.a (by decide)
    have lgb := big14 f.b (by decide)
    refine eqI0 ⟨_, rfl, ?_⟩
    by_cases hb : b = 1
    · subst hb
      rw [if_pos (by decide)]
      rw [frS_1] at q
      exact ⟨lga, q⟩
    · rw [if_neg (by rw [decide_eq_true_eq]; exact hb)]
      refine hN _ _ ?_
      have la : (Str.ofString (toString a)).length ≤ 2409 := nS_len f.a
      have lb : (Str.ofString (toString b)).length ≤ 2409 := nS_len f.b
      clear lga lgb
      have lga := big14 f.a (by decide)
      have lgb := big14 f.b (by decide)
      rw [frS_n hb] at q
      have ls : ("/" : Str).length = 1 := by decide
      simp only [sEmp, rFmtB, kFmtB, sRet, rVar, rC, rJs, T.str.injEq, Option.some.injEq, List.getElem?_cons_zero, List.getElem?_cons_succ, exists_eq_left']
      refine ⟨lga, ?_, ?_, lgb, ?_, q⟩
      · rw [sizeLine_eq]; exact Nat.le_trans la (by decide)
      · rw [sizeLine_eq, sLen0, ls]; omega
      · rw [sizeLine_eq, sLen0, sLen0, ls]; omega
  · exact h.elim
theorem sc_is_numeral : FnScope ["text"] ["text"] (defScope s_is_numeral) := ⟨rfl, rfl, rfl, by decide +kernel, rfl, by decide +kernel, by decide +kernel⟩
def sp_is_numeral : SpT := fun ts S R _ => match ts with
  | [.str z] => R (.bl (isNm z)) S
  | _ => False
theorem ok_is_numeral {P : Program} {w : World} {K : PySem.W.Frag} {mg : Str → Option Value} {base : Heap} {f : Addr} {fd : FuncData}   (F : Fun K "is_numeral" "is_numeral" s_is_numeral f fd)
    : FnT P w K mg base 1 f fd ["text"] sp_is_numeral := by
  refine okT F sc_is_numeral (by intro ts S R RE h; unfold sp_is_numeral at h; split at h <;> first | rfl | exact h.elim) (fun cdv A out s H E hg hr => (bs_one (ss_ret (et_and (et_isascii (et_var (pv 0))) (et_one (et_isdigit (et_var (pv 0)))))))) ?_
  intro ts S R RE h
  unfold sp_is_numeral at h
  split at h
  · rename_i z
    simp only [sRet, rVar, vAnd, rStr0, startT, T.bl.injEq, T.str.injEq, Option.some.injEq, List.map_cons, List.map_nil, List.length_cons, List.length_nil, List.append_nil, List.getElem?_cons_zero, List.replicate_zero, exists_eq_left', Nat.sub_self, Nat.zero_add]
    unfold isNm at h
    cases e : Txt.isascii z
    · rw [e] at h
      rw [if_neg Bool.false_ne_true]
      exact h
    · rw [e] at h
      rw [if_pos rfl]
      exact h
  · exact h.elim
theorem sc_find_fraction : FnScope ["text", "top", "slash", "bottom", "number"] ["text"] (defScope s_find_fraction) := ⟨rfl, rfl, rfl, by decide +kernel, rfl, by decide +kernel, by decide +kernel⟩
def sp_find_fraction (K : PySem.W.Frag) : SpT := fun ts S R _ => match ts with
  | [x] => (∃ z, x = .str z ∧ z.length ≤ 2400 ∧ FindR z R S) ∨ (ValT K S x ∧ isK x "str" = false ∧ R .non S)
  | _ => False
theorem ok_find_fraction {P : Program} {w : World} {K : PySem.W.Frag} {mg : Str → Option Value} {base : Heap} {f : Addr} {fd : FuncData} {g_format_fraction g_is_fraction g_is_numeral : Addr} {gd_format_fraction : FuncData} {gd_is_fraction : FuncData} {gd_is_numeral : FuncData} (F : Fun K "find_fraction" "find_fraction" s_find_fraction f fd)
    (n_int : mg "int" = none)
    (n_isinstance : mg "isinstance" = none)
    (n_str : mg "str" = none)
    (G_format_fraction : FnT P w K mg base 5 g_format_fraction gd_format_fraction ["number"] (sp_format_fraction K))
    (m_format_fraction : mg "format_fraction" = some (.ref g_format_fraction))
    (k_format_fraction : PySem.W.keepIn K (.ref g_format_fraction) = true)
    (b_format_fraction : Binds K gd_format_fraction ["number"] [])
    (G_is_fraction : FnT P w K mg base 3 g_is_fraction gd_is_fraction ["value"] (sp_is_fraction K))
    (m_is_fraction : mg "is_fraction" = some (.ref g_is_fraction))
    (k_is_fraction : PySem.W.keepIn K (.ref g_is_fraction) = true)
    (b_is_fraction : Binds K gd_is_fraction ["value"] [])
    (G_is_numeral : FnT P w K mg base 1 g_is_numeral gd_is_numeral ["text"] sp_is_numeral)
    (m_is_numeral : mg "is_numeral" = some (.ref g_is_numeral))
    (k_is_numeral : PySem.W.keepIn K (.ref g_is_numeral) = true)
    (b_is_numeral : Binds K gd_is_numeral ["text"] [])
    (ND : base.NoDigits)
    : FnT P w K mg base 6 f fd ["text"] (sp_find_fraction K) := by
  refine okT F sc_find_fraction (by intro ts S R RE h; unfold sp_find_fraction at h; split at h <;> first | rfl | exact h.elim) (fun cdv A out s H E hg hr => (bs_cons (ss_if (tt_not (tt_val (et_blt call_isiY (cv_isi (K := K)) (by rfl) n_isinstance PyProof.Rows.boot_isinstance (at_cons (et_var (pv 0)) (at_cons (et_blty (by rfl) n_str PyProof.Rows.boot_str) at_nil))))) (bs_one (ss_ret et_non)) bs_nil)
    (bs_cons (ss_asg (et_partition (et_var (pv 0)) et_str) (gt_tup (n := 3) (by rfl) (gts_cons (gt_name (pg_name (i := 1) sc_find_fraction.nd rfl (by first | exact Or.inl rfl | exact Or.inr rfl))) (gts_cons (gt_name (pg_name (i := 2) sc_find_fraction.nd rfl (by first | exact Or.inl rfl | exact Or.inr rfl))) (gts_cons (gt_name (pg_name (i := 3) sc_find_fraction.nd rfl (by first | exact Or.inl rfl | exact Or.inr rfl))) gts_nil)))))
    (bs_cons (ss_if (tt_cmp (op_eqG hr.units) cv_eq (et_var (pv 2)) et_str (nomark _)) (bs_one (ss_set (i := 3) sc_find_fraction.nd rfl (by first | exact Or.inl rfl | exact Or.inr rfl) et_str)) bs_nil)
    (bs_cons (ss_if (tt_w (tw_or (tt_not (tt_val (et_callD G_is_numeral hg (hr.mono (by decide)) (by rfl) m_is_numeral k_is_numeral (CallD.all b_is_numeral) (passL2N (L2N.takes_of rfl rfl rfl rfl)) (at_cons (et_var (pv 1)) at_nil)))) (tw_or1 (tt_not (tt_val (et_callD G_is_numeral hg (hr.mono (by decide)) (by rfl) m_is_numeral k_is_numeral (CallD.all b_is_numeral) (passL2N (L2N.takes_of rfl rfl rfl rfl)) (at_cons (et_var (pv 3)) at_nil))))))) (bs_one (ss_ret et_non)) bs_nil)
    (bs_cons (ss_set (i := 4) sc_find_fraction.nd rfl (by first | exact Or.inl rfl | exact Or.inr rfl) (et_tup (at_cons (et_typ (call_int_strB ND) cv_intB (by rfl) n_int PyProof.Rows.boot_int (at_cons (et_var (pv 1)) at_nil)) (at_cons (et_typ (call_int_strB ND) cv_intB (by rfl) n_int PyProof.Rows.boot_int (at_cons (et_var (pv 3)) at_nil)) at_nil))))
    (bs_cons (ss_if (tt_w (tw_or (tt_not (tt_val (et_callD G_is_fraction hg (hr.mono (by decide)) (by rfl) m_is_fraction k_is_fraction (CallD.all b_is_fraction) (passL2N (L2N.takes_of rfl rfl rfl rfl)) (at_cons (et_var (pv 4)) at_nil)))) (tw_or1 (tt_cmp (op_neG hr.units) cv_ne (et_callD G_format_fraction hg (hr.mono (by decide)) (by rfl) m_format_fraction k_format_fraction (CallD.all b_format_fraction) (passL2N (L2N.takes_of rfl rfl rfl rfl)) (at_cons (et_var (pv 4)) at_nil)) (et_var (pv 0)) (nomark _))))) (bs_one (ss_ret et_non)) bs_nil)
    (bs_one (ss_ret (et_var (pv 4))))))))))) ?_
  intro ts S R RE h
  unfold sp_find_fraction at h
  split at h
  · rcases h with ⟨z, rfl, hz, q⟩ | ⟨v, ns, q⟩
    rotate_left
    · refine sSeq_i fun N hN => ?_
      simp only [rCallOwn, iZipT, kMaxT, rRevT, rDix2, sFrzV, sDrp, rSlC, rDget2, sSeq, sAsg, sDrop, sRet, sRetN, sIf, sNext, sPar, sPar3, sFor, sRaise, sFldT, sNo, rNo, rVar, rFrz, rC, rBin, rTest, bAnd, bOr, bNot, bIf, vAnd, vOr, vNot, rIf, rNeg, aNil, aCons, rTup, rLst, rLstC, rArgs, gNameT, gNilT, gConsT, gTupT, gSubT, iSeq, iRng1T, iRng2T, rLc, rCall, rCallN, rCallS, rFld, rCon, rMake, rMakeN, rMakeP, rMeth, rMethK, rProp, rClsFn, rOpOwn, rSl, oNone, oSome, rFmt, kFmt, rJs, rLidx, rChain, rTru, truT, rStr0, rPart, rSplit, kIntS, gStarT, kStrOwn, kAddC, rDct, kInt1, iEnumT, rMakeStar, rJoin, iZipM, iSeqH, iEnumL, rLc2, rTruC, rLcP, kLenOwn, kBoolOwn, rCMeth, rClsStar, rClsMake, rLz, rRevL, rRev2, rCMethK, rExcV, rMut, kAdd, kI2, kI2n, kMul, kIx, kIn, kLen, kU, kA2, kDm, kStrI, kAll, kSl, kAppend, kExtend, kTuple, kList, lenT, seqOf, bYes, startT, one, pickG, selG, insOf, putT, flatT, Bool.false_xor, Bool.true_xor, List.all_cons, List.all_nil, Bool.and_self, T.int.injEq, T.bl.injEq, T.str.injEq, T.lst.injEq, T.tup.injEq, T.cell.injEq, T.ins.injEq, Cell.lst.injEq, Cell.ins.injEq, Prod.mk.injEq, List.cons.injEq, Option.some.injEq, List.map_cons, List.map_nil, List.length_cons, List.length_nil, List.cons_append, List.nil_append, List.append_nil, List.getElem?_cons_zero, List.getElem?_cons_succ, List.set_cons_zero, List.set_cons_succ, List.replicate_succ, List.replicate_zero, exists_eq_left, exists_eq_left', exists_and_left, and_true, true_and, and_self, and_assoc, Nat.sub_self, Nat.reduceAdd, Nat.reduceSub, Nat.zero_add, put_put, put_same, reduceIte, Bool.false_eq_true, Bool.true_eq_false, Bool.not_true, Bool.not_false, at_0, at_1, at_2, at_3, at_4, at_5, at_6, at_7, ix_1_0, ix_2_0, ix_2_1, ix_3_0, ix_3_1, ix_3_2, ix_4_0, ix_4_1, ix_4_2, ix_4_3]
      refine v.is (n := "str") (by decide) ⟨_, rfl, ?_⟩
      rw [ns, if_pos (by decide)]
      exact q
    obtain ⟨top, sl, bot, ep, hp⟩ := part_slash hz
    refine sSeq_i fun N hN => ?_
    simp only [rCallOwn, iZipT, kMaxT, rRevT, rDix2, sFrzV, sDrp, rSlC, rDget2, sSeq, sAsg, sDrop, sRet, sRetN, sIf, sNext, sPar, sPar3, sFor, sRaise, sFldT, sNo, rNo, rVar, rFrz, rC, rBin, rTest, bAnd, bOr, bNot, bIf, vAnd, vOr, vNot, rIf, rNeg, aNil, aCons, rTup, rLst, rLstC, rArgs, gNameT, gNilT, gConsT, gTupT, gSubT, iSeq, iRng1T, iRng2T, rLc, rCall, rCallN, rCallS, rFld, rCon, rMake, rMakeN, rMakeP, rMeth, rMethK, rProp, rClsFn, rOpOwn, rSl, oNone, oSome, rFmt, kFmt, rJs, rLidx, rChain, rTru, truT, rStr0, rPart, rSplit, kIntS, gStarT, kStrOwn, kAddC, rDct, kInt1, iEnumT, rMakeStar, rJoin, iZipM, iSeqH, iEnumL, rLc2, rTruC, rLcP, kLenOwn, kBoolOwn, rCMeth, rClsStar, rClsMake, rLz, rRevL, rRev2, rCMethK, rExcV, rMut, kAdd, kI2, kI2n, kMul, kIx, kIn, kLen, kU, kA2, kDm, kStrI, kAll, kSl, kAppend, kExtend, kTuple, kList, lenT, seqOf, bYes, startT, one, pickG, selG, insOf, putT, flatT, Bool.false_xor, Bool.true_xor, List.all_cons, List.all_nil, Bool.and_self, T.int.injEq, T.bl.injEq, T.str.injEq, T.lst.injEq, T.tup.injEq, T.cell.injEq, T.ins.injEq, Cell.lst.injEq, Cell.ins.injEq, Prod.mk.injEq, List.cons.injEq, Option.some.injEq, List.map_cons, List.map_nil, List.length_cons, List.length_nil, List.cons_append, List.nil_append, List.append_nil, List.getElem?_cons_zero, List.getElem?_cons_succ, List.set_cons_zero, List.set_cons_succ, List.replicate_succ, List.replicate_zero, exists_eq_left, exists_eq_left', exists_and_left, and_true, true_and, and_self, and_assoc, Nat.sub_self, Nat.reduceAdd, Nat.reduceSub, Nat.zero_add, put_put, put_same, reduceIte, Bool.false_eq_true, Bool.true_eq_false, Bool.not_true, Bool.not_false, at_0, at_1, at_2, at_3, at_4, at_5, at_6, at_7, ix_1_0, ix_2_0, ix_2_1, ix_3_0, ix_3_1, ix_3_2, ix_4_0, ix_4_1, ix_4_2, ix_4_3]
    refine isStr0 ⟨true, rfl, ?_⟩
    rw [if_neg (by decide)]
    refine hN _ _ ?_
    clear hN
    refine sSeq_i fun N hN => ?_
    simp only [rCallOwn, iZipT, kMaxT, rRevT, rDix2, sFrzV, sDrp, rSlC, rDget2, sSeq, sAsg, sDrop, sRet, sRetN, sIf, sNext, sPar, sPar3, sFor, sRaise, sFldT, sNo, rNo, rVar, rFrz, rC, rBin, rTest, bAnd, bOr, bNot, bIf, vAnd, vOr, vNot, rIf, rNeg, aNil, aCons, rTup, rLst, rLstC, rArgs, gNameT, gNilT, gConsT, gTupT, gSubT, iSeq, iRng1T, iRng2T, rLc, rCall, rCallN, rCallS, rFld, rCon, rMake, rMakeN, rMakeP, rMeth, rMethK, rProp, rClsFn, rOpOwn, rSl, oNone, oSome, rFmt, kFmt, rJs, rLidx, rChain, rTru, truT, rStr0, rPart, rSplit, kIntS, gStarT, kStrOwn, kAddC, rDct, kInt1, iEnumT, rMakeStar, rJoin, iZipM, iSeqH, iEnumL, rLc2, rTruC, rLcP, kLenOwn, kBoolOwn, rCMeth, rClsStar, rClsMake, rLz, rRevL, rRev2, rCMethK, rExcV, rMut, kAdd, kI2, kI2n, kMul, kIx, kIn, kLen, kU, kA2, kDm, kStrI, kAll, kSl, kAppend, kExtend, kTuple, kList, lenT, seqOf, bYes, startT, one, pickG, selG, insOf, putT, flatT, Bool.false_xor, Bool.true_xor, List.all_cons, List.all_nil, Bool.and_self, T.int.injEq, T.bl.injEq, T.str.injEq, T.lst.injEq, T.tup.injEq, T.cell.injEq, T.ins.injEq, Cell.lst.injEq, Cell.ins.injEq, Prod.mk.injEq, List.cons.injEq, Option.some.injEq, List.map_cons, List.map_nil, List.length_cons, List.length_nil, List.cons_append, List.nil_append, List.append_nil, List.getElem?_cons_zero, List.getElem?_cons_succ, List.set_cons_zero, List.set_cons_succ, List.replicate_succ, List.replicate_zero, exists_eq_left, exists_eq_left', exists_and_left, and_true, true_and, and_self, and_assoc, Nat.sub_self, Nat.reduceAdd, Nat.reduceSub, Nat.zero_add, put_put, put_same, reduceIte, Bool.false_eq_true, Bool.true_eq_false, Bool.not_true, Bool.not_false, at_0, at_1, at_2, at_3, at_4, at_5, at_6, at_7, ix_1_0, ix_2_0, ix_2_1, ix_3_0, ix_3_1, ix_3_2, ix_4_0, ix_4_1, ix_4_2, ix_4_3]
    refine ⟨by decide, by rw [sizeLine_eq]; omega, ?_⟩
    rw [ep]
    refine hN _ _ ?_
    clear hN
    refine sSeq_i fun N hN => ?_
    suffices hh : ∀ bt : Str, bt = (if sl = ("" : Str) then ("1" : Str) else bot) → N [some (.str z), some (.str top), some (.str sl), some (.str bt), none] S by
      simp only [rCallOwn, iZipT, kMaxT, rRevT, rDix2, sFrzV, sDrp, rSlC, rDget2, sSeq, sAsg, sDrop, sRet, sRetN, sIf, sNext, sPar, sPar3, sFor, sRaise, sFldT, sNo, rNo, rVar, rFrz, rC, rBin, rTest, bAnd, bOr, bNot, bIf, vAnd, vOr, vNot, rIf, rNeg, aNil, aCons, rTup, rLst, rLstC, rArgs, gNameT, gNilT, gConsT, gTupT, gSubT, iSeq, iRng1T, iRng2T, rLc, rCall, rCallN, rCallS, rFld, rCon, rMake, rMakeN, rMakeP, rMeth, rMethK, rProp, rClsFn, rOpOwn, rSl, oNone, oSome, rFmt, kFmt, rJs, rLidx, rChain, rTru, truT, rStr0, rPart, rSplit, kIntS, gStarT, kStrOwn, kAddC, rDct, kInt1, iEnumT, rMakeStar, rJoin, iZipM, iSeqH, iEnumL, rLc2, rTruC, rLcP, kLenOwn, kBoolOwn, rCMeth, rClsStar, rClsMake, rLz, rRevL, rRev2, rCMethK, rExcV, rMut, kAdd, kI2, kI2n, kMul, kIx, kIn, kLen, kU, kA2, kDm, kStrI, kAll, kSl, kAppend, kExtend, kTuple, kList, lenT, seqOf, bYes, startT, one, pickG, selG, insOf, putT, flatT, Bool.false_xor, Bool.true_xor, List.all_cons, List.all_nil, Bool.and_self, T.int.injEq, T.bl.injEq, T.str.injEq, T.lst.injEq, T.tup.injEq, T.cell.injEq, T.ins.injEq, Cell.lst.injEq, Cell.ins.injEq, Prod.mk.injEq, List.cons.injEq, Option.some.injEq, List.map_cons, List.map_nil, List.length_cons, List.length_nil, List.cons_append, List.nil_append, List.append_nil, List.getElem?_cons_zero, List.getElem?_cons_succ, List.set_cons_zero, List.set_cons_succ, List.replicate_succ, List.replicate_zero, exists_eq_left, exists_eq_left', exists_and_left, and_true, true_and, and_self, and_assoc, Nat.sub_self, Nat.reduceAdd, Nat.reduceSub, Nat.zero_add, put_put, put_same, reduceIte, Bool.false_eq_true, Bool.true_eq_false, Bool.not_true, Bool.not_false, at_0, at_1, at_2, at_3, at_4, at_5, at_6, at_7, ix_1_0, ix_2_0, ix_2_1, ix_3_0, ix_3_1, ix_3_2, ix_4_0, ix_4_1, ix_4_2, ix_4_3]
      refine eqSt0 (v := decide (sl = ("" : Str))) (by simp) ⟨_, rfl, ?_⟩
      by_cases e : sl = ("" : Str)
      · rw [if_pos (by rw [decide_eq_true e])]
        exact hh _ (by rw [if_pos e])
      · rw [if_neg (by rw [decide_eq_false e]; decide)]
        exact hh _ (by rw [if_neg e])
    intro bt hbt
    refine hN _ _ ?_
    clear hN
    rcases hp bt hbt with ⟨hno, hne⟩ | ⟨n, m, h1, h2, i1, l1, i2, l2, n1, m1, un⟩
    · have q : R .non S := by
        rcases q with ⟨a, b, f, e, _⟩ | ⟨_, q⟩
        · exact absurd e (hne a b f)
        · exact q
      refine sSeq_i fun N hN => ?_
      simp only [sp_is_numeral, rCallOwn, iZipT, kMaxT, rRevT, rDix2, sFrzV, sDrp, rSlC, rDget2, sSeq, sAsg, sDrop, sRet, sRetN, sIf, sNext, sPar, sPar3, sFor, sRaise, sFldT, sNo, rNo, rVar, rFrz, rC, rBin, rTest, bAnd, bOr, bNot, bIf, vAnd, vOr, vNot, rIf, rNeg, aNil, aCons, rTup, rLst, rLstC, rArgs, gNameT, gNilT, gConsT, gTupT, gSubT, iSeq, iRng1T, iRng2T, rLc, rCall, rCallN, rCallS, rFld, rCon, rMake, rMakeN, rMakeP, rMeth, rMethK, rProp, rClsFn, rOpOwn, rSl, oNone, oSome, rFmt, kFmt, rJs, rLidx, rChain, rTru, truT, rStr0, rPart, rSplit, kIntS, gStarT, kStrOwn, kAddC, rDct, kInt1, iEnumT, rMakeStar, rJoin, iZipM, iSeqH, iEnumL, rLc2, rTruC, rLcP, kLenOwn, kBoolOwn, rCMeth, rClsStar, rClsMake, rLz, rRevL, rRev2, rCMethK, rExcV, rMut, kAdd, kI2, kI2n, kMul, kIx, kIn, kLen, kU, kA2, kDm, kStrI, kAll, kSl, kAppend, kExtend, kTuple, kList, lenT, seqOf, bYes, startT, one, pickG, selG, insOf, putT, flatT, Bool.false_xor, Bool.true_xor, List.all_cons, List.all_nil, Bool.and_self, T.int.injEq, T.bl.injEq, T.str.injEq, T.lst.injEq, T.tup.injEq, T.cell.injEq, T.ins.injEq, Cell.lst.injEq, Cell.ins.injEq, Prod.mk.injEq, List.cons.injEq, Option.some.injEq, List.map_cons, List.map_nil, List.length_cons, List.length_nil, List.cons_append, List.nil_append, List.append_nil, List.getElem?_cons_zero, List.getElem?_cons_succ, List.set_cons_zero, List.set_cons_succ, List.replicate_succ, List.replicate_zero, exists_eq_left, exists_eq_left', exists_and_left, and_true, true_and, and_self, and_assoc, Nat.sub_self, Nat.reduceAdd, Nat.reduceSub, Nat.zero_add, put_put, put_same, reduceIte, Bool.false_eq_true, Bool.true_eq_false, Bool.not_true, Bool.not_false, at_0, at_1, at_2, at_3, at_4, at_5, at_6, at_7, ix_1_0, ix_2_0, ix_2_1, ix_3_0, ix_3_1, ix_3_2, ix_4_0, ix_4_1, ix_4_2, ix_4_3]
      rcases Bool.eq_false_or_eq_true (isNm top) with e1 | e1
      · have e2 : isNm bt = false := by
          rcases hno with e | e
          · rw [e1] at e; cases e
          · exact e
        rw [e1, if_neg (by decide), e2, if_pos (by decide)]
        exact q
      · rw [e1, if_pos (by decide)]
        exact q
    · refine sSeq_i fun N hN => ?_
      simp only [sp_is_numeral, h1, h2, rCallOwn, iZipT, kMaxT, rRevT, rDix2, sFrzV, sDrp, rSlC, rDget2, sSeq, sAsg, sDrop, sRet, sRetN, sIf, sNext, sPar, sPar3, sFor, sRaise, sFldT, sNo, rNo, rVar, rFrz, rC, rBin, rTest, bAnd, bOr, bNot, bIf, vAnd, vOr, vNot, rIf, rNeg, aNil, aCons, rTup, rLst, rLstC, rArgs, gNameT, gNilT, gConsT, gTupT, gSubT, iSeq, iRng1T, iRng2T, rLc, rCall, rCallN, rCallS, rFld, rCon, rMake, rMakeN, rMakeP, rMeth, rMethK, rProp, rClsFn, rOpOwn, rSl, oNone, oSome, rFmt, kFmt, rJs, rLidx, rChain, rTru, truT, rStr0, rPart, rSplit, kIntS, gStarT, kStrOwn, kAddC, rDct, kInt1, iEnumT, rMakeStar, rJoin, iZipM, iSeqH, iEnumL, rLc2, rTruC, rLcP, kLenOwn, kBoolOwn, rCMeth, rClsStar, rClsMake, rLz, rRevL, rRev2, rCMethK, rExcV, rMut, kAdd, kI2, kI2n, kMul, kIx, kIn, kLen, kU, kA2, kDm, kStrI, kAll, kSl, kAppend, kExtend, kTuple, kList, lenT, seqOf, bYes, startT, one, pickG, selG, insOf, putT, flatT, Bool.false_xor, Bool.true_xor, List.all_cons, List.all_nil, Bool.and_self, T.int.injEq, T.bl.injEq, T.str.injEq, T.lst.injEq, T.tup.injEq, T.cell.injEq, T.ins.injEq, Cell.lst.injEq, Cell.ins.injEq, Prod.mk.injEq, List.cons.injEq, Option.some.injEq, List.map_cons, List.map_nil, List.length_cons, List.length_nil, List.cons_append, List.nil_append, List.append_nil, List.getElem?_cons_zero, List.getElem?_cons_succ, List.set_cons_zero, List.set_cons_succ, List.replicate_succ, List.replicate_zero, exists_eq_left, exists_eq_left', exists_and_left, and_true, true_and, and_self, and_assoc, Nat.sub_self, Nat.reduceAdd, Nat.reduceSub, Nat.zero_add, put_put, put_same, reduceIte, Bool.false_eq_true, Bool.true_eq_false, Bool.not_true, Bool.not_false, at_0, at_1, at_2, at_3, at_4, at_5, at_6, at_7, ix_1_0, ix_2_0, ix_2_1, ix_3_0, ix_3_1, ix_3_2, ix_4_0, ix_4_1, ix_4_2, ix_4_3]
      refine hN _ _ ?_
      clear hN
      refine sSeq_i fun N hN => ?_
      simp only [kIntB, rCallOwn, iZipT, kMaxT, rRevT, rDix2, sFrzV, sDrp, rSlC, rDget2, sSeq, sAsg, sDrop, sRet, sRetN, sIf, sNext, sPar, sPar3, sFor, sRaise, sFldT, sNo, rNo, rVar, rFrz, rC, rBin, rTest, bAnd, bOr, bNot, bIf, vAnd, vOr, vNot, rIf, rNeg, aNil, aCons, rTup, rLst, rLstC, rArgs, gNameT, gNilT, gConsT, gTupT, gSubT, iSeq, iRng1T, iRng2T, rLc, rCall, rCallN, rCallS, rFld, rCon, rMake, rMakeN, rMakeP, rMeth, rMethK, rProp, rClsFn, rOpOwn, rSl, oNone, oSome, rFmt, kFmt, rJs, rLidx, rChain, rTru, truT, rStr0, rPart, rSplit, kIntS, gStarT, kStrOwn, kAddC, rDct, kInt1, iEnumT, rMakeStar, rJoin, iZipM, iSeqH, iEnumL, rLc2, rTruC, rLcP, kLenOwn, kBoolOwn, rCMeth, rClsStar, rClsMake, rLz, rRevL, rRev2, rCMethK, rExcV, rMut, kAdd, kI2, kI2n, kMul, kIx, kIn, kLen, kU, kA2, kDm, kStrI, kAll, kSl, kAppend, kExtend, kTuple, kList, lenT, seqOf, bYes, startT, one, pickG, selG, insOf, putT, flatT, Bool.false_xor, Bool.true_xor, List.all_cons, List.all_nil, Bool.and_self, T.int.injEq, T.bl.injEq, T.str.injEq, T.lst.injEq, T.tup.injEq, T.cell.injEq, T.ins.injEq, Cell.lst.injEq, Cell.ins.injEq, Prod.mk.injEq, List.cons.injEq, Option.some.injEq, List.map_cons, List.map_nil, List.length_cons, List.length_nil, List.cons_append, List.nil_append, List.append_nil, List.getElem?_cons_zero, List.getElem?_cons_succ, List.set_cons_zero, List.set_cons_succ, List.replicate_succ, List.replicate_zero, exists_eq_left, exists_eq_left', exists_and_left, and_true, true_and, and_self, and_assoc, Nat.sub_self, Nat.reduceAdd, Nat.reduceSub, Nat.zero_add, put_put, put_same, reduceIte, Bool.false_eq_true, Bool.true_eq_false, Bool.not_true, Bool.not_false, at_0, at_1, at_2, at_3, at_4, at_5, at_6, at_7, ix_1_0, ix_2_0, ix_2_1, ix_3_0, ix_3_1, ix_3_2, ix_4_0, ix_4_1, ix_4_2, ix_4_3]
      refine ⟨_, i1, l1, _, i2, l2, by decide, hN _ _ ?_⟩
      clear hN
      have av : AnyV K S (.tup [.int (n : Int), .int (m : Int)]) := ⟨.tup, fun ts e => by
        have e := T.tup.inj e
        subst e
        refine ⟨fun y mm => ?_, by simp⟩
        simp only [List.mem_cons, List.not_mem_nil, or_false] at mm
        rcases mm with rfl | rfl <;> exact .int, fun x y e hx hy => by
        have e := T.tup.inj e
        simp only [List.cons.injEq, T.int.injEq, and_true] at e
        obtain ⟨rfl, rfl⟩ := e
        exact ⟨⟨hx, by simpa using n1⟩, ⟨hy, by simpa using m1⟩⟩⟩
      refine sSeq_i fun N hN => ?_
      simp only [sp_is_fraction, sp_format_fraction, rCallOwn, iZipT, kMaxT, rRevT, rDix2, sFrzV, sDrp, rSlC, rDget2, sSeq, sAsg, sDrop, sRet, sRetN, sIf, sNext, sPar, sPar3, sFor, sRaise, sFldT, sNo, rNo, rVar, rFrz, rC, rBin, rTest, bAnd, bOr, bNot, bIf, vAnd, vOr, vNot, rIf, rNeg, aNil, aCons, rTup, rLst, rLstC, rArgs, gNameT, gNilT, gConsT, gTupT, gSubT, iSeq, iRng1T, iRng2T, rLc, rCall, rCallN, rCallS, rFld, rCon, rMake, rMakeN, rMakeP, rMeth, rMethK, rProp, rClsFn, rOpOwn, rSl, oNone, oSome, rFmt, kFmt, rJs, rLidx, rChain, rTru, truT, rStr0, rPart, rSplit, kIntS, gStarT, kStrOwn, kAddC, rDct, kInt1, iEnumT, rMakeStar, rJoin, iZipM, iSeqH, iEnumL, rLc2, rTruC, rLcP, kLenOwn, kBoolOwn, rCMeth, rClsStar, rClsMake, rLz, rRevL, rRev2, rCMethK, rExcV, rMut, kAdd, kI2, kI2n, kMul, kIx, kIn, kLen, kU, kA2, kDm, kStrI, kAll, kSl, kAppend, kExtend, kTuple, kList, lenT, seqOf, bYes, startT, one, pickG, selG, insOf, putT, flatT, Bool.false_xor, Bool.true_xor, List.all_cons, List.all_nil, Bool.and_self, T.int.injEq, T.bl.injEq, T.str.injEq, T.lst.injEq, T.tup.injEq, T.cell.injEq, T.ins.injEq, Cell.lst.injEq, Cell.ins.injEq, Prod.mk.injEq, List.cons.injEq, Option.some.injEq, List.map_cons, List.map_nil, List.length_cons, List.length_nil, List.cons_append, List.nil_append, List.append_nil, List.getElem?_cons_zero, List.getElem?_cons_succ, List.set_cons_zero, List.set_cons_succ, List.replicate_succ, List.replicate_zero, exists_eq_left, exists_eq_left', exists_and_left, and_true, true_and, and_self, and_assoc, Nat.sub_self, Nat.reduceAdd, Nat.reduceSub, Nat.zero_add, put_put, put_same, reduceIte, Bool.false_eq_true, Bool.true_eq_false, Bool.not_true, Bool.not_false, at_0, at_1, at_2, at_3, at_4, at_5, at_6, at_7, ix_1_0, ix_2_0, ix_2_1, ix_3_0, ix_3_1, ix_3_2, ix_4_0, ix_4_1, ix_4_2, ix_4_3]
      refine ⟨av, ?_⟩
      cases g : goodF (.tup [.int (n : Int), .int (m : Int)]) with
      | false =>
        rw [if_pos (by decide)]
        rcases q with ⟨a, b, f, e, _⟩ | ⟨_, q⟩
        · obtain ⟨rfl, rfl⟩ := un a b f e
          have := f.good
          unfold frT at this
          rw [this] at g
          cases g
        · exact q
      | true =>
        rw [if_neg (by decide)]
        have f : Fr 8000 (n : Int) (m : Int) := by
          simp only [goodF, Bool.and_eq_true, decide_eq_true_eq] at g
          exact ⟨⟨g.1.1, by simpa using n1⟩, ⟨g.1.2, by simpa using m1⟩, g.2⟩
        refine ⟨_, _, rfl, f, ?_⟩
        by_cases ez : z = frS (n : Int) (m : Int)
        · refine eqSt0 (v := false) (by rw [decide_eq_true ez.symm]; rfl) ⟨_, rfl, ?_⟩
          rw [if_neg (by decide)]
          refine hN _ _ ?_
          simp only [rCallOwn, iZipT, kMaxT, rRevT, rDix2, sFrzV, sDrp, rSlC, rDget2, sSeq, sAsg, sDrop, sRet, sRetN, sIf, sNext, sPar, sPar3, sFor, sRaise, sFldT, sNo, rNo, rVar, rFrz, rC, rBin, rTest, bAnd, bOr, bNot, bIf, vAnd, vOr, vNot, rIf, rNeg, aNil, aCons, rTup, rLst, rLstC, rArgs, gNameT, gNilT, gConsT, gTupT, gSubT, iSeq, iRng1T, iRng2T, rLc, rCall, rCallN, rCallS, rFld, rCon, rMake, rMakeN, rMakeP, rMeth, rMethK, rProp, rClsFn, rOpOwn, rSl, oNone, oSome, rFmt, kFmt, rJs, rLidx, rChain, rTru, truT, rStr0, rPart, rSplit, kIntS, gStarT, kStrOwn, kAddC, rDct, kInt1, iEnumT, rMakeStar, rJoin, iZipM, iSeqH, iEnumL, rLc2, rTruC, rLcP, kLenOwn, kBoolOwn, rCMeth, rClsStar, rClsMake, rLz, rRevL, rRev2, rCMethK, rExcV, rMut, kAdd, kI2, kI2n, kMul, kIx, kIn, kLen, kU, kA2, kDm, kStrI, kAll, kSl, kAppend, kExtend, kTuple, kList, lenT, seqOf, bYes, startT, one, pickG, selG, insOf, putT, flatT, Bool.false_xor, Bool.true_xor, List.all_cons, List.all_nil, Bool.and_self, T.int.injEq, T.bl.injEq, T.str.injEq, T.lst.injEq, T.tup.injEq, T.cell.injEq, T.ins.injEq, Cell.lst.injEq, Cell.ins.injEq, Prod.mk.injEq, List.cons.injEq, Option.some.injEq, List.map_cons, List.map_nil, List.length_cons, List.length_nil, List.cons_append, List.nil_append, List.append_nil, List.getElem?_cons_zero, List.getElem?_cons_succ, List.set_cons_zero, List.set_cons_succ, List.replicate_succ, List.replicate_zero, exists_eq_left, exists_eq_left', exists_and_left, and_true, true_and, and_self, and_assoc, Nat.sub_self, Nat.reduceAdd, Nat.reduceSub, Nat.zero_add, put_put, put_same, reduceIte, Bool.false_eq_true, Bool.true_eq_false, Bool.not_true, Bool.not_false, at_0, at_1, at_2, at_3, at_4, at_5, at_6, at_7, ix_1_0, ix_2_0, ix_2_1, ix_3_0, ix_3_1, ix_3_2, ix_4_0, ix_4_1, ix_4_2, ix_4_3]
          rcases q with ⟨a, b, f2, e, q⟩ | ⟨hno, _⟩
          · obtain ⟨rfl, rfl⟩ := un a b f2 e
            exact q
          · exact absurd ez (hno _ _ f)
        · refine eqSt0 (v := true) (by rw [decide_eq_false fun e => ez e.symm]; rfl) ⟨_, rfl, ?_⟩
          rw [if_pos (by decide)]
          rcases q with ⟨a, b, f2, e, q⟩ | ⟨_, q⟩
          · obtain ⟨rfl, rfl⟩ := un a b f2 e
            exact absurd e ez
          · exact q
  · exact h.elim
/-! try: body / except t as n: suite / .. : each test a class or a tuple of two or three -/
theorem flying_keeps {B : Heap} {l : List Env} {a : Addr} {Z : Obj → Prop} {h h' : Heap} (fl : HandSPX.FlyingZ B l a Z h) (kp : ∀ b o, h.get? b = some o → h'.get? b = some o) : HandSPX.FlyingZ B l a Z h' := by
  obtain ⟨h1, h2, h3, oe, vs, T, oT, ts, t1, t2, t3, t4, t5, t6, t7, t8, t9⟩ := fl
  exact ⟨fun b o e => kp _ _ (h1 b o e), h2, h3.of_keeps fun b o e _ => ⟨o, kp _ _ e, rfl⟩, oe, vs, T, oT, ts, kp _ _ t1, t2, t3, t4, t5, t6, kp _ _ t7, t8, t9⟩
/-- what a clause's test asks of the error's class -/
inductive TestOf (X : Cx) : Expr → (Value → Option Bool) → Prop where
  | one {x : Str} {c : Value} {np : Pos} (h : Names X x c) : TestOf X (.Name x np) (fun cls => PySem.W.exmOne X.K cls c)
  | two {x1 x2 : Str} {c1 c2 : Value} {p1 p2 tp : Pos} {kk : Nat} (h1 : Names X x1 c1) (h2 : Names X x2 c2) : TestOf X (.Tuple [.Name x1 p1, .Name x2 p2] kk tp) (fun cls => PySem.W.exmAny X.K cls [c1, c2])
  | three {x1 x2 x3 : Str} {c1 c2 c3 : Value} {p1 p2 p3 tp : Pos} {kk : Nat} (h1 : Names X x1 c1) (h2 : Names X x2 c2) (h3 : Names X x3 c3) : TestOf X (.Tuple [.Name x1 p1, .Name x2 p2, .Name x3 p3] kk tp) (fun cls => PySem.W.exmAny X.K cls [c1, c2, c3])
section
variable {X : Cx} {a : Addr} {oe : Obj} {pn pins : List (Addr × Obj)} {sl : L2.St} {H : Hp} {s : Shared}
theorem name_run {x : Str} {c : Value} {np : Pos} {Q E : Value → Shared → Prop} (h : Names X x c) (inv : Inv (X.suite a ((a, oe) :: pn)) pins sl H s) (q : Q c s) : wpAny (model X.prog X.w) (X.A.mark (some (.ref a))) (eval (.Name x np) X.env) Q E s := by
  obtain ⟨hg, dbg, hm | ⟨hm, hv, nn⟩⟩ := h
  · exact ld_glob (X := X.suite a ((a, oe) :: pn)) inv hg hm q dbg
  · exact ld_blt (X := X.suite a ((a, oe) :: pn)) inv hg hm hv q nn dbg
theorem test_run {t : Expr} {m : Value → Option Bool} {cls : Value} {b : Bool} (T : TestOf X t m) (inv : Inv (X.suite a ((a, oe) :: pn)) pins sl H s) (he : s.heap.get? a = some oe) (hc : oe.cls = cls) (hm : m cls = some b) {Q : Bool → Shared → Prop} {E : Value → Shared → Prop}
    (q : ∀ h', (∀ y o, s.heap.get? y = some o → h'.get? y = some o) → Q b { s with heap := h' }) :
    wpAny (model X.prog X.w) (X.A.mark (some (.ref a))) (eval t X.env) (fun c s1 => wpAny (model X.prog X.w) (X.A.mark (some (.ref a))) (excMatches (.ref a) c) Q E s1) E s := by
  have cl : ∀ {h' : Heap}, (∀ y o, s.heap.get? y = some o → h'.get? y = some o) → PySem.W.Looks (model X.prog X.w) h' (typeOf (.ref a)) cls := fun kp A Q E s' k z => wpAny_typeOf_ref (k _ _ (kp _ _ he)) (by rw [hc]; exact z)
  cases T with
  | one h => exact name_run h inv ((PySem.W.exm_one inv.kIn (cl fun _ _ z => z) hm).here (q s.heap fun _ _ z => z))
  | @two x1 x2 c1 c2 p1 p2 tp kk h1 h2 =>
    refine wpAny_Tuple (wpAny_items_cons (name_run h1 inv (wpAny_items_cons (name_run h2 inv (wpAny_items_nil ⟨by size_fits, ?_⟩)))))
    have kp : ∀ y o, s.heap.get? y = some o → (s.heap.push { cls := .type "tuple", data := .seq [c1, c2].toArray }).get? y = some o := fun _ _ z => Heap.get?_push_of_some _ z
    exact (PySem.W.exm_tup2 (inv.kIn.keeps kp) (cl kp) (Heap.get?_push_size s.heap rfl) hm).here (q _ kp)
  | @three x1 x2 x3 c1 c2 c3 p1 p2 p3 tp kk h1 h2 h3 =>
    refine wpAny_Tuple (wpAny_items_cons (name_run h1 inv (wpAny_items_cons (name_run h2 inv (wpAny_items_cons (name_run h3 inv (wpAny_items_nil ⟨by size_fits, ?_⟩)))))))
    have kp : ∀ y o, s.heap.get? y = some o → (s.heap.push { cls := .type "tuple", data := .seq [c1, c2, c3].toArray }).get? y = some o := fun _ _ z => Heap.get?_push_of_some _ z
    exact (PySem.W.exm_tup3 (inv.kIn.keeps kp) (cl kp) (Heap.get?_push_size s.heap rfl) hm).here (q _ kp)
end
abbrev Clause : Type := (Value → Option Bool) × Nat × (Addr → Value → Option Addr → TS)
inductive Clauses (X : Cx) : List ExceptHandler → List Clause → Prop where
  | nil : Clauses X [] []
  | cons {t : Expr} {m : Value → Option Bool} {n : Str} {i : Nat} {ts : Addr → Value → Option Addr → TS} {b₀ : Stmt} {suite : List Stmt} {pos' : Pos} {hds : List ExceptHandler} {l : List Clause} (T : TestOf X t m) (hi : X.N[i]? = some n) (hl : X.env.kindOf n = some .local)
      (su : ∀ (a : Addr) (oe : Obj) (cls : Value) (d : Option Addr) (pn : List (Addr × Obj)), L2N.Zn cls d oe → (∃ vs, oe.data = .fields vs) → PSs (X.suite a ((a, oe) :: pn)) (b₀ :: suite) (ts a cls d)) (r : Clauses X hds l) :
      Clauses X (.ExceptHandler (some t) (some n) (b₀ :: suite) pos' :: hds) ((m, i, ts) :: l)
def wClauses (Wout : WX) (D : Ends) : List Clause → WX
  | [] => Wout
  | (m, i, ts) :: r => fun cls d sl H => ∃ b, m cls = some b ∧
      (b = true → ∀ a, H a = none → ts a cls d { nx := fun sl' H' => D.nx (sl'.set i none) H', rt := D.rt, bk := fun sl' H' => D.bk (sl'.set i none) H', ct := fun sl' H' => D.ct (sl'.set i none) H' } (sl.set i (some (.ref a))) H) ∧ (b = false → wClauses Wout D r cls d sl H)
section
variable {X : Cx} {body : List Stmt} {h₀ : ExceptHandler} {hds : List ExceptHandler} {l : List Clause} {pos : Pos} {tb : WX → TS} {Wout : WX}
theorem ps_tries (hst : X.stack = X.env :: X.outer) (hfr : X.env.frame = some X.env.locals) (nd : X.N.Nodup) (tk : L2N.Takes X Wout)
    (hb : ∀ (W : WX) (pn : List (Addr × Obj)) (xe : Value → Shared → Prop), L2N.Takes (X.tr pn xe) W → PassesOwn (model X.prog X.w) X.A X.env xe → PSs (X.tr pn xe) body (tb W))
    (cl : Clauses X (h₀ :: hds) l) : L2.PS X (.Try body (h₀ :: hds) [] [] pos) (fun D sl H => tb (wClauses Wout D l) D sl H) := by
  refine ⟨fun pins st sl H D inv want => ?_⟩
  have ok := inv.ok
  have frames : X.A.frames = some (X.env :: X.outer) := by rw [ok.frames, hst]
  refine wpAny_Try_except ?_
  refine wpAny_mono ((hb (wClauses Wout D l) (X.pn ++ pins) (fun e s1 => wpAny (model X.prog X.w) X.A (noteFrame e X.env) (fun _ s2 => wpAny (model X.prog X.w) X.A (setFlight e none) (fun _ s3 =>
    wpAny (model X.prog X.w) X.A (handleBy e X.env (h₀ :: hds)) (SP X pins D) X.xe s3) X.xe s2) X.xe s1) (fun u s' air => ?_) PassesOwn.looking).run [] st sl H D (inv.toTry _) want) (fun f s1 got => ?_) (fun e s1 he => he)
  · obtain ⟨a, B, sI, pins', sl', H', cls, d, rfl, invT, nb, up, sky, na, os, ag, wish⟩ := air
    have invI : Inv X pins sl' H' sI := invT.ofTry ok
    have sky' : Sky B (X.env :: X.outer) a (L2N.Zn cls d) X.env.locals s'.heap := by rw [← hst]; exact sky
    show wpAny (model X.prog X.w) X.A (noteFrame (.ref a) X.env) _ _ _
    refine L2N.Sky.land L2N.Zn.steady frames hfr sky' fun hL flL upL => ?_
    -- the error stands beside what is tracked, in every later heap
    have notFr : ∀ {h : Heap} {o : Obj} {vs : Array Value}, h.FunFrames B (X.env :: X.outer) → h.get? a = some o → o.data = .fields vs → a ∉ frs (X.env :: X.outer) := fun ff e dd hm => by
      obtain ⟨_, o', e', hnf⟩ := ff.mem hm
      rw [e] at e'
      cases e'
      exact hnf _ dd
    have away : ∀ {h : Heap}, HandSPX.FlyingZ B (X.env :: X.outer) a (L2N.Zn cls d) h → a ≠ X.env.locals ∧ a ∉ X.fs := fun fl => by
      obtain ⟨o, vs, e, _, dd⟩ := fl.there
      have nfr := notFr fl.2.2.1 e dd
      refine ⟨fun z => nfr (List.mem_filterMap.mpr ⟨X.env, List.mem_cons_self, by rw [hfr, z]⟩), fun hm => ?_⟩
      obtain ⟨en, hen, q⟩ := List.mem_filterMap.mp hm
      exact nfr (List.mem_filterMap.mpr ⟨en, List.mem_cons_of_mem _ hen, q⟩)
    have go : ∀ {hs : List ExceptHandler} {l' : List Clause}, Clauses X hs l' → ∀ h3, HandSPX.FlyingZ B (X.env :: X.outer) a (L2N.Zn cls d) h3 → sI.heap.UpToSlots h3 → wClauses Wout D l' cls d sl' H' →
        wpAny (model X.prog X.w) X.A (handleBy (.ref a) X.env hs) (SP X pins D) X.xe { s' with heap := h3 } := by
      intro hs l' hk
      induction hk with
      | nil =>
        intro h3 fl up3 w
        refine wpAny_handleBy_nil ?_
        obtain ⟨_, _, _, oe, vs, T, oT, ts', he, _, hd, h1, _⟩ := id fl
        unfold PySem.passOn
        refine wpAny_bind (wpAny_field he hd h1 ?_)
        rw [if_neg (show ¬ ((Value.ref T == Value.none) = true) from by simp)]
        have fin : wpAny (model X.prog X.w) X.A (setFlight (.ref a) X.env.frame) (fun _ s4 => wpAny (model X.prog X.w) X.A (throw (.ref a) : Sem Flow) (SP X pins D) X.xe s4) X.xe { s' with heap := h3 } := by
          rw [hfr]
          refine HandSPX.setFlight_upZ fl fun h4 held up4 => wpAny_throw (tk _ _ ?_)
          exact ⟨a, B, sI, pins, sl', H', cls, d, rfl, invI, nb, up3.trans up4, .inr (.inr (by rw [hst]; exact held)), na, os, ag, w⟩
        first
          | exact wpAny_bind (wpAny_pure (wpAny_bind fin))
          | exact wpAny_bind fin
      | @cons t m n i ts b₀ suite pos' hds2 l2 T hi hl su r ih =>
        intro h3 fl up3 w
        obtain ⟨b, hm, yes, no⟩ := w
        obtain ⟨oe3, vs3, he3, hz3, hd3⟩ := fl.there
        obtain ⟨nL, nF⟩ := away fl
        have inv3 : Inv X pins sl' H' { s' with heap := h3 } := invI.landed nb fl.1 up3 os ag
        refine wpAny_handleBy_cons (codeAny_handlers_test ?_) (by intro q; cases q)
        refine test_run T (inv3.suite he3 hd3 na nL nF) he3 hz3.1 hm fun h4 kp => ?_
        have fl4 := flying_keeps fl kp
        have up4 : sI.heap.UpToSlots h4 := up3.trans (Heap.UpToSlots.of_keeps kp)
        cases b with
        | true =>
          refine codeAny_handlers_suite_as ?_
          refine HandSPX.lands_againZ fl4 fun h5 fl5 up5 => ?_
          have inv5 : Inv X pins sl' H' { s' with heap := h5 } := invI.landed nb fl5.1 (up4.trans up5) os ag
          obtain ⟨oe5, vs5, he5, hz5, hd5⟩ := fl5.there
          refine store_ok (X := X.suite a ((a, oe5) :: (X.pn ++ pins))) (v := .ref a) (inv5.suite he5 hd5 na nL nF) nd hi (.inl hl) rfl (fun s6 inv6 => ?_) (.inr hl)
          refine wpAny_mono ((su a oe5 cls d (X.pn ++ pins) hz5 ⟨_, hd5⟩).run [] s6 _ H' _ inv6 (yes rfl a na)) (fun f s7 got => ?_) (fun _ _ z => False.elim z)
          have fin : ∀ {sl7 : L2.St} {H7 : Hp} {Q : Shared → Prop}, Inv (X.suite a ((a, oe5) :: (X.pn ++ pins))) [] sl7 H7 s7 → (∀ s8, Inv X pins (sl7.set i none) H7 s8 → Q s8) →
              wpAny (model X.prog X.w) X.A (do bindName X.env n .none; unbindBehindTheSuite X.env n pos') (fun _ s8 => Q s8) X.xe s7 := fun inv7 q => gone_ok (inv7.unsuite ok) nd hi hl q
          cases f with
          | next =>
            obtain ⟨_, _, inv7, q⟩ := got
            exact fin inv7 fun s8 J => ⟨_, _, J, q⟩
          | brk =>
            obtain ⟨_, _, inv7, q⟩ := got
            exact fin inv7 fun s8 J => ⟨_, _, J, q⟩
          | cont =>
            obtain ⟨_, _, inv7, q⟩ := got
            exact fin inv7 fun s8 J => ⟨_, _, J, q⟩
          | ret u =>
            obtain ⟨_, _, _, inv7, rv, q⟩ := got
            exact fin inv7 fun s8 J => ⟨_, _, _, J, rv, q⟩
        | false =>
          show wpAny _ X.A (handleBy (.ref a) X.env hds2) _ _ _
          exact ih h4 fl4 up4 (no rfl)
    exact go cl hL flL (up.trans upL) wish
  · cases f with
    | next =>
      obtain ⟨_, _, J, q⟩ := got
      exact wpAny_execs_nil ⟨_, _, J.ofTry ok, q⟩
    | brk =>
      obtain ⟨_, _, J, q⟩ := got
      exact ⟨_, _, J.ofTry ok, q⟩
    | cont =>
      obtain ⟨_, _, J, q⟩ := got
      exact ⟨_, _, J.ofTry ok, q⟩
    | ret u =>
      obtain ⟨_, _, _, J, rv, q⟩ := got
      exact ⟨_, _, _, J.ofTry ok, rv, q⟩
end
section
variable {X : Cx} {a : Addr} {oe : Obj} {cls : Value} {d : Option Addr} {pn : List (Addr × Obj)}
theorem pe_xfR {e : Expr} {te : TE} {pos : Pos} {n : Str} (hz : Zc cls d oe) (hf : ∃ vs, oe.data = .fields vs) (he : PE (X.suite a ((a, oe) :: pn)) e te) (hb : attributeBase e n X.env (eval e X.env) = eval e X.env := by rfl) :
    PE (X.suite a ((a, oe) :: pn)) (.Attribute e n pos) (fun sl H Q => ∃ C, XfC X.K C ∧ PySem.W.findIn X.K (.ref C) n = some none ∧ tXf a cls d C n te sl H Q) :=
  ⟨fun pins s sl H Q inv ⟨C, T, no, q⟩ => (pe_xf T no hz hf he hb).run pins s sl H Q inv q⟩
end
theorem takes0N {X : Cx} : L2N.Takes X (fun _ _ _ _ => False) := fun _ _ x => by
  obtain ⟨_, _, _, _, _, _, _, _, _, _, _, _, _, _, _, _, z⟩ := x
  exact z.elim
/-! try: return E / except C as e: return ["z", e.f] -/
def sTryR (K : PySem.W.Frag) (C : Addr) (z fld : Str) (re : TR) : TRS := fun D σ S => re σ S D.rt (fun C' gs S' => PySem.W.exmOne K (.ref C') (.ref C) = some true ∧ XfC K C' ∧ PySem.W.findIn K (.ref C') fld = some none ∧ ∃ v, gs.lookup fld = some v ∧ D.rt (.lst [.str z, v]) S')
theorem ss_tryR {X : Cx} {E : XK} (K : PySem.W.Frag) (hK : X.K = K) {C : Addr} {ex : Expr} {xn en fld z : Str} {jz : Nat} {pz : Pos} {i : Nat} {re : TR} {p1 p2 p3 p4 p5 p6 p7 p8 : Pos} (hst : X.stack = X.env :: X.outer) (hfr : X.env.frame = some X.env.locals) (nd : X.N.Nodup)
    (hn : Names X xn (.ref C)) (hi : X.N[i]? = some en) (hl : X.env.kindOf en = some .local) (hv : Vis X.env.scope en)
    (hd : (en == ("__debug__" : Str)) = false) (hcd : (en == ("__classdict__" : Str)) = false)
    (hb : ∀ (pn : List (Addr × Obj)) (xe : Value → Shared → Prop) (E' : XK), Passes (L2N.CX X.prog X.w) (X.tr pn xe) E' → ET (X.tr pn xe) E' ex re) :
    SS X E (.Try [.Return (some ex) p1] [.ExceptHandler (some (.Name xn p2)) (some en) [.Return (some (.List [.Constant (.str z) jz pz, .Attribute (.Name en p3) fld p4] p5)) p6] p7] [] [] p8) (sTryR K C z fld re) := by
  subst hK
  refine ⟨ps_weak (ps_tries (Wout := fun _ _ _ _ => False) (tb := fun W D sl H => ∃ E' : XK, (∀ cls d H', E' cls d H' → ∀ sl' : L2.St, sl'.length = X.N.length → W cls d sl' H') ∧ UpE X.K E' re sl H D.rt) hst hfr nd takes0N (fun W pn xe tk _ => ?body)
    (.cons (i := i) (.one hn) hi hl (fun a oe cls d pn hzn hf => pss_one (ps_ret (pe_lst (pa_cons pe_str (pa_cons (pe_xfR hzn.zc hf (pv i (hN := hi) (hv := hv) (hd := hd) (hcd := hcd))) pa_nil))))) .nil)) ?imp⟩
  case body =>
    refine ⟨fun pins s sl H D inv got => ?_⟩
    obtain ⟨E', hW, up⟩ := got
    have tk' : L2N.Takes (X.tr pn xe) (fun cls d _ H => E' cls d H) := fun u s' ⟨a, B, sI, pins, σ, H, cls, d, e, I, nb, up, sky, na, os, ag, w⟩ => tk u s' ⟨a, B, sI, pins, σ, H, cls, d, e, I, nb, up, sky, na, os, ag, hW _ _ _ w _ I.len⟩
    exact (pss_one (ps_ret (hb pn xe E' (passL2N tk')).pe)).run pins s sl H D inv up
  case imp =>
    intro D sl H ⟨⟨Z, σ, S, DT, fr, ok, w, eo, xo⟩⟩
    refine ⟨fun cls d H' => ∃ (C' dd : Addr) (fs : List (Str × V)) (v : V), cls = .ref C' ∧ d = some dd ∧ PySem.W.exmOne X.K (.ref C') (.ref C) = some true ∧ XfC X.K C' ∧ PySem.W.findIn X.K (.ref C') fld = some none ∧ H' dd = some (.xd fs) ∧ fs.lookup fld = some v ∧ ∀ L, H' L = none → D.rt (.ref L) (upd H' L (.lst [.str z, v])), ?_, ?_⟩
    · rintro cls d H' ⟨C', dd, fs, v, rfl, rfl, h1, h2, h3, h4, h5, k⟩ sl' hlen
      have lt : i < sl'.length := by
        rw [hlen]
        exact (List.getElem?_eq_some_iff.mp hi).1
      refine ⟨true, h1, fun _ a na => ?_, fun z => Bool.noConfusion z⟩
      refine ⟨C', h2, h3, _, ?_, rfl, rfl, dd, fs, v, rfl, h4, h5, (show 2 ≤ sizeLine by decide), k⟩
      rw [List.getElem?_set_self lt]
    · refine ⟨Z, σ, S, _, _, fr, ok, w, eo.rt, ?_⟩
      intro C' gs S' od fs H' got le' ok' xd rf
      obtain ⟨h1, h2, h3, v, hv, k⟩ := got
      cases od with
      | none =>
        obtain rfl : fs = [] := xd
        cases rf
        cases hv
      | some dd =>
        obtain ⟨u, hu, ru⟩ := rf.look hv
        refine ⟨C', dd, fs, u, rfl, rfl, h1, h2, h3, xd, hu, fun L hL => ?_⟩
        exact eo.rt _ _ _ _ k (le'.trans (le_new hL)) (ok'.new hL) (.lstN ok' hL (.cons (.str _) (.cons ru .nil)))
theorem sc_parse_fraction : FnScope ["text", "number"] ["text"] (defScope s_parse_fraction) := ⟨rfl, rfl, rfl, by decide +kernel, rfl, by decide +kernel, by decide +kernel⟩
def sp_parse_fraction (K : PySem.W.Frag) (C : Addr) : SpT := fun ts S R RE => match ts with
  | [.str z] => z.length ≤ 2400 ∧ ((∃ a b, Fr 8000 a b ∧ z = frS a b ∧ R (frT a b) S) ∨ ((∀ a b, Fr 8000 a b → z ≠ frS a b) ∧ RE C [("value", .str z)] S))
  | _ => False
theorem ok_parse_fraction {P : Program} {w : World} {K : PySem.W.Frag} {mg : Str → Option Value} {base : Heap} {f : Addr} {fd : FuncData} {C_InvalidText fI_InvalidText g_find_fraction : Addr} {gd_find_fraction : FuncData} (F : Fun K "parse_fraction" "parse_fraction" s_parse_fraction f fd)
    (Z_InvalidText : EvTxt K C_InvalidText fI_InvalidText "InvalidText.__init__")
    (m_InvalidText : mg "InvalidText" = some (.ref C_InvalidText))
    (G_find_fraction : FnT P w K mg base 6 g_find_fraction gd_find_fraction ["text"] (sp_find_fraction K))
    (m_find_fraction : mg "find_fraction" = some (.ref g_find_fraction))
    (k_find_fraction : PySem.W.keepIn K (.ref g_find_fraction) = true)
    (b_find_fraction : Binds K gd_find_fraction ["text"] [])
    : FnT P w K mg base 7 f fd ["text"] (sp_parse_fraction K C_InvalidText) := by
  refine okT F sc_parse_fraction (by intro ts S R RE h; unfold sp_parse_fraction at h; split at h <;> first | rfl | exact h.elim) (fun cdv A out s H E hg hr => (bs_cons (ss_set (i := 1) sc_parse_fraction.nd rfl (by first | exact Or.inl rfl | exact Or.inr rfl) (et_callD G_find_fraction hg (hr.mono (by decide)) (by rfl) m_find_fraction k_find_fraction (CallD.all b_find_fraction) (passL2N (L2N.takes_of rfl rfl rfl rfl)) (at_cons (et_var (pv 0)) at_nil)))
    (bs_cons (ss_if (tt_cmp op_isN cv_isN (et_var (pv 1)) et_non (nomark _)) (bs_one (ss_raise Z_InvalidText rfl m_InvalidText hr (L2N.takes_of rfl rfl rfl rfl) (hg := by rfl) (at_cons (et_var (pv 0)) at_nil))) bs_nil)
    (bs_one (ss_ret (et_var (pv 1))))))) ?_
  intro ts S R RE h
  unfold sp_parse_fraction at h
  split at h
  · rename_i z
    obtain ⟨hz, q⟩ := h
    refine sSeq_i fun N hN => ?_
    simp only [sp_find_fraction, FindR, sAsg, rVar, aNil, aCons, gNameT, rCall, startT, T.str.injEq, Option.some.injEq, List.map_cons, List.map_nil, List.length_cons, List.length_nil, List.cons_append, List.nil_append, List.append_nil, List.getElem?_cons_zero, List.set_cons_zero, List.set_cons_succ, List.replicate_succ, List.replicate_zero, exists_eq_left', Nat.reduceAdd, Nat.reduceSub, Nat.zero_add]
    refine .inl ⟨hz, ?_⟩
    rcases q with ⟨a, b, f, e, q⟩ | ⟨no, q⟩
    · refine .inl ⟨a, b, f, e, hN _ _ ?_⟩
      clear hN
      refine sSeq_i fun N hN => ?_
      simp only [frT, sIf, sNext, sRaise, rVar, rC, rBin, rTest, aNil, aCons, List.cons.injEq, Option.some.injEq, List.getElem?_cons_zero, List.getElem?_cons_succ, exists_eq_left', and_true]
      refine ⟨rfl, false, rfl, ?_⟩
      rw [if_neg (by decide)]
      refine hN _ _ ?_
      simp only [sRet, rVar, Option.some.injEq, List.getElem?_cons_zero, List.getElem?_cons_succ, exists_eq_left']
      exact q
    · refine .inr ⟨no, hN _ _ ?_⟩
      clear hN
      refine sSeq_i fun N hN => ?_
      simp only [sIf, sNext, sRaise, rVar, rC, rBin, rTest, aNil, aCons, List.cons.injEq, Option.some.injEq, List.getElem?_cons_zero, List.getElem?_cons_succ, exists_eq_left', and_true]
      exact ⟨rfl, true, rfl, q⟩
  · exact h.elim
theorem sc_l_parsed : FnScope ["_law_said", "_law_by_name", "e"] ["_law_said", "_law_by_name"] (defScope s_l_parsed) := ⟨rfl, rfl, rfl, by decide +kernel, rfl, by decide +kernel, by decide +kernel⟩
def sp_l_parsed (K : PySem.W.Frag) : SpT := fun ts S R _ => match ts with
  | [.str z, .bl _] => z.length ≤ 2400 ∧ ((∃ a b, Fr 8000 a b ∧ z = frS a b ∧ R (frT a b) S) ∨ ((∀ a b, Fr 8000 a b → z ≠ frS a b) ∧ R (.lst [.str "none", .str z]) S))
  | _ => False
theorem ok_l_parsed {P : Program} {w : World} {K : PySem.W.Frag} {mg : Str → Option Value} {base : Heap} {f : Addr} {fd : FuncData} {g_parse_fraction C_InvalidText : Addr} {gd_parse_fraction : FuncData} (F : Fun K "_law_parsed" "_law_parsed" s_l_parsed f fd)
    (G_parse_fraction : FnT P w K mg base 7 g_parse_fraction gd_parse_fraction ["text"] (sp_parse_fraction K C_InvalidText))
    (m_parse_fraction : mg "parse_fraction" = some (.ref g_parse_fraction))
    (k_parse_fraction : PySem.W.keepIn K (.ref g_parse_fraction) = true)
    (b_parse_fraction : Binds K gd_parse_fraction ["text"] [])
    (kb_parse_fraction_0_text : CallB K gd_parse_fraction ["text"] 0 ["text"] (fun ts zs => pickG [(2, 0)] ts [] zs))
    (m_InvalidText : mg "InvalidText" = some (.ref C_InvalidText))
    (kt_xe_InvalidText : PySem.W.exmOne K (.ref C_InvalidText) (.ref C_InvalidText) = some true)
    (kt_xf_InvalidText : xfB K C_InvalidText = true)
    (kt_xn_InvalidText : PySem.W.findIn K (.ref C_InvalidText) "value" = some none)
    : FnT P w K mg base 8 f fd ["_law_said", "_law_by_name"] (sp_l_parsed K) := by
  refine okT F sc_l_parsed (by intro ts S R RE h; unfold sp_l_parsed at h; split at h <;> first | rfl | exact h.elim) (fun cdv A out s H E hg hr => (bs_one (ss_tryR K rfl (i := 2) rfl rfl sc_l_parsed.nd ⟨by rfl, by decide, .inl m_InvalidText⟩ rfl rfl (by first | exact Or.inl rfl | exact Or.inr (Or.inl rfl) | exact Or.inr (Or.inr rfl)) (by decide) (by decide) (fun pn xe E' px => (et_if (tt_val (et_var (pv 1))) (et_callKB G_parse_fraction hg (hr.mono (by decide)) (by rfl) m_parse_fraction k_parse_fraction kb_parse_fraction_0_text px (kt_cons (et_var (pv 0)) kt_nil)) (et_callD G_parse_fraction hg (hr.mono (by decide)) (by rfl) m_parse_fraction k_parse_fraction (CallD.all b_parse_fraction) px (at_cons (et_var (pv 0)) at_nil))))))) ?_
  intro ts S R RE h
  unfold sp_l_parsed at h
  split at h
  · rename_i z b
    obtain ⟨hz, q⟩ := h
    have go : ∀ RE' : XT, (∀ S', PySem.W.exmOne K (.ref C_InvalidText) (.ref C_InvalidText) = some true → XfC K C_InvalidText → PySem.W.findIn K (.ref C_InvalidText) (Str.ofString "value") = some none → (∃ v, List.lookup (Str.ofString "value") [(Str.ofString "value", T.str z)] = some v ∧ R (T.lst [T.str (Str.ofString "none"), v]) S') → RE' C_InvalidText [("value", .str z)] S') → z.length ≤ 2400 ∧ ((∃ a b, Fr 8000 a b ∧ z = frS a b ∧ R (frT a b) S) ∨ (∀ a b, Fr 8000 a b → z ≠ frS a b) ∧ RE' C_InvalidText [("value", .str z)] S) := fun RE' k => by
      refine ⟨hz, ?_⟩
      rcases q with ⟨a, b, f, e, q⟩ | ⟨no, q⟩
      · exact .inl ⟨a, b, f, e, q⟩
      · exact .inr ⟨no, k _ kt_xe_InvalidText (xfB_ok kt_xf_InvalidText) kt_xn_InvalidText ⟨_, by simp [List.lookup], q⟩⟩
    simp only [sTryR, sp_parse_fraction, rCallOwn, iZipT, kMaxT, rRevT, rDix2, sFrzV, sDrp, rSlC, rDget2, sSeq, sAsg, sDrop, sRet, sRetN, sIf, sNext, sPar, sPar3, sFor, sRaise, sFldT, sNo, rNo, rVar, rFrz, rC, rBin, rTest, bAnd, bOr, bNot, bIf, vAnd, vOr, vNot, rIf, rNeg, aNil, aCons, rTup, rLst, rLstC, rArgs, gNameT, gNilT, gConsT, gTupT, gSubT, iSeq, iRng1T, iRng2T, rLc, rCall, rCallN, rCallS, rFld, rCon, rMake, rMakeN, rMakeP, rMeth, rMethK, rProp, rClsFn, rOpOwn, rSl, oNone, oSome, rFmt, kFmt, rJs, rLidx, rChain, rTru, truT, rStr0, rPart, rSplit, kIntS, gStarT, kStrOwn, kAddC, rDct, kInt1, iEnumT, rMakeStar, rJoin, iZipM, iSeqH, iEnumL, rLc2, rTruC, rLcP, kLenOwn, kBoolOwn, rCMeth, rClsStar, rClsMake, rLz, rRevL, rRev2, rCMethK, rExcV, rMut, kAdd, kI2, kI2n, kMul, kIx, kIn, kLen, kU, kA2, kDm, kStrI, kAll, kSl, kAppend, kExtend, kTuple, kList, lenT, seqOf, bYes, startT, one, pickG, selG, insOf, putT, flatT, Bool.false_xor, Bool.true_xor, List.all_cons, List.all_nil, Bool.and_self, T.int.injEq, T.bl.injEq, T.str.injEq, T.lst.injEq, T.tup.injEq, T.cell.injEq, T.ins.injEq, Cell.lst.injEq, Cell.ins.injEq, Prod.mk.injEq, List.cons.injEq, Option.some.injEq, List.map_cons, List.map_nil, List.length_cons, List.length_nil, List.cons_append, List.nil_append, List.append_nil, List.getElem?_cons_zero, List.getElem?_cons_succ, List.set_cons_zero, List.set_cons_succ, List.replicate_succ, List.replicate_zero, exists_eq_left, exists_eq_left', exists_and_left, and_true, true_and, and_self, and_assoc, Nat.sub_self, Nat.reduceAdd, Nat.reduceSub, Nat.zero_add, put_put, put_same, reduceIte, Bool.false_eq_true, Bool.true_eq_false, Bool.not_true, Bool.not_false, at_0, at_1, at_2, at_3, at_4, at_5, at_6, at_7, ix_1_0, ix_2_0, ix_2_1, ix_3_0, ix_3_1, ix_3_2, ix_4_0, ix_4_1, ix_4_2, ix_4_3]
    split
    · exact go (fun C' gs S' => PySem.W.exmOne K (.ref C') (.ref C_InvalidText) = some true ∧ XfC K C' ∧ PySem.W.findIn K (.ref C') (Str.ofString "value") = some none ∧ ∃ v, gs.lookup (Str.ofString "value") = some v ∧ R (.lst [.str (Str.ofString "none"), v]) S') fun S' h1 h2 h3 h4 => ⟨h1, h2, h3, h4⟩
    · exact go (fun C' gs S' => PySem.W.exmOne K (.ref C') (.ref C_InvalidText) = some true ∧ XfC K C' ∧ PySem.W.findIn K (.ref C') (Str.ofString "value") = some none ∧ ∃ v, gs.lookup (Str.ofString "value") = some v ∧ R (.lst [.str (Str.ofString "none"), v]) S') fun S' h1 h2 h3 h4 => ⟨h1, h2, h3, h4⟩
  · exact h.elim
/-- a law's last row: all([_law_right(_law_pool(_law_cell(script, k))) for k in range(m)]) -/
theorem law_cells {fr : T → Fm} {spR : SpT} {i j : Nat} {ns : List Int} {m : Int} {S : Store} {R : T → Store → Prop} (h63 : ns.length ≤ 63) (hm : 0 ≤ m ∧ m ≤ 100) (hi : ∀ t, (fr t)[i]? = some (some (.scr (ns.map T.int)))) (hj : ∀ t, (fr t)[j]? = some (some t))
    (hR : ∀ p S, PoolT S p → ∀ N : T → Store → Prop, (∀ S', N (.bl true) S') → spR [.cell p] S N XF) (q : ∀ S, R (.bl true) S) :
    rComp fr bYes (rCall spR [] (aCons (rCall sp_l_pool [] (aCons (rCall sp_l_cell [] (aCons (rVar i) (aCons (rVar j) aNil))) aNil)) aNil)) (rangeT 0 m) [] S (fun ys S2 => ∃ bs, ys = List.map T.bl bs ∧ R (.bl (bs.all id)) S2) := by
  have ln : (rangeT 0 m).length = m.toNat := by simp [rangeT]
  refine rComp_all (fun _ _ => True) (fun _ _ y => y = .bl true) trivial (by rw [ln, sizeLine_eq]; omega) ?_ ?_
  · intro k t S' hk _ N hN
    unfold rangeT at hk
    rw [List.getElem?_map] at hk
    obtain ⟨z, hz, rfl⟩ := Option.map_eq_some_iff.mp hk
    obtain ⟨lz, ez⟩ := List.getElem?_eq_some_iff.mp hz
    rw [List.getElem_range] at ez
    rw [List.length_range] at lz
    subst ez
    refine ⟨_, hi _, _, hj _, ?_⟩
    simp only [aNil, List.append_nil]
    refine ⟨⟨ns, rfl, h63⟩, by omega, by omega, fun v => ?_⟩
    intro p S2 hp ps
    exact hR p S2 ps.pool _ fun S3 => hN _ _ rfl trivial
  · intro ys S2 hl hF _
    refine ⟨List.replicate ys.length true, ?_, ?_⟩
    · refine List.ext_getElem? fun k => ?_
      rw [List.getElem?_map, List.getElem?_replicate]
      by_cases hk : k < ys.length
      · have := hF k ((rangeT 0 m)[k]'(by omega)) ys[k] (List.getElem?_eq_getElem (by omega)) (List.getElem?_eq_getElem hk)
        rw [List.getElem?_eq_getElem hk, this, if_pos hk]
        rfl
      · rw [List.getElem?_eq_none (by omega), if_neg hk]
        rfl
    · rw [show (List.replicate ys.length true).all id = true by rw [List.all_replicate]; split <;> rfl]
      exact q _
/-- max(2, min(k, len(script))), as the two ways of writing it give it -/
theorem range_le {n k : Int} (h : 0 ≤ n ∧ n ≤ 63) (hk : 0 ≤ k ∧ k ≤ 63) : 0 ≤ (if (if n < k then n else k) > 2 then (if n < k then n else k) else 2) ∧ (if (if n < k then n else k) > 2 then (if n < k then n else k) else 2) ≤ 100 := by
  split <;> split <;> omega
theorem fr11 {n : Nat} (h : 1 ≤ n := by decide) : Fr n 1 1 := ⟨⟨by decide, Nat.lt_of_lt_of_le (by decide : (1 : Nat) < 2 ^ 1) (Nat.pow_le_pow_right (by decide) h)⟩, ⟨by decide, Nat.lt_of_lt_of_le (by decide : (1 : Nat) < 2 ^ 1) (Nat.pow_le_pow_right (by decide) h)⟩, by decide⟩
theorem Fr.of {n : Nat} {a : Int} (h : Pn n a) (hn : 1 ≤ n := by decide) : Fr n a 1 := ⟨h, (fr11 hn).b, gcdI_one⟩
theorem Fr.inv {n : Nat} {a : Int} (h : Pn n a) (hn : 1 ≤ n := by decide) : Fr n 1 a := ⟨(fr11 hn).b, h, by rw [gcdI_comm]; exact gcdI_one⟩
theorem lg1920 {n : Nat} {a : Int} (h : Pn n a) (hn : n ≤ 1900) : a.natAbs.log2 < 1920 := PySem.Flt.log2_lt_of (by decide) (h.up (m := 1920) (by omega)).lt
theorem lw_same {a b : Int} (ha : 0 < a) (hb : 0 < b) : decide (lwA a b = a ∧ lwB a b = b) = decide (gcdI a b = 1) := by
  refine decide_eq_decide.mpr ⟨fun ⟨h, _⟩ => ?_, fun h => ?_⟩
  · have g := gcdI_pos (b := b) ha
    have e : gcdI a b * lwA a b = a := Int.mul_ediv_cancel' (Int.gcd_dvd_left a b)
    rw [h] at e
    have : gcdI a b * a = 1 * a := by omega
    exact Int.eq_of_mul_eq_mul_right (by omega) this
  · unfold lwA lwB
    rw [h, Int.ediv_one, Int.ediv_one]
    exact ⟨rfl, rfl⟩
theorem fr_dat {a b : Int} : (frT a b).dat = some (.tuple [.int a, .int b]) := by simp [frT, T.dat, T.datL]
theorem fr_shaped {a b : Int} : SeqAt.shaped (.tuple [.int a, .int b]) = true := by simp [SeqAt.shaped, PyData.canLay0, PyData.canLayAll0, PyData.depth, PyData.depthAll]
theorem eq_fr {a b c d : Int} {ng : Bool} {S : Store} {R : T → Store → Prop} {RE : XT} (q : R (.bl (ng ^^ decide (a = c ∧ b = d))) S) : kEqG ng (frT a b) (frT c d) S R RE := by
  refine .inr ⟨_, _, fr_dat, fr_dat, fr_shaped, fr_shaped, ?_⟩
  have e : PyData.eqv (.tuple [.int a, .int b]) (.tuple [.int c, .int d]) = decide (a = c ∧ b = d) := by
    simp only [PyData.eqv, PyData.eqvAll, Bool.and_true, Bool.decide_and]
    congr 1 <;> exact (beq_eq_decide ..)
  rw [e]
  exact q
theorem sc_l_part : FnScope ["_law_pool_here", "_law_great", "_law_way", "_law_most"] ["_law_pool_here", "_law_great"] (defScope s_l_part) := ⟨rfl, rfl, rfl, by decide +kernel, rfl, by decide +kernel, by decide +kernel⟩
def sp_l_part : SpT := fun ts S R _ => match ts with
  | [.cell p, .bl g] => PoolT S p ∧ ∀ a b S', Fr 70 a b → PS S p S' → R (frT a b) S'
  | _ => False
theorem ok_l_part {P : Program} {w : World} {K : PySem.W.Frag} {mg : Str → Option Value} {base : Heap} {f : Addr} {fd : FuncData} {g_l_low g_l_draw : Addr} {gd_l_low : FuncData} {gd_l_draw : FuncData} (F : Fun K "_law_part" "_law_part" s_l_part f fd)
    (G_l_low : FnT P w K mg base 1 g_l_low gd_l_low ["_law_high_part", "_law_low_part"] sp_l_low)
    (m_l_low : mg "_law_low" = some (.ref g_l_low))
    (k_l_low : PySem.W.keepIn K (.ref g_l_low) = true)
    (b_l_low : Binds K gd_l_low ["_law_high_part", "_law_low_part"] [])
    (G_l_draw : FnT P w K mg base 1 g_l_draw gd_l_draw ["_law_pool_here", "_law_most"] sp_l_draw)
    (m_l_draw : mg "_law_draw" = some (.ref g_l_draw))
    (k_l_draw : PySem.W.keepIn K (.ref g_l_draw) = true)
    (b_l_draw : Binds K gd_l_draw ["_law_pool_here", "_law_most"] [])
    : FnT P w K mg base 2 f fd ["_law_pool_here", "_law_great"] sp_l_part := by
  refine okT F sc_l_part (by intro ts S R RE h; unfold sp_l_part at h; split at h <;> first | rfl | exact h.elim) (fun cdv A out s H E hg hr => (bs_cons (ss_set (i := 2) sc_l_part.nd rfl (by first | exact Or.inl rfl | exact Or.inr rfl) (et_callD G_l_draw hg (hr.mono (by decide)) (by rfl) m_l_draw k_l_draw (CallD.all b_l_draw) (passL2N (L2N.takes_of rfl rfl rfl rfl)) (at_cons (et_var (pv 0)) (at_cons et_int at_nil))))
    (bs_cons (ss_if (tt_cmp op_lt cv_B2n (et_var (pv 2)) et_int (nomark _)) (bs_one (ss_ret (et_tup (at_cons (et_op op_addG cv_add et_int (et_callD G_l_draw hg (hr.mono (by decide)) (by rfl) m_l_draw k_l_draw (CallD.all b_l_draw) (passL2N (L2N.takes_of rfl rfl rfl rfl)) (at_cons (et_var (pv 0)) (at_cons (et_ix ix_seq cv_ix (et_lst (at_cons et_int (at_cons et_int at_nil))) (et_var (pv 2)) (fun _ _ => rfl)) at_nil)))) (at_cons et_int at_nil))))) bs_nil)
    (bs_cons (ss_set (i := 3) sc_l_part.nd rfl (by first | exact Or.inl rfl | exact Or.inr rfl) (et_ix ix_seq cv_ix (et_lst (at_cons et_int (at_cons et_int (at_cons (et_op op_pow cv_I2 et_int et_int) (at_cons (et_if (tt_val (et_var (pv 1))) (et_op op_pow cv_I2 et_int et_int) et_int) at_nil))))) (et_op op_sub cv_I2n (et_var (pv 2)) et_int) (fun _ _ => rfl)))
    (bs_one (ss_ret (et_callD G_l_low hg (hr.mono (by decide)) (by rfl) m_l_low k_l_low (CallD.all b_l_low) (passL2N (L2N.takes_of rfl rfl rfl rfl)) (at_cons (et_op op_addG cv_add et_int (et_callD G_l_draw hg (hr.mono (by decide)) (by rfl) m_l_draw k_l_draw (CallD.all b_l_draw) (passL2N (L2N.takes_of rfl rfl rfl rfl)) (at_cons (et_var (pv 0)) (at_cons (et_var (pv 3)) at_nil)))) (at_cons (et_op op_addG cv_add et_int (et_callD G_l_draw hg (hr.mono (by decide)) (by rfl) m_l_draw k_l_draw (CallD.all b_l_draw) (passL2N (L2N.takes_of rfl rfl rfl rfl)) (at_cons (et_var (pv 0)) (at_cons (et_var (pv 3)) at_nil)))) at_nil))))))))) ?_
  intro ts S R RE h
  unfold sp_l_part at h
  split at h
  · rename_i p g
    obtain ⟨hp, q⟩ := h
    refine sSeq_i fun N hN => ?_
    simp only [sp_l_draw, sAsg, rVar, rC, aNil, aCons, gNameT, rCall, startT, Option.some.injEq, List.map_cons, List.map_nil, List.length_cons, List.length_nil, List.cons_append, List.nil_append, List.append_nil, List.getElem?_cons_zero, List.set_cons_zero, List.set_cons_succ, List.replicate_succ, List.replicate_zero, exists_eq_left', Nat.reduceAdd, Nat.reduceSub, Nat.zero_add]
    refine ⟨hp, Pn.of (by decide) (by decide), fun r S1 r0 r1 p1 => hN _ _ ?_⟩
    refine sSeq_i fun N hN => ?_
    simp only [sRet, sIf, sNext, rVar, rC, rBin, rTest, aNil, aCons, rTup, rLst, rCall, kAdd, kI2n, kIx, T.bl.injEq, Option.some.injEq, List.length_cons, List.length_nil, List.append_nil, List.getElem?_cons_zero, List.getElem?_cons_succ, exists_eq_left', exists_and_left, Nat.reduceAdd, Nat.zero_add]
    refine ite_d (fun c => ?_) (fun c => hN _ _ ?_)
    · have hr : r = 0 ∨ r = 1 := by omega
      have fin : ∀ m : Int, Pn 60 m → sp_l_draw [.cell p, .int m] S1 (fun x S1 => kAdd (.int 1) x S1 (fun x S1 => [x, T.int 1].length ≤ sizeLine ∧ R (.tup [x, .int 1]) S1) RE) RE := fun m hm =>
        ⟨p1.pool, hm.up (by decide), fun z S2 z0 z1 p2 => ⟨by show 2 ≤ sizeLine; decide, q (1 + z) 1 S2 (Fr.of (Pn.le (n := 70) (hm.up (by decide)) (by omega) (by omega))) (p1.trans p2)⟩⟩
      rcases hr with rfl | rfl
      · simp only [Option.some.injEq, exists_eq_left', at_0]
        exact ⟨by decide, fin 12 (Pn.of (by decide) (by decide))⟩
      · simp only [Option.some.injEq, exists_eq_left', at_1]
        exact ⟨by decide, fin 2000 (Pn.of (by decide) (by decide))⟩
    · have hr : r = 2 ∨ r = 3 ∨ r = 4 ∨ r = 5 := by omega
      have go : ∀ v : Option T, ∀ m : Int, Pn 68 m → sRet (rCall sp_l_low [] (aCons (rBin kAdd (rC (T.int 1)) (rCall sp_l_draw [] (aCons (rVar 0) (aCons (rVar 3) aNil)))) (aCons (rBin kAdd (rC (T.int 1)) (rCall sp_l_draw [] (aCons (rVar 0) (aCons (rVar 3) aNil)))) aNil)))
          { nx := fun _ S' => R .non S', rt := R, ex := RE } [some (.cell p), some (.bl g), some (.int r), some (.int m)] S1 := by
        intro v m hm
        simp only [sp_l_draw, sp_l_low, sRet, rVar, rC, rBin, aNil, aCons, rCall, kAdd, Option.some.injEq, List.append_nil, List.getElem?_cons_zero, List.getElem?_cons_succ, exists_eq_left']
        refine ⟨p1.pool, hm.up (by decide), fun z S2 z0 z1 p2 => ⟨p2.pool, hm.up (by decide), fun y S3 y0 y1 p3 => ?_⟩⟩
        have pz : Pn 70 (1 + z) := Pn.le (hm.up (by decide)) (by omega) (by omega)
        have py : Pn 70 (1 + y) := Pn.le (hm.up (by decide)) (by omega) (by omega)
        exact ⟨pz.up (by decide), py.pos, q _ _ _ (Fr.low pz py) ((p1.trans p2).trans p3)⟩
      have p20 : Pn 68 (10 ^ 20) := Pn.of (by decide) (by decide)
      have p6 : Pn 68 (10 ^ 6) := Pn.of (by decide) (by decide)
      refine sSeq_i fun N hN => ?_
      simp only [sAsg, rVar, rC, rBin, rTest, rIf, aNil, aCons, rLst, gNameT, kI2, kI2n, kIx, T.bl.injEq, Option.some.injEq, List.length_cons, List.length_nil, List.getElem?_cons_zero, List.getElem?_cons_succ, List.set_cons_zero, List.set_cons_succ, exists_eq_left', Nat.reduceAdd, Nat.zero_add]
      refine ⟨⟨by decide, by decide, by decide⟩, ?_⟩
      cases g with
      | true =>
        simp only [reduceIte]
        refine ⟨⟨by decide, by decide, by decide⟩, by decide, ?_⟩
        rcases hr with rfl | rfl | rfl | rfl
        · simp only [Int.reduceSub, Option.some.injEq, exists_eq_left', at_0]
          exact hN _ _ (go none 12 (Pn.of (by decide) (by decide)))
        · simp only [Int.reduceSub, Option.some.injEq, exists_eq_left', at_1]
          exact hN _ _ (go none 60 (Pn.of (by decide) (by decide)))
        · simp only [Int.reduceSub, Option.some.injEq, exists_eq_left', at_2]
          exact hN _ _ (go none _ p6)
        · simp only [Int.reduceSub, Option.some.injEq, exists_eq_left', at_3]
          exact hN _ _ (go none _ p20)
      | false =>
        simp only [reduceIte, Bool.false_eq_true]
        refine ⟨by decide, ?_⟩
        rcases hr with rfl | rfl | rfl | rfl
        · simp only [Int.reduceSub, Option.some.injEq, exists_eq_left', at_0]
          exact hN _ _ (go none 12 (Pn.of (by decide) (by decide)))
        · simp only [Int.reduceSub, Option.some.injEq, exists_eq_left', at_1]
          exact hN _ _ (go none 60 (Pn.of (by decide) (by decide)))
        · simp only [Int.reduceSub, Option.some.injEq, exists_eq_left', at_2]
          exact hN _ _ (go none _ p6)
        · simp only [Int.reduceSub, Option.some.injEq, exists_eq_left', at_3]
          exact hN _ _ (go none 90 (Pn.of (by decide) (by decide)))
  · exact h.elim
theorem allT {ts ys : List T} (hl : ys.length = ts.length) (hF : ∀ (i : Nat) (t y : T), ts[i]? = some t → ys[i]? = some y → y = .bl true) : ys = (List.replicate ys.length true).map T.bl ∧ (List.replicate ys.length true).all id = true := by
  refine ⟨?_, by rw [List.all_replicate]; split <;> rfl⟩
  refine List.ext_getElem? fun k => ?_
  rw [List.getElem?_map, List.getElem?_replicate]
  by_cases hk : k < ys.length
  · have := hF k (ts[k]'(by omega)) ys[k] (List.getElem?_eq_getElem (by omega)) (List.getElem?_eq_getElem hk)
    rw [List.getElem?_eq_getElem hk, this, if_pos hk]
    rfl
  · rw [List.getElem?_eq_none (by omega), if_neg hk]
    rfl
theorem sIf_i {tc : TRB} {ra rb : TRS} {D : EnT} {σ : Fm} {S : Store} (h : ∀ (A B : Store → Prop), (∀ S', ra D σ S' → A S') → (∀ S', rb D σ S' → B S') → tc σ S (fun c S1 => if c = true then A S1 else B S1) D.ex) : sIf tc ra rb D σ S := h _ _ (fun _ x => x) (fun _ x => x)
open TL (numL numL_val)
open NumText (AllDigits digitsVal)
theorem spl_ne {c : Nat} (l : List Nat) : TL.spl [c] 0 [] l ≠ [] := by
  rcases split1 c l with h | ⟨p, q, rfl, h⟩
  · rw [TL.spl_last1 h]; simp
  · rw [show p ++ c :: q = p ++ ([c] ++ q) from rfl, TL.spl_part1 h]; simp
/-- a text split at a sign: one part, two, more -/
theorem split_cases (c : Nat) (l : List Nat) : (c ∉ l ∧ TL.spl [c] 0 [] l = [l]) ∨ (∃ p q, l = p ++ c :: q ∧ c ∉ p ∧ c ∉ q ∧ TL.spl [c] 0 [] l = [p, q]) ∨
    (2 < (TL.spl [c] 0 [] l).length ∧ ∃ p q r, l = p ++ c :: (q ++ c :: r) ∧ c ∉ p ∧ c ∉ q) := by
  rcases split1 c l with h | ⟨p, q, rfl, h⟩
  · exact .inl ⟨h, by rw [TL.spl_last1 h]; rfl⟩
  · rcases split1 c q with h2 | ⟨q, r, rfl, h2⟩
    · exact .inr (.inl ⟨p, q, rfl, h, h2, by rw [show p ++ c :: q = p ++ ([c] ++ q) from rfl, TL.spl_part1 h, TL.spl_last1 h2]; rfl⟩)
    · refine .inr (.inr ⟨?_, p, q, r, rfl, h, h2⟩)
      rw [show p ++ c :: (q ++ c :: r) = p ++ ([c] ++ (q ++ ([c] ++ r))) from rfl, TL.spl_part1 h, TL.spl_part1 h2]
      have := spl_ne (c := c) r
      have := List.length_pos_iff.mpr this
      simp only [List.length_cons]
      omega
theorem fr_none_more {p q r : List Nat} (hp : 47 ∉ p) : ∀ a b, Fr 8000 a b → SX.S (p ++ 47 :: (q ++ 47 :: r)) ≠ frS a b := fun a b f e => by
  obtain ⟨_, _, e2, _⟩ := frL_two f hp e
  exact absurd (by rw [← e2]; simp) (num_free (n := b.toNat) (s := 47) (.inl (by decide)))
theorem digits10 : (SX.S [48, 49, 50, 51, 52, 53, 54, 55, 56, 57] : Str) = "0123456789" := by decide +kernel
theorem in_digits (c : Nat) : (!(Builtin.Str.occurrences ("0123456789" : Str) ⟨#[c]⟩ 0 ("0123456789" : Str).length 1).isEmpty) = decide (48 ≤ c ∧ c ≤ 57) := by
  rw [occ_one, ← digits10]
  show decide (c ∈ [48, 49, 50, 51, 52, 53, 54, 55, 56, 57]) = _
  refine decide_eq_decide.mpr ⟨fun m => ?_, fun h => ?_⟩
  · simp only [List.mem_cons, List.not_mem_nil, or_false] at m
    omega
  · simp only [List.mem_cons, List.not_mem_nil, or_false]
    omega
/-- the signs of a text that are no digits -/
theorem comp_digits {fr : T → Fm} {S : Store} {R : List T → Store → Prop} (hfr : ∀ t, (fr t)[3]? = some (some t)) : ∀ (m : List Nat) (acc : List T), acc.length + m.length ≤ sizeLine →
    R (acc ++ (m.filter fun c => !decide (48 ≤ c ∧ c ≤ 57)).map fun c => T.str ⟨#[c]⟩) S → rComp fr (rTest (rBin (kInS true) (rVar 3) (rC (T.str (Str.ofString "0123456789"))))) (rVar 3) (m.map fun c => T.str ⟨#[c]⟩) acc S R
  | [], acc, _, q => by simpa [rComp] using q
  | c :: m, acc, hl, q => by
    rw [List.length_cons] at hl
    simp only [List.map_cons, rComp, rTest, rBin, rVar, rC, kInS, hfr]
    refine ⟨_, rfl, ⟨#[c]⟩, _, rfl, rfl, _, rfl, ?_⟩
    rw [in_digits]
    by_cases d : 48 ≤ c ∧ c ≤ 57
    · rw [decide_eq_true d, if_neg (by decide)]
      refine comp_digits hfr m acc (by omega) ?_
      rw [List.filter_cons_of_neg (by rw [decide_eq_true d]; decide)] at q
      exact q
    · rw [decide_eq_false d, if_pos (by decide)]
      refine ⟨_, rfl, by omega, comp_digits hfr m _ (by rw [List.length_append, List.length_singleton]; omega) ?_⟩
      rw [List.filter_cons_of_pos (by rw [decide_eq_false d]; rfl)] at q
      rw [List.append_assoc]
      exact q
theorem dat_strs : ∀ m : List Nat, T.datL (m.map fun c => T.str ⟨#[c]⟩) = some (m.map fun c => PyData.str ⟨#[c]⟩)
  | [] => by rw [List.map_nil, T.datL]; rfl
  | c :: m => by rw [List.map_cons, T.datL, T.dat, dat_strs m]; rfl
theorem eqv_nil (m : List Nat) : PyData.eqv (.list (m.map fun c => PyData.str ⟨#[c]⟩)) (.list []) = decide (m = []) := by
  cases m with
  | nil => simp [PyData.eqv, PyData.eqvAll]
  | cons c m => simp [PyData.eqv, PyData.eqvAll]
theorem dp_strs : ∀ m : List Nat, PyData.depthAll (m.map fun c => PyData.str ⟨#[c]⟩) ≤ 1
  | [] => by simp [PyData.depthAll]
  | c :: m => by
    have := dp_strs m
    simp only [List.map_cons, PyData.depthAll, PyData.depth]
    omega
/-- one part of a text is looked at -/
theorem part_chk {l : List Nat} {S : Store} {R : T → Store → Prop} {RE : XT} {fr : T → Fm} {GO : Store → Prop} (hfr : ∀ t, (fr t)[3]? = some (some t)) (hl : l.length ≤ 2400) (k1 : Canon l → GO S) (k2 : ¬ Canon l → R .non S) :
    kEqG false (.str (SX.S l)) (.str (Str.ofString "")) S (fun x S1 => ∃ c, x = T.bl c ∧ if c = true then R T.non S1 else
      (SX.S l).length ≤ sizeLine ∧ ∃ c, atI l 0 = some c ∧ kEqG false (T.str { cps := #[c] }) (T.str (Str.ofString "0")) S1 (fun x S1 => ∃ c, x = T.bl c ∧ if c = true then R T.non S1 else
        rComp fr (rTest (rBin (kInS true) (rVar 3) (rC (T.str (Str.ofString "0123456789"))))) (rVar 3) (signsT (SX.S l)) [] S1 fun ys S2 => 0 ≤ sizeLine ∧ kEqP true (T.lst ys) (T.lst []) S2 (fun x S1 => ∃ c, x = T.bl c ∧ if c = true then R T.non S1 else GO S1) RE) RE) RE := by
  cases l with
  | nil =>
    refine eqSt0 (v := true) (by decide +kernel) ⟨_, rfl, ?_⟩
    rw [if_pos rfl]
    exact k2 fun c => c.ne rfl
  | cons c r =>
    have e0 : ¬ SX.S (c :: r) = Str.ofString "" := fun e => by
      have : SX.S (c :: r) = SX.S [] := e.trans (by decide +kernel)
      exact absurd (SX.S_inj this) (by simp)
    refine eqSt0 (v := false) (by rw [decide_eq_false e0]; rfl) ⟨_, rfl, ?_⟩
    rw [if_neg (by decide)]
    refine ⟨by rw [SX.S_len, sizeLine_eq]; omega, c, at_0, ?_⟩
    have e1 : (({ cps := #[c] } : Str) = Str.ofString "0") ↔ c = 48 := by
      rw [show Str.ofString "0" = SX.S [48] by decide +kernel, show ({ cps := #[c] } : Str) = SX.S [c] from rfl]
      exact ⟨fun e => by simpa using SX.S_inj e, fun e => by rw [e]⟩
    by_cases h48 : c = 48
    · refine eqSt0 (v := true) (by rw [decide_eq_true (e1.mpr h48)]; rfl) ⟨_, rfl, ?_⟩
      rw [if_pos rfl]
      exact k2 fun k => k.hd (by simp [h48])
    · refine eqSt0 (v := false) (by rw [decide_eq_false fun e => h48 (e1.mp e)]; rfl) ⟨_, rfl, ?_⟩
      rw [if_neg (by decide)]
      refine comp_digits hfr (c :: r) [] (by rw [List.length_nil, sizeLine_eq]; omega) ?_
      rw [List.nil_append]
      refine ⟨Nat.zero_le _, _, _, by rw [T.dat, dat_strs]; rfl, by rw [T.dat, T.datL]; rfl, ?_, _, rfl, ?_⟩
      · have := dp_strs ((c :: r).filter fun c => !decide (48 ≤ c ∧ c ≤ 57))
        simp only [PyData.depth]
        omega
      · rw [eqv_nil]
        by_cases hf : (c :: r).filter (fun c => !decide (48 ≤ c ∧ c ≤ 57)) = []
        · rw [decide_eq_true hf, if_neg (by decide)]
          refine k1 ⟨by simp, by simpa using h48, fun x m => ?_⟩
          have := List.filter_eq_nil_iff.mp hf x m
          simpa using this
        · rw [decide_eq_false hf, if_pos (by decide)]
          refine k2 fun k => hf (List.filter_eq_nil_iff.mpr fun x m => ?_)
          have := k.dig x m
          simpa using this
theorem sc_l_read : FnScope ["_law_text_here", "_law_parts", "_law_part_here", "_law_sign", "_law_found"] ["_law_text_here"] (defScope s_l_read) := ⟨rfl, rfl, rfl, by decide +kernel, rfl, by decide +kernel, by decide +kernel⟩
def sp_l_read (K : PySem.W.Frag) : SpT := fun ts S R _ => match ts with
  | [.str z] => z.length ≤ 2400 ∧ FindR z R S
  | _ => False
set_option maxHeartbeats 3200000 in
theorem ok_l_read {P : Program} {w : World} {K : PySem.W.Frag} {mg : Str → Option Value} {base : Heap} {f : Addr} {fd : FuncData} {g_l_low : Addr} {gd_l_low : FuncData} (F : Fun K "_law_read" "_law_read" s_l_read f fd)
    (n_int : mg "int" = none)
    (n_len : mg "len" = none)
    (G_l_low : FnT P w K mg base 1 g_l_low gd_l_low ["_law_high_part", "_law_low_part"] sp_l_low)
    (m_l_low : mg "_law_low" = some (.ref g_l_low))
    (k_l_low : PySem.W.keepIn K (.ref g_l_low) = true)
    (b_l_low : Binds K gd_l_low ["_law_high_part", "_law_low_part"] [])
    (ND : base.NoDigits)
    : FnT P w K mg base 2 f fd ["_law_text_here"] (sp_l_read K) := by
  refine okT F sc_l_read (by intro ts S R RE h; unfold sp_l_read at h; split at h <;> first | rfl | exact h.elim) (fun cdv A out s H E hg hr => (bs_cons (ss_set (i := 1) sc_l_read.nd rfl (by first | exact Or.inl rfl | exact Or.inr rfl) (et_split (et_var (pv 0)) et_str))
    (bs_cons (ss_if (tt_cmp op_gt cv_B2n (et_blt call_len cv_len (by rfl) n_len PySem.boot_len (at_cons (et_var (pv 1)) at_nil)) et_int (nomark _)) (bs_one (ss_ret et_non)) bs_nil)
    (bs_cons (ss_for (passes_of rfl) rfl (it_seq (et_var (pv 1))) (gt_name (pg_name (i := 2) sc_l_read.nd rfl (by first | exact Or.inl rfl | exact Or.inr rfl))) (bs_one (ss_if (tt_w (tw_or (tt_cmp (op_eqG hr.units) cv_eq (et_var (pv 2)) et_str (nomark _)) (tw_or (tt_cmp (op_eqG hr.units) cv_eq (et_ix ix_seq cv_ix (et_var (pv 2)) et_int (fun _ _ => rfl)) et_str (nomark _)) (tw_or1 (tt_cmp (op_neP hr.units) cv_eqP (et_lc (x := "_law_sign") (j := 3) (by rfl) sc_l_read.nd (it_str (et_var (pv 2))) (blkOk_by (own := [("_law_sign", 3)]) (N := ["_law_text_here", "_law_parts", "_law_part_here", "_law_sign", "_law_found"]) (sc := defScope s_l_read) (by decide +kernel)) (fun _ _ _ _ _ => pg_name (i := 3) sc_l_read.nd rfl (by first | exact Or.inl rfl | exact Or.inr rfl)) (fun _ _ _ _ _ => (tts_one (tt_cmp op_notin_str cv_ninS (et_var (pv 3)) et_str (by rfl)))) (fun _ _ _ _ _ => (et_var (pv 3)))) (et_lst at_nil) (nomark _)))))) (bs_one (ss_ret et_non)) bs_nil)))
    (bs_cons (ss_if (tt_cmp (op_eqG hr.units) cv_eq (et_blt call_len cv_len (by rfl) n_len PySem.boot_len (at_cons (et_var (pv 1)) at_nil)) et_int (nomark _)) (bs_one (ss_ret (et_tup (at_cons (et_typ (call_int_strB ND) cv_intB (by rfl) n_int PyProof.Rows.boot_int (at_cons (et_ix ix_seq cv_ix (et_var (pv 1)) et_int (fun _ _ => rfl)) at_nil)) (at_cons et_int at_nil))))) bs_nil)
    (bs_cons (ss_set (i := 4) sc_l_read.nd rfl (by first | exact Or.inl rfl | exact Or.inr rfl) (et_tup (at_cons (et_typ (call_int_strB ND) cv_intB (by rfl) n_int PyProof.Rows.boot_int (at_cons (et_ix ix_seq cv_ix (et_var (pv 1)) et_int (fun _ _ => rfl)) at_nil)) (at_cons (et_typ (call_int_strB ND) cv_intB (by rfl) n_int PyProof.Rows.boot_int (at_cons (et_ix ix_seq cv_ix (et_var (pv 1)) et_int (fun _ _ => rfl)) at_nil)) at_nil))))
    (bs_one (ss_ret (et_if (tt_w (tw_and (tt_cmp op_gt cv_B2n (et_ix ix_seq cv_ix (et_var (pv 4)) et_int (fun _ _ => rfl)) et_int (nomark _)) (tw_and1 (tt_cmp (op_eqG hr.units) cv_eq (et_callD G_l_low hg (hr.mono (by decide)) (by rfl) m_l_low k_l_low (CallD.all b_l_low) (passL2N (L2N.takes_of rfl rfl rfl rfl)) (at_cons (et_ix ix_seq cv_ix (et_var (pv 4)) et_int (fun _ _ => rfl)) (at_cons (et_ix ix_seq cv_ix (et_var (pv 4)) et_int (fun _ _ => rfl)) at_nil))) (et_var (pv 4)) (nomark _))))) (et_var (pv 4)) et_non))))))))) ?_
  intro ts S R RE h
  unfold sp_l_read at h
  split at h
  · rename_i z
    obtain ⟨hz, q⟩ := h
    have ez : z = SX.S z.cps.toList := (SX.S_tl z).symm
    generalize hl : z.cps.toList = l at ez
    subst ez
    rw [SX.S_len] at hz
    refine sSeq_i fun N hN => ?_
    simp only [sAsg, rVar, rC, gNameT, rSplit, startT, T.str.injEq, Option.some.injEq, List.map_cons, List.map_nil, List.length_cons, List.length_nil, List.cons_append, List.nil_append, List.getElem?_cons_zero, List.set_cons_zero, List.set_cons_succ, List.replicate_succ, List.replicate_zero, exists_eq_left', Nat.reduceAdd, Nat.reduceSub, Nat.zero_add]
    refine ⟨by decide, by rw [SX.S_len, sizeLine_eq]; omega, ?_⟩
    rw [slash_S, SX.split_S (by simp) (by decide), List.map_map]
    refine hN _ _ ?_
    clear hN
    rcases split_cases 47 l with ⟨no, e⟩ | ⟨p, r, rfl, np, nr, e⟩ | ⟨e, p, r, s, rfl, np, nr⟩
    · rw [e]
      refine sSeq_i fun N hN => ?_
      simp only [sRet, sIf, sNext, rVar, rC, rBin, rTest, aNil, aCons, rArgs, kI2n, kLen, lenT, T.bl.injEq, List.cons.injEq, Option.some.injEq, List.map_cons, List.map_nil, List.length_cons, List.length_nil, List.getElem?_cons_zero, List.getElem?_cons_succ, exists_eq_left', exists_and_left, and_true, Nat.zero_add]
      rw [if_neg (by decide)]
      refine hN _ _ ?_
      clear hN
      refine sSeq_i fun N hN => ?_
      simp only [rLoop, Function.comp, rTest, bOr, iStrT, sRet, sIf, sNext, sFor, rVar, rC, rBin, rTest, bOr, aNil, rLst, gNameT, iSeq, rLc, kIx, seqOf, T.str.injEq, Option.some.injEq, List.length_nil, List.getElem?_cons_zero, List.getElem?_cons_succ, List.set_cons_zero, List.set_cons_succ, exists_eq_left', exists_and_left, reduceIte]
      refine part_chk (fun _ => rfl) hz (fun cn => ?_) fun nc => ?_
      rotate_left
      · rcases q with ⟨a, b, f, e, _⟩ | ⟨_, q⟩
        · exact absurd (frL_one f no e).2.2 nc
        · exact q
      refine hN _ _ ?_
      clear hN
      refine sSeq_i fun N hN => ?_
      simp only [kIntB, sRet, sIf, sNext, rVar, rC, rBin, rTest, aNil, aCons, rTup, rArgs, kIx, kLen, lenT, T.str.injEq, List.cons.injEq, Option.some.injEq, List.length_cons, List.length_nil, List.getElem?_cons_zero, List.getElem?_cons_succ, exists_eq_left', exists_and_left, and_true, Nat.reduceAdd, Nat.zero_add, at_0]
      obtain ⟨eb, pb⟩ := canon_back cn
      have ef : SX.S l = frS (digitsVal l : Nat) 1 := by
        rw [frS_1, nS_S (by omega), Int.toNat_natCast, eb]
      have fr : Fr 8000 ((digitsVal l : Nat) : Int) 1 := Fr.of ⟨by omega, by simpa using val_bits cn.dig hz⟩
      refine eqI0 ⟨true, rfl, ?_⟩
      rw [if_pos rfl]
      refine ⟨_, int_dig ⟨cn.ne, cn.dig⟩ (by omega), by rw [SX.S_len]; omega, by decide, ?_⟩
      rcases q with ⟨a, b, f, e, q⟩ | ⟨no2, _⟩
      · obtain ⟨rfl, rfl⟩ := frS_inj fr f (ef.symm.trans e)
        exact q
      · exact absurd ef (no2 _ _ fr)
    · rw [e]
      rw [List.length_append, List.length_cons] at hz
      refine sSeq_i fun N hN => ?_
      simp only [sRet, sIf, sNext, rVar, rC, rBin, rTest, aNil, aCons, rArgs, kI2n, kLen, lenT, T.bl.injEq, List.cons.injEq, Option.some.injEq, List.map_cons, List.map_nil, List.length_cons, List.length_nil, List.getElem?_cons_zero, List.getElem?_cons_succ, exists_eq_left', exists_and_left, and_true, Nat.reduceAdd, Nat.zero_add]
      rw [if_neg (by decide)]
      refine hN _ _ ?_
      clear hN
      have bad : (¬ Canon p ∨ ¬ Canon r) → R .non S := fun nc => by
        rcases q with ⟨a, b, f, e, _⟩ | ⟨_, q⟩
        · obtain ⟨_, _, _, c1, c2⟩ := frL_two f np e
          rcases nc with nc | nc
          · exact absurd c1 nc
          · exact absurd c2 nc
        · exact q
      refine sSeq_i fun N hN => ?_
      simp only [rLoop, Function.comp, rTest, bOr, iStrT, sRet, sIf, sNext, sFor, rVar, rC, rBin, rTest, bOr, aNil, rLst, gNameT, iSeq, rLc, kIx, seqOf, T.str.injEq, Option.some.injEq, List.length_nil, List.getElem?_cons_zero, List.getElem?_cons_succ, List.set_cons_zero, List.set_cons_succ, exists_eq_left', exists_and_left, reduceIte]
      refine part_chk (fun _ => rfl) (by omega) (fun cp => ?_) fun nc => bad (.inl nc)
      refine part_chk (fun _ => rfl) (by omega) (fun cr => ?_) fun nc => bad (.inr nc)
      refine hN _ _ ?_
      clear hN
      obtain ⟨ep, pp⟩ := canon_back cp
      obtain ⟨er, pr⟩ := canon_back cr
      have vp := val_bits cp.dig (by omega)
      have vr := val_bits cr.dig (by omega)
      refine sSeq_i fun N hN => ?_
      simp only [kIntB, sRet, sIf, sNext, rVar, rC, rBin, rTest, aNil, aCons, rTup, rArgs, kIx, kLen, lenT, T.str.injEq, List.cons.injEq, Option.some.injEq, List.length_cons, List.length_nil, List.getElem?_cons_zero, List.getElem?_cons_succ, exists_eq_left', exists_and_left, and_true, Nat.reduceAdd, Nat.zero_add, at_0]
      refine eqI0 ⟨false, rfl, ?_⟩
      rw [if_neg (by decide)]
      refine hN _ _ ?_
      clear hN
      refine sSeq_i fun N hN => ?_
      simp only [kIntB, sAsg, rVar, rC, rBin, aNil, aCons, rTup, rArgs, gNameT, kIx, T.str.injEq, List.cons.injEq, Option.some.injEq, List.length_cons, List.length_nil, List.getElem?_cons_zero, List.getElem?_cons_succ, List.set_cons_zero, List.set_cons_succ, exists_eq_left', exists_and_left, and_true, Nat.reduceAdd, Nat.zero_add, at_0, at_1]
      refine ⟨_, int_dig ⟨cp.ne, cp.dig⟩ (by omega), by rw [SX.S_len]; omega, _, int_dig ⟨cr.ne, cr.dig⟩ (by omega), by rw [SX.S_len]; omega, by decide, hN _ _ ?_⟩
      clear hN
      simp only [sp_l_low, frT, sRet, rVar, rC, rBin, rTest, bAnd, rIf, aNil, aCons, rCall, kI2n, kIx, T.bl.injEq, Option.some.injEq, List.append_nil, List.getElem?_cons_zero, List.getElem?_cons_succ, exists_eq_left', exists_and_left, reduceIte, Bool.false_eq_true, at_0, at_1]
      have un : ∀ a b, Fr 8000 a b → SX.S (p ++ 47 :: r) = frS a b → b ≠ 1 ∧ a = (digitsVal p : Nat) ∧ b = (digitsVal r : Nat) := fun a b f e => by
        obtain ⟨b1, e1, e2, _⟩ := frL_two f np e
        have ha := f.a.pos
        have hb := f.b.pos
        refine ⟨b1, ?_, ?_⟩
        · rw [e1, numL_val]; omega
        · rw [e2, numL_val]; omega
      have bad2 : (¬ 1 < digitsVal r ∨ gcdI (digitsVal p : Nat) (digitsVal r : Nat) ≠ 1) → R .non S := fun nc => by
        rcases q with ⟨a, b, f, e, _⟩ | ⟨_, q⟩
        · obtain ⟨b1, rfl, rfl⟩ := un a b f e
          have hb := f.b.pos
          rcases nc with nc | nc
          · omega
          · exact absurd f.g nc
        · exact q
      refine ite_d (fun c1 => ?_) fun c1 => ?_
      · refine ⟨⟨by omega, by simpa using vp⟩, by omega, eq_fr ?_⟩
        rw [Bool.false_xor, lw_same (by omega) (by omega)]
        refine ⟨_, rfl, ?_⟩
        by_cases g : gcdI (digitsVal p : Nat) (digitsVal r : Nat) = 1
        · rw [decide_eq_true g, if_pos rfl]
          have fr : Fr 8000 ((digitsVal p : Nat) : Int) ((digitsVal r : Nat) : Int) := ⟨⟨by omega, by simpa using vp⟩, ⟨by omega, by simpa using vr⟩, g⟩
          have ef : SX.S (p ++ 47 :: r) = frS (digitsVal p : Nat) (digitsVal r : Nat) := by
            rw [frS_S (by omega) (by omega)]
            unfold frL
            rw [if_neg (by omega), Int.toNat_natCast, Int.toNat_natCast, ep, er]
          rcases q with ⟨a, b, f, e, q⟩ | ⟨no2, _⟩
          · obtain ⟨_, rfl, rfl⟩ := un a b f e
            exact q
          · exact absurd ef (no2 _ _ fr)
        · rw [decide_eq_false g, if_neg (by decide)]
          exact bad2 (.inr g)
      · exact bad2 (.inl (by omega))
    · have q : R .non S := by
        rcases q with ⟨a, b, f, e, _⟩ | ⟨_, q⟩
        · exact absurd e (fr_none_more np a b f)
        · exact q
      refine sSeq_i fun N hN => ?_
      simp only [sRet, sIf, sNext, rVar, rC, rBin, rTest, aNil, aCons, rArgs, kI2n, kLen, lenT, T.bl.injEq, List.cons.injEq, Option.some.injEq, List.getElem?_cons_zero, List.getElem?_cons_succ, exists_eq_left', exists_and_left, and_true]
      rw [if_pos (by rw [List.length_map, decide_eq_true_eq]; omega)]
      exact q
  · exact h.elim
open TL (numL numL_val)
/-- data with integers of many digits: short enough -/
structure SB (k n : Nat) (d : PyData) : Prop where
  sh : showB d
  dp : d.depth ≤ k
  ln : d.shown.length ≤ n
structure SBA (k n : Nat) (ds : List PyData) : Prop where
  sh : showBAll ds
  dp : PyData.depthAll ds ≤ k
  ln : ((PyData.shownAll ds).map (·.length)).sum + 2 * ds.length ≤ n
theorem SB.up {j k n m : Nat} {d : PyData} (h : SB j n d) (le2 : j ≤ k) (le : n ≤ m) : SB k m d := ⟨h.sh, Nat.le_trans h.dp le2, Nat.le_trans h.ln le⟩
theorem SBA.nil {k : Nat} : SBA k 0 [] := ⟨by simp only [showBAll], by simp only [PyData.depthAll]; omega, by rw [PyData.shownAll_nil]; exact Nat.le_refl _⟩
theorem SBA.cons {k n m : Nat} {d : PyData} {ds : List PyData} (h : SB k n d) (t : SBA k m ds) : SBA k (n + m + 2) (d :: ds) := by
  refine ⟨by simp only [showBAll]; exact ⟨h.sh, t.sh⟩, ?_, ?_⟩
  · have h1 := h.dp
    have h2 := t.dp
    simp only [PyData.depthAll]
    omega
  · have h1 := h.ln
    have h2 := t.ln
    rw [PyData.shownAll_cons]
    simp only [List.map_cons, List.sum_cons, List.length_cons]
    omega
theorem SB.lst {k n : Nat} {ds : List PyData} (h : SBA k n ds) : SB (k + 1) (n + 3) (.list ds) := by
  refine ⟨by simp only [showB]; exact h.sh, ?_, ?_⟩
  · have := h.dp
    simp only [PyData.depth]
    omega
  · have h1 := h.ln
    have h2 := listText_len_le (PyData.shownAll ds)
    rw [PyData.shownAll_length] at h2
    simp only [PyData.shown]
    omega
theorem SB.tup {k n : Nat} {ds : List PyData} (h : SBA k n ds) : SB (k + 1) (n + 3) (.tuple ds) := by
  refine ⟨by simp only [showB]; exact h.sh, ?_, ?_⟩
  · have := h.dp
    simp only [PyData.depth]
    omega
  · have h1 := h.ln
    have h2 := tupleText_len_le (PyData.shownAll ds)
    rw [PyData.shownAll_length] at h2
    simp only [PyData.shown]
    omega
theorem SB.int {a : Int} (h : Pn 8000 a) : SB 1 2409 (.int a) := ⟨by simp only [showB]; exact big14 h (by decide), by simp only [PyData.depth]; omega, by rw [PyData.shown_int]; exact nS_len h⟩
theorem SB.str {x : Str} {n : Nat} (h : (reprText x).length ≤ n) : SB 1 n (.str x) := ⟨by simp only [showB], by simp only [PyData.depth]; omega, by rw [PyData.shown_str]; exact h⟩
theorem SB.fr {a b : Int} (f : Fr 8000 a b) : SB 2 4825 (.tuple [.int a, .int b]) := (SB.tup (SBA.cons (SB.int f.a) (SBA.cons (SB.int f.b) SBA.nil))).up (by decide) (by decide)
theorem SB.q {k n : Nat} {d : PyData} (h : SB k n d) (hk : k ≤ 64) (hn : n ≤ 16777216) : SqB d := ⟨h.sh, Nat.le_trans h.dp hk, Nat.le_trans h.ln hn⟩
theorem fr_datD {a b : Int} : (frT a b).datD = some (.tuple [.int a, .int b]) := by simp [frT, T.datD, T.datDL]
/-- texts of few signs -/
structure TxS (n : Nat) (z : Str) : Prop where
  l : z.length ≤ n
  s : ∀ c ∈ z.cps.toList, c < 16 ^ 8
theorem TxS.up {n m : Nat} {z : Str} (h : TxS n z) (k : n ≤ m) : TxS m z := ⟨Nat.le_trans h.l k, h.s⟩
theorem TxS.cat {n m : Nat} {a b : Str} (h : TxS n a) (k : TxS m b) : TxS (n + m) (a ++ b) := by
  have h1 := h.l
  have h2 := k.l
  refine ⟨by rw [sLen0]; omega, fun c hc => ?_⟩
  have e : (a ++ b).cps.toList = a.cps.toList ++ b.cps.toList := TL.tl_append a b
  rw [e] at hc
  rcases List.mem_append.mp hc with m | m
  · exact h.s c m
  · exact k.s c m
theorem TxS.S {n : Nat} {l : List Nat} (h : l.length ≤ n) (k : ∀ c ∈ l, c < 16 ^ 8) : TxS n (SX.S l) := ⟨by rw [SX.S_len]; exact h, k⟩
theorem TxS.of {z : Str} {n : Nat} (h : z.length ≤ n) (k : (z.cps.toList.all fun c => decide (c < 16 ^ 8)) = true) : TxS n z := ⟨h, fun c m => of_decide_eq_true (List.all_eq_true.mp k c m)⟩
theorem TxS.cut {n : Nat} {z : Str} (h : TxS n z) {lo hi : Option Int} : TxS n (cutS z lo hi) := by
  have := h.l
  have e : z.cps.toList.length = z.length := Array.length_toList
  unfold cutS
  exact .S (by rw [List.length_take, List.length_drop]; omega) fun c m => h.s c (List.mem_of_mem_drop (List.mem_of_mem_take m))
theorem TxS.num {a : Int} (h : Pn 210 a) : TxS 64 (nS a) := by
  have hp := h.pos
  rw [nS_S (by omega)]
  refine .S (TL.numL_len (by decide) ?_) fun c m => ?_
  · have := h.lt
    have t : (2 : Nat) ^ 210 < 10 ^ 64 := by decide +kernel
    omega
  · have := TL.numL_digits a.toNat c m
    omega
theorem TxS.fr {a b : Int} (f : Fr 210 a b) : TxS 129 (frS a b) := by
  unfold frS
  split
  · exact (TxS.num f.a).up (by decide)
  · exact ((TxS.num f.a).cat ((TxS.of (n := 1) (by decide) (by decide +kernel)))).cat (TxS.num f.b)
theorem kAdd_ss {a b : Str} {S : Store} {R : T → Store → Prop} {RE : XT} : kAdd (.str a) (.str b) S R RE = (a.length + b.length ≤ sizeLine ∧ R (.str (a ++ b)) S) := rfl
theorem kAdd_ii {a b : Int} {S : Store} {R : T → Store → Prop} {RE : XT} : kAdd (.int a) (.int b) S R RE = R (.int (a + b)) S := rfl
theorem kSl_s {z : Str} {lo hi : Option Int} {S : Store} {R : T → Store → Prop} : kSl (.str z) lo hi S R = (z.length ≤ sizeLine ∧ R (.str (cutS z lo hi)) S) := rfl
theorem kAdd_ll {a b : List T} {S : Store} {R : T → Store → Prop} {RE : XT} : kAdd (.lst a) (.lst b) S R RE = (a.length + b.length ≤ sizeLine ∧ R (.lst (a ++ b)) S) := rfl
theorem ex_int {i : Int} {P : Int → Prop} : (∃ j, T.int i = T.int j ∧ P j) = P i := propext ⟨fun ⟨j, e, h⟩ => by cases e; exact h, fun h => ⟨i, rfl, h⟩⟩
theorem TxS.rep {n : Nat} {z : Str} (h : TxS n z) (k : Nat) : TxS (k * n) (repS z k) := by
  have e := repS_tl z k
  refine ⟨?_, fun c m => ?_⟩
  · show (repS z k).cps.size ≤ _
    rw [← Array.length_toList, e, List.length_flatten, List.map_replicate, List.sum_replicate_nat, Array.length_toList]
    exact Nat.mul_le_mul_left _ h.l
  · rw [e] at m
    obtain ⟨l, hl, hc⟩ := List.mem_flatten.mp m
    rw [List.eq_of_mem_replicate hl] at hc
    exact h.s c hc
theorem sc_l_shown : FnScope ["_law_part_here"] ["_law_part_here"] (defScope s_l_shown) := ⟨rfl, rfl, rfl, by decide +kernel, rfl, by decide +kernel, by decide +kernel⟩
def sp_l_shown : SpT := fun ts S R _ => match ts with
  | [x] => ∃ a b, x = frT a b ∧ Fr 1900 a b ∧ R (.str (frS a b)) S
  | _ => False
theorem ok_l_shown {P : Program} {w : World} {K : PySem.W.Frag} {mg : Str → Option Value} {base : Heap} {f : Addr} {fd : FuncData}   (F : Fun K "_law_shown" "_law_shown" s_l_shown f fd)
    (n_str : mg "str" = none)
    : FnT P w K mg base 1 f fd ["_law_part_here"] sp_l_shown := by
  refine okT F sc_l_shown (by intro ts S R RE h; unfold sp_l_shown at h; split at h <;> first | rfl | exact h.elim) (fun cdv A out s H E hg hr => (bs_one (ss_ret (et_if (tt_cmp (op_eqG hr.units) cv_eq (et_ix ix_seq cv_ix (et_var (pv 0)) et_int (fun _ _ => rfl)) et_int (nomark _)) (et_typ call_str_int cv_strI (by rfl) n_str PyProof.Rows.boot_str (at_cons (et_ix ix_seq cv_ix (et_var (pv 0)) et_int (fun _ _ => rfl)) at_nil)) (et_op op_addG cv_add (et_op op_addG cv_add (et_typ call_str_int cv_strI (by rfl) n_str PyProof.Rows.boot_str (at_cons (et_ix ix_seq cv_ix (et_var (pv 0)) et_int (fun _ _ => rfl)) at_nil)) et_str) (et_typ call_str_int cv_strI (by rfl) n_str PyProof.Rows.boot_str (at_cons (et_ix ix_seq cv_ix (et_var (pv 0)) et_int (fun _ _ => rfl)) at_nil))))))) ?_
  intro ts S R RE h
  unfold sp_l_shown at h
  split at h
  · obtain ⟨a, b, rfl, f, q⟩ := h
    have lga := lg1920 f.a (by decide)
    have lgb := lg1920 f.b (by decide)
    have la : (Str.ofString (toString a)).length ≤ 2409 := nS_len (f.a.up (by decide))
    have lb : (Str.ofString (toString b)).length ≤ 2409 := nS_len (f.b.up (by decide))
    clear f
    simp only [frT, sRet, rVar, rC, rBin, rTest, rIf, aNil, aCons, rArgs, kAdd, kIx, kStrI, startT, T.int.injEq, List.cons.injEq, Option.some.injEq, List.map_cons, List.map_nil, List.length_cons, List.length_nil, List.append_nil, List.getElem?_cons_zero, List.replicate_zero, exists_eq_left', exists_and_left, and_true, Nat.sub_self, Nat.zero_add, at_0, at_1]
    refine eqI0 ⟨_, rfl, ?_⟩
    by_cases hb : b = 1
    · subst hb
      rw [if_pos (by decide)]
      rw [frS_1] at q
      exact ⟨lga, q⟩
    · rw [if_neg (by rw [decide_eq_true_eq]; exact hb)]
      rw [frS_n hb] at q
      have ls : ("/" : Str).length = 1 := by decide
      exact ⟨lga, by rw [ls, sizeLine_eq]; omega, lgb, by rw [sLen0, ls, sizeLine_eq]; omega, q⟩
  · exact h.elim
open TL (numL numL_val)
open NumText (AllDigits digitsVal)
/-- what a text writes, reckoned -/
def canonB (l : List Nat) : Bool := match l with
  | [] => false
  | c :: r => decide (c ≠ 48) && (c :: r).all fun c => decide (48 ≤ c) && decide (c ≤ 57)
theorem canonB_iff {l : List Nat} : canonB l = true ↔ Canon l := by
  cases l with
  | nil => exact ⟨fun h => (by cases h), fun h => absurd rfl h.ne⟩
  | cons c r =>
    simp only [canonB, Bool.and_eq_true, decide_eq_true_eq, List.all_eq_true]
    exact ⟨fun ⟨h1, h2⟩ => ⟨by simp, by simpa using h1, fun d m => h2 d m⟩, fun h => ⟨by simpa using h.hd, fun d m => h.dig d m⟩⟩
def rdQ (l : List Nat) : Option (Nat × Nat) := match l.dropWhile (fun c => c != 47) with
  | [] => if canonB l then some (digitsVal l, 1) else none
  | _ :: q => if canonB (l.takeWhile fun c => c != 47) && canonB q && decide (1 < digitsVal q) && Nat.gcd (digitsVal (l.takeWhile fun c => c != 47)) (digitsVal q) == 1 then some (digitsVal (l.takeWhile fun c => c != 47), digitsVal q) else none
theorem cut47 (l : List Nat) : (l.dropWhile (fun c => c != 47) = [] ∧ 47 ∉ l) ∨ ∃ q, l.dropWhile (fun c => c != 47) = 47 :: q ∧ l = l.takeWhile (fun c => c != 47) ++ 47 :: q ∧ 47 ∉ l.takeWhile fun c => c != 47 := by
  induction l with
  | nil => exact .inl ⟨rfl, by simp⟩
  | cons c l ih =>
    by_cases h : c = 47
    · subst h
      exact .inr ⟨l, by simp, by simp, by simp⟩
    · have hb : (c != 47) = true := by simpa using h
      have d1 : (c :: l).dropWhile (fun c => c != 47) = l.dropWhile (fun c => c != 47) := by rw [List.dropWhile_cons, if_pos hb]
      have d2 : (c :: l).takeWhile (fun c => c != 47) = c :: l.takeWhile (fun c => c != 47) := by rw [List.takeWhile_cons, if_pos hb]
      rw [d1, d2]
      rcases ih with ⟨e, n⟩ | ⟨q, e1, e2, n⟩
      · exact .inl ⟨e, by simp only [List.mem_cons, not_or]; exact ⟨fun z => h z.symm, n⟩⟩
      · exact .inr ⟨q, e1, by rw [List.cons_append, ← e2], by simp only [List.mem_cons, not_or]; exact ⟨fun z => h z.symm, n⟩⟩
theorem gcd_nat (a b : Nat) : gcdI (a : Int) (b : Int) = ((Nat.gcd a b : Nat) : Int) := by
  unfold gcdI
  rw [Int.gcd_natCast_natCast]
theorem rdQ_some {l : List Nat} {a b : Nat} (h : rdQ l = some (a, b)) (hl : l.length ≤ 2400) : Fr 8000 (a : Int) (b : Int) ∧ SX.S l = frS a b := by
  unfold rdQ at h
  rcases cut47 l with ⟨e, n⟩ | ⟨q, e1, e2, n⟩
  · rw [e] at h
    dsimp only at h
    split at h
    · rename_i hc
      have cn := canonB_iff.mp hc
      simp only [Option.some.injEq, Prod.mk.injEq] at h
      obtain ⟨rfl, rfl⟩ := h
      obtain ⟨eb, pb⟩ := canon_back cn
      exact ⟨Fr.of ⟨by omega, by simpa using val_bits cn.dig hl⟩, by show SX.S l = frS _ 1; rw [frS_1, nS_S (by omega), Int.toNat_natCast, eb]⟩
    · cases h
  · rw [e1] at h
    dsimp only at h
    generalize l.takeWhile (fun c => c != 47) = p at *
    split at h
    · rename_i hc
      simp only [Bool.and_eq_true, decide_eq_true_eq, beq_iff_eq] at hc
      obtain ⟨⟨⟨h1, h2⟩, h3⟩, h4⟩ := hc
      have cp := canonB_iff.mp h1
      have cq := canonB_iff.mp h2
      simp only [Option.some.injEq, Prod.mk.injEq] at h
      obtain ⟨rfl, rfl⟩ := h
      obtain ⟨ep, pp⟩ := canon_back cp
      obtain ⟨eq_, pq⟩ := canon_back cq
      have hl2 : p.length + (q.length + 1) ≤ 2400 := by rw [e2, List.length_append, List.length_cons] at hl; exact hl
      refine ⟨⟨⟨by omega, by simpa using val_bits cp.dig (by omega)⟩, ⟨by omega, by simpa using val_bits cq.dig (by omega)⟩, by rw [gcd_nat, h4]; rfl⟩, ?_⟩
      rw [frS_S (by omega) (by omega), e2]
      unfold frL
      rw [if_neg (by omega), Int.toNat_natCast, Int.toNat_natCast, ep, eq_]
    · cases h
theorem rdQ_none {l : List Nat} (h : rdQ l = none) : ∀ a b, Fr 8000 a b → SX.S l ≠ frS a b := fun a b f e => by
  unfold rdQ at h
  have ha := f.a.pos
  have hb := f.b.pos
  rcases cut47 l with ⟨e0, n⟩ | ⟨q, e1, e2, n⟩
  · rw [e0] at h
    obtain ⟨_, _, c⟩ := frL_one f n e
    rw [canonB_iff.mpr c] at h
    cases h
  · rw [e1] at h
    dsimp only at h
    generalize l.takeWhile (fun c => c != 47) = p at *
    subst e2
    obtain ⟨b1, k1, k2, c1, c2⟩ := frL_two f n e
    rw [canonB_iff.mpr c1, canonB_iff.mpr c2, k1, k2, numL_val, numL_val, decide_eq_true (show 1 < b.toNat by omega)] at h
    have g : Nat.gcd a.toNat b.toNat = 1 := by
      have := f.g
      obtain ⟨x, rfl⟩ := Int.eq_ofNat_of_zero_le (show 0 ≤ a by omega)
      obtain ⟨y, rfl⟩ := Int.eq_ofNat_of_zero_le (show 0 ≤ b by omega)
      rw [gcd_nat] at this
      simp only [Int.toNat_natCast]
      exact_mod_cast this
    rw [g] at h
    cases h
theorem SBs {z : Str} (h : TxS 2400 z) : SB 1 24002 (.str z) := SB.str (by
  have := StrLaws.reprText_len z h.s
  have := h.l
  omega)
theorem sc_l_text_right : FnScope ["_law_said", "_law_found", "_law_due", "_law_told"] ["_law_said"] (defScope s_l_text_right) := ⟨rfl, rfl, rfl, by decide +kernel, rfl, by decide +kernel, by decide +kernel⟩
def sp_l_text (K : PySem.W.Frag) : SpT := fun ts S R _ => match ts with
  | [.str z] => TxS 2400 z ∧ R (.bl true) S
  | _ => False
set_option maxHeartbeats 3200000 in
theorem ok_l_text_right {P : Program} {w : World} {K : PySem.W.Frag} {mg : Str → Option Value} {base : Heap} {f : Addr} {fd : FuncData} {g_format_fraction g_parse_fraction C_InvalidText g_l_parsed g_l_read : Addr} {gd_format_fraction : FuncData} {gd_parse_fraction : FuncData} {gd_l_parsed : FuncData} {gd_l_read : FuncData} (F : Fun K "_law_text_right" "_law_text_right" s_l_text_right f fd)
    (n_repr : mg "repr" = none)
    (G_format_fraction : FnT P w K mg base 5 g_format_fraction gd_format_fraction ["number"] (sp_format_fraction K))
    (m_format_fraction : mg "format_fraction" = some (.ref g_format_fraction))
    (k_format_fraction : PySem.W.keepIn K (.ref g_format_fraction) = true)
    (b_format_fraction : Binds K gd_format_fraction ["number"] [])
    (G_parse_fraction : FnT P w K mg base 7 g_parse_fraction gd_parse_fraction ["text"] (sp_parse_fraction K C_InvalidText))
    (m_parse_fraction : mg "parse_fraction" = some (.ref g_parse_fraction))
    (k_parse_fraction : PySem.W.keepIn K (.ref g_parse_fraction) = true)
    (b_parse_fraction : Binds K gd_parse_fraction ["text"] [])
    (G_l_parsed : FnT P w K mg base 8 g_l_parsed gd_l_parsed ["_law_said", "_law_by_name"] (sp_l_parsed K))
    (m_l_parsed : mg "_law_parsed" = some (.ref g_l_parsed))
    (k_l_parsed : PySem.W.keepIn K (.ref g_l_parsed) = true)
    (b_l_parsed : Binds K gd_l_parsed ["_law_said", "_law_by_name"] [])
    (G_l_read : FnT P w K mg base 2 g_l_read gd_l_read ["_law_text_here"] (sp_l_read K))
    (m_l_read : mg "_law_read" = some (.ref g_l_read))
    (k_l_read : PySem.W.keepIn K (.ref g_l_read) = true)
    (b_l_read : Binds K gd_l_read ["_law_text_here"] [])
    (ND : base.NoDigits)
    (SYS : ∃ o, base.get? sysModules = some o)
    : FnT P w K mg base 9 f fd ["_law_said"] (sp_l_text K) := by
  refine okT F sc_l_text_right (by intro ts S R RE h; unfold sp_l_text at h; split at h <;> first | rfl | exact h.elim) (fun cdv A out s H E hg hr => (bs_cons (ss_set (i := 1) sc_l_text_right.nd rfl (by first | exact Or.inl rfl | exact Or.inr rfl) (et_callD G_l_read hg (hr.mono (by decide)) (by rfl) m_l_read k_l_read (CallD.all b_l_read) (passL2N (L2N.takes_of rfl rfl rfl rfl)) (at_cons (et_var (pv 0)) at_nil)))
    (bs_cons (ss_set (i := 2) sc_l_text_right.nd rfl (by first | exact Or.inl rfl | exact Or.inr rfl) (et_if (tt_cmp op_isN cv_isN (et_var (pv 1)) et_non (nomark _)) (et_lst (at_cons et_str (at_cons (et_var (pv 0)) at_nil))) (et_var (pv 1))))
    (bs_cons (ss_set (i := 3) sc_l_text_right.nd rfl (by first | exact Or.inl rfl | exact Or.inr rfl) (et_lst (at_cons (et_callD G_l_parsed hg (hr.mono (by decide)) (by rfl) m_l_parsed k_l_parsed (CallD.all b_l_parsed) (passL2N (L2N.takes_of rfl rfl rfl rfl)) (at_cons (et_var (pv 0)) (at_cons et_bl at_nil))) (at_cons (et_callD G_l_parsed hg (hr.mono (by decide)) (by rfl) m_l_parsed k_l_parsed (CallD.all b_l_parsed) (passL2N (L2N.takes_of rfl rfl rfl rfl)) (at_cons (et_var (pv 0)) (at_cons et_bl at_nil))) (at_cons (et_callD G_l_parsed hg (hr.mono (by decide)) (by rfl) m_l_parsed k_l_parsed (CallD.all b_l_parsed) (passL2N (L2N.takes_of rfl rfl rfl rfl)) (at_cons (et_var (pv 0)) (at_cons et_bl at_nil))) at_nil)))))
    (bs_cons (ss_if (tt_cmp (op_neG hr.units) cv_ne (et_blt (reprDB ND SYS hg (roomR hr)) cv_reprB (by rfl) n_repr PyProof.Rows.boot_repr (at_cons (et_var (pv 3)) at_nil)) (et_blt (reprDB ND SYS hg (roomR hr)) cv_reprB (by rfl) n_repr PyProof.Rows.boot_repr (at_cons (et_op op_mulG cv_mul (et_lst (at_cons (et_var (pv 2)) at_nil)) et_int) at_nil)) (nomark _)) (bs_one (ss_ret et_bl)) bs_nil)
    (bs_one (ss_ret (et_or (et_cmp op_isN cv_isN (et_var (pv 1)) et_non (nomark _)) (et_one (et_cmp (op_eqG hr.units) cv_eq (et_callD G_format_fraction hg (hr.mono (by decide)) (by rfl) m_format_fraction k_format_fraction (CallD.all b_format_fraction) (passL2N (L2N.takes_of rfl rfl rfl rfl)) (at_cons (et_callD G_parse_fraction hg (hr.mono (by decide)) (by rfl) m_parse_fraction k_parse_fraction (CallD.all b_parse_fraction) (passL2N (L2N.takes_of rfl rfl rfl rfl)) (at_cons (et_var (pv 0)) at_nil)) at_nil)) (et_var (pv 0)) (nomark _))))))))))) ?_
  intro ts S R RE h
  unfold sp_l_text at h
  split at h
  · rename_i z
    obtain ⟨tz, q⟩ := h
    have hz := tz.l
    have sz := SBs tz
    by_cases w : ∃ a b, Fr 8000 a b ∧ z = frS a b
    · obtain ⟨a, b, f, e⟩ := w
      have pr : ∀ R' : T → Store → Prop, R' (frT a b) S → FindR z R' S := fun R' k => .inl ⟨a, b, f, e, k⟩
      refine sSeq_i fun N hN => ?_
      simp only [sp_l_read, sAsg, rVar, aNil, aCons, gNameT, rCall, startT, Option.some.injEq, List.map_cons, List.map_nil, List.length_cons, List.length_nil, List.cons_append, List.nil_append, List.append_nil, List.getElem?_cons_zero, List.set_cons_zero, List.set_cons_succ, List.replicate_succ, List.replicate_zero, exists_eq_left', Nat.reduceAdd, Nat.reduceSub, Nat.zero_add]
      refine ⟨hz, pr _ (hN _ _ ?_)⟩
      clear hN
      refine sSeq_i fun N hN => ?_
      simp only [frT, sAsg, rVar, rC, rBin, rTest, rIf, aNil, aCons, rLst, gNameT, Option.some.injEq, List.length_cons, List.length_nil, List.getElem?_cons_zero, List.getElem?_cons_succ, List.set_cons_zero, List.set_cons_succ, exists_eq_left', Nat.reduceAdd, Nat.zero_add]
      refine ⟨rfl, false, rfl, ?_⟩
      rw [if_neg (by decide)]
      refine hN _ _ ?_
      clear hN
      refine sSeq_i fun N hN => ?_
      simp only [sp_l_parsed, sAsg, rVar, rC, aNil, aCons, rLst, gNameT, rCall, Option.some.injEq, List.length_cons, List.length_nil, List.append_nil, List.getElem?_cons_zero, List.set_cons_zero, List.set_cons_succ, exists_eq_left', Nat.reduceAdd, Nat.zero_add]
      refine ⟨hz, .inl ⟨a, b, f, e, hz, .inl ⟨a, b, f, e, hz, .inl ⟨a, b, f, e, by decide, hN _ _ ?_⟩⟩⟩⟩
      clear hN
      refine sSeq_i fun N hN => ?_
      simp only [sRet, sIf, sNext, rVar, rC, rBin, rTest, aNil, aCons, rLst, rArgs, kMul, Option.some.injEq, List.length_cons, List.length_nil, List.getElem?_cons_zero, List.getElem?_cons_succ, exists_eq_left', and_assoc, Nat.zero_add]
      have sb : SqB (.list [.tuple [.int a, .int b], .tuple [.int a, .int b], .tuple [.int a, .int b]]) := (SB.lst (k := 2) (SBA.cons (SB.fr f) (SBA.cons (SB.fr f) (SBA.cons (SB.fr f) SBA.nil)))).q (by decide) (by decide)
      have dd : (T.lst [frT a b, frT a b, frT a b]).datD = some (.list [.tuple [.int a, .int b], .tuple [.int a, .int b], .tuple [.int a, .int b]]) := by
        rw [T.datD, T.datDL, T.datDL, T.datDL, T.datDL, fr_datD]; rfl
      refine ⟨_, _, rfl, dd, sb, by decide, by decide, by decide, by decide, _, _, rfl, dd, sb, ?_⟩
      refine eqSt0 (v := false) (by simp) ⟨_, rfl, ?_⟩
      rw [if_neg (by decide)]
      refine hN _ _ ?_
      clear hN
      simp only [sp_parse_fraction, sp_format_fraction, sRet, rVar, rC, rBin, vOr, aNil, aCons, rCall, Option.some.injEq, List.append_nil, List.getElem?_cons_zero, List.getElem?_cons_succ, exists_eq_left']
      refine ⟨rfl, false, rfl, ?_⟩
      rw [if_neg (by decide)]
      refine ⟨hz, .inl ⟨a, b, f, e, a, b, rfl, f, ?_⟩⟩
      refine eqSt0 (v := true) (by simp [e]) q
    · have no : ∀ a b, Fr 8000 a b → z ≠ frS a b := fun a b f e => w ⟨a, b, f, e⟩
      refine sSeq_i fun N hN => ?_
      simp only [sp_l_read, sAsg, rVar, aNil, aCons, gNameT, rCall, startT, Option.some.injEq, List.map_cons, List.map_nil, List.length_cons, List.length_nil, List.cons_append, List.nil_append, List.append_nil, List.getElem?_cons_zero, List.set_cons_zero, List.set_cons_succ, List.replicate_succ, List.replicate_zero, exists_eq_left', Nat.reduceAdd, Nat.reduceSub, Nat.zero_add]
      refine ⟨hz, .inr ⟨no, hN _ _ ?_⟩⟩
      clear hN
      refine sSeq_i fun N hN => ?_
      simp only [sAsg, rVar, rC, rBin, rTest, rIf, aNil, aCons, rLst, gNameT, Option.some.injEq, List.length_cons, List.length_nil, List.getElem?_cons_zero, List.getElem?_cons_succ, List.set_cons_zero, List.set_cons_succ, exists_eq_left', Nat.reduceAdd, Nat.zero_add]
      refine ⟨rfl, true, rfl, ?_⟩
      rw [if_pos rfl]
      refine ⟨by decide, hN _ _ ?_⟩
      clear hN
      refine sSeq_i fun N hN => ?_
      simp only [sp_l_parsed, sAsg, rVar, rC, aNil, aCons, rLst, gNameT, rCall, Option.some.injEq, List.length_cons, List.length_nil, List.append_nil, List.getElem?_cons_zero, List.set_cons_zero, List.set_cons_succ, exists_eq_left', Nat.reduceAdd, Nat.zero_add]
      refine ⟨hz, .inr ⟨no, hz, .inr ⟨no, hz, .inr ⟨no, by decide, hN _ _ ?_⟩⟩⟩⟩
      clear hN
      refine sSeq_i fun N hN => ?_
      simp only [sRet, sIf, sNext, rVar, rC, rBin, rTest, aNil, aCons, rLst, rArgs, kMul, Option.some.injEq, List.length_cons, List.length_nil, List.getElem?_cons_zero, List.getElem?_cons_succ, exists_eq_left', and_assoc, Nat.zero_add]
      have ns : SB 1 24002 (.str "none") := SB.str (by decide +kernel)
      have sx : SB 2 48100 (.list [.str "none", .str z]) := (SB.lst (k := 1) (SBA.cons ns (SBA.cons sz SBA.nil))).up (by decide) (by decide)
      have sb : SqB (.list [.list [.str "none", .str z], .list [.str "none", .str z], .list [.str "none", .str z]]) := (SB.lst (k := 2) (SBA.cons sx (SBA.cons sx (SBA.cons sx SBA.nil)))).q (by decide) (by decide)
      have d1 : (T.lst [T.str (Str.ofString "none"), T.str z]).datD = some (.list [.str "none", .str z]) := by
        rw [T.datD, T.datDL, T.datDL, T.datDL, T.datD, T.datD]; rfl
      have dd : (T.lst [T.lst [T.str (Str.ofString "none"), T.str z], T.lst [T.str (Str.ofString "none"), T.str z], T.lst [T.str (Str.ofString "none"), T.str z]]).datD = some (.list [.list [.str "none", .str z], .list [.str "none", .str z], .list [.str "none", .str z]]) := by
        rw [T.datD, T.datDL, T.datDL, T.datDL, T.datDL, d1]; rfl
      refine ⟨_, _, rfl, dd, sb, by decide, by decide, by decide, by decide, _, _, rfl, dd, sb, ?_⟩
      refine eqSt0 (v := false) (by simp) ⟨_, rfl, ?_⟩
      rw [if_neg (by decide)]
      refine hN _ _ ?_
      clear hN
      simp only [sRet, rVar, rC, rBin, vOr, aNil, aCons, rCall, Option.some.injEq, List.append_nil, List.getElem?_cons_zero, List.getElem?_cons_succ, exists_eq_left']
      exact ⟨rfl, _, rfl, q⟩
  · exact h.elim
theorem sc_l_part_right : FnScope ["_law_part_here", "_law_due", "_law_told"] ["_law_part_here"] (defScope s_l_part_right) := ⟨rfl, rfl, rfl, by decide +kernel, rfl, by decide +kernel, by decide +kernel⟩
def sp_l_pr (K : PySem.W.Frag) : SpT := fun ts S R _ => match ts with
  | [x] => ∃ a b, x = frT a b ∧ Fr 200 a b ∧ R (.bl true) S
  | _ => False
set_option maxHeartbeats 3200000 in
theorem ok_l_part_right {P : Program} {w : World} {K : PySem.W.Frag} {mg : Str → Option Value} {base : Heap} {f : Addr} {fd : FuncData} {g_parse_fraction C_InvalidText g_format_fraction g_l_shown : Addr} {gd_parse_fraction : FuncData} {gd_format_fraction : FuncData} {gd_l_shown : FuncData} (F : Fun K "_law_part_right" "_law_part_right" s_l_part_right f fd)
    (n_repr : mg "repr" = none)
    (G_parse_fraction : FnT P w K mg base 7 g_parse_fraction gd_parse_fraction ["text"] (sp_parse_fraction K C_InvalidText))
    (m_parse_fraction : mg "parse_fraction" = some (.ref g_parse_fraction))
    (k_parse_fraction : PySem.W.keepIn K (.ref g_parse_fraction) = true)
    (b_parse_fraction : Binds K gd_parse_fraction ["text"] [])
    (G_format_fraction : FnT P w K mg base 5 g_format_fraction gd_format_fraction ["number"] (sp_format_fraction K))
    (m_format_fraction : mg "format_fraction" = some (.ref g_format_fraction))
    (k_format_fraction : PySem.W.keepIn K (.ref g_format_fraction) = true)
    (b_format_fraction : Binds K gd_format_fraction ["number"] [])
    (kb_format_fraction_0_number : CallB K gd_format_fraction ["number"] 0 ["number"] (fun ts zs => pickG [(2, 0)] ts [] zs))
    (G_l_shown : FnT P w K mg base 1 g_l_shown gd_l_shown ["_law_part_here"] sp_l_shown)
    (m_l_shown : mg "_law_shown" = some (.ref g_l_shown))
    (k_l_shown : PySem.W.keepIn K (.ref g_l_shown) = true)
    (b_l_shown : Binds K gd_l_shown ["_law_part_here"] [])
    (ND : base.NoDigits)
    (SYS : ∃ o, base.get? sysModules = some o)
    : FnT P w K mg base 8 f fd ["_law_part_here"] (sp_l_pr K) := by
  refine okT F sc_l_part_right (by intro ts S R RE h; unfold sp_l_pr at h; split at h <;> first | rfl | exact h.elim) (fun cdv A out s H E hg hr => (bs_cons (ss_set (i := 1) sc_l_part_right.nd rfl (by first | exact Or.inl rfl | exact Or.inr rfl) (et_callD G_l_shown hg (hr.mono (by decide)) (by rfl) m_l_shown k_l_shown (CallD.all b_l_shown) (passL2N (L2N.takes_of rfl rfl rfl rfl)) (at_cons (et_var (pv 0)) at_nil)))
    (bs_cons (ss_set (i := 2) sc_l_part_right.nd rfl (by first | exact Or.inl rfl | exact Or.inr rfl) (et_lst (at_cons (et_callD G_format_fraction hg (hr.mono (by decide)) (by rfl) m_format_fraction k_format_fraction (CallD.all b_format_fraction) (passL2N (L2N.takes_of rfl rfl rfl rfl)) (at_cons (et_var (pv 0)) at_nil)) (at_cons (et_callKB G_format_fraction hg (hr.mono (by decide)) (by rfl) m_format_fraction k_format_fraction kb_format_fraction_0_number (passL2N (L2N.takes_of rfl rfl rfl rfl)) (kt_cons (et_var (pv 0)) kt_nil)) (at_cons (et_callD G_format_fraction hg (hr.mono (by decide)) (by rfl) m_format_fraction k_format_fraction (CallD.all b_format_fraction) (passL2N (L2N.takes_of rfl rfl rfl rfl)) (at_cons (et_var (pv 0)) at_nil)) at_nil)))))
    (bs_one (ss_ret (et_and (et_cmp (op_eqG hr.units) cv_eq (et_blt (reprDB ND SYS hg (roomR hr)) cv_reprB (by rfl) n_repr PyProof.Rows.boot_repr (at_cons (et_var (pv 2)) at_nil)) (et_blt (reprDB ND SYS hg (roomR hr)) cv_reprB (by rfl) n_repr PyProof.Rows.boot_repr (at_cons (et_op op_mulG cv_mul (et_lst (at_cons (et_var (pv 1)) at_nil)) et_int) at_nil)) (nomark _)) (et_one (et_cmp (op_eqG hr.units) cv_eq (et_blt (reprDB ND SYS hg (roomR hr)) cv_reprB (by rfl) n_repr PyProof.Rows.boot_repr (at_cons (et_callD G_parse_fraction hg (hr.mono (by decide)) (by rfl) m_parse_fraction k_parse_fraction (CallD.all b_parse_fraction) (passL2N (L2N.takes_of rfl rfl rfl rfl)) (at_cons (et_var (pv 1)) at_nil)) at_nil)) (et_blt (reprDB ND SYS hg (roomR hr)) cv_reprB (by rfl) n_repr PyProof.Rows.boot_repr (at_cons (et_var (pv 0)) at_nil)) (nomark _))))))))) ?_
  intro ts S R RE h
  unfold sp_l_pr at h
  split at h
  · obtain ⟨a, b, rfl, f, q⟩ := h
    have f8 := f.up (m := 8000) (by decide)
    have tx := TxS.fr (f.up (m := 210) (by decide))
    have sx := SBs (tx.up (by decide))
    refine sSeq_i fun N hN => ?_
    simp only [sp_l_shown, sAsg, rVar, aNil, aCons, gNameT, rCall, startT, Option.some.injEq, List.map_cons, List.map_nil, List.length_cons, List.length_nil, List.cons_append, List.nil_append, List.append_nil, List.getElem?_cons_zero, List.set_cons_zero, List.set_cons_succ, List.replicate_succ, List.replicate_zero, exists_eq_left', Nat.reduceAdd, Nat.reduceSub, Nat.zero_add]
    refine ⟨a, b, rfl, f.up (by decide), hN _ _ ?_⟩
    clear hN
    refine sSeq_i fun N hN => ?_
    simp only [sp_format_fraction, sAsg, rVar, aNil, aCons, rLst, gNameT, rCall, rCallN, pickG, selG, Option.some.injEq, List.length_cons, List.length_nil, List.append_nil, List.getElem?_cons_zero, List.set_cons_zero, List.set_cons_succ, exists_eq_left', true_and, Nat.reduceAdd, Nat.zero_add]
    refine ⟨a, b, rfl, f8, a, b, rfl, f8, a, b, rfl, f8, by decide, hN _ _ ?_⟩
    clear hN
    have sb : SqB (.list [.str (frS a b), .str (frS a b), .str (frS a b)]) := (SB.lst (k := 1) (SBA.cons sx (SBA.cons sx (SBA.cons sx SBA.nil)))).q (by decide) (by decide)
    have dd : (T.lst [T.str (frS a b), T.str (frS a b), T.str (frS a b)]).datD = some (.list [.str (frS a b), .str (frS a b), .str (frS a b)]) := by
      rw [T.datD, T.datDL, T.datDL, T.datDL, T.datDL, T.datD]; rfl
    simp only [sp_parse_fraction, sRet, rVar, rC, rBin, vAnd, aNil, aCons, rLst, rArgs, rCall, kMul, Option.some.injEq, List.length_cons, List.length_nil, List.append_nil, List.getElem?_cons_zero, List.getElem?_cons_succ, exists_eq_left', and_assoc, Nat.zero_add]
    have sf : SqB (.tuple [.int a, .int b]) := (SB.fr f8).q (by decide) (by decide)
    refine ⟨_, _, rfl, dd, sb, by decide, by decide, by decide, by decide, _, _, rfl, dd, sb, ?_⟩
    refine eqSt0 (v := true) (by simp) ⟨_, rfl, ?_⟩
    rw [if_pos rfl]
    refine ⟨Nat.le_trans tx.l (by decide), .inl ⟨a, b, f8, rfl, _, _, rfl, fr_datD, sf, _, _, rfl, fr_datD, sf, ?_⟩⟩
    exact eqSt0 (v := true) (by simp) q
  · exact h.elim
theorem sc_l_bent : FnScope ["_law_pool_here", "_law_part_here", "_law_said", "_law_many", "_law_at", "_law_sign", "_law_some"] ["_law_pool_here", "_law_part_here"] (defScope s_l_bent) := ⟨rfl, rfl, rfl, by decide +kernel, rfl, by decide +kernel, by decide +kernel⟩
def sp_l_bent : SpT := fun ts S R _ => match ts with
  | [.cell p, x] => ∃ a b, x = frT a b ∧ Fr 200 a b ∧ PoolT S p ∧ ∀ z S', TxS 2400 z → PS S p S' → R (.str z) S'
  | _ => False
set_option maxHeartbeats 6400000 in
theorem ok_l_bent {P : Program} {w : World} {K : PySem.W.Frag} {mg : Str → Option Value} {base : Heap} {f : Addr} {fd : FuncData} {g_l_draw g_l_shown : Addr} {gd_l_draw : FuncData} {gd_l_shown : FuncData} (F : Fun K "_law_bent" "_law_bent" s_l_bent f fd)
    (n_str : mg "str" = none)
    (n_len : mg "len" = none)
    (G_l_draw : FnT P w K mg base 1 g_l_draw gd_l_draw ["_law_pool_here", "_law_most"] sp_l_draw)
    (m_l_draw : mg "_law_draw" = some (.ref g_l_draw))
    (k_l_draw : PySem.W.keepIn K (.ref g_l_draw) = true)
    (b_l_draw : Binds K gd_l_draw ["_law_pool_here", "_law_most"] [])
    (G_l_shown : FnT P w K mg base 1 g_l_shown gd_l_shown ["_law_part_here"] sp_l_shown)
    (m_l_shown : mg "_law_shown" = some (.ref g_l_shown))
    (k_l_shown : PySem.W.keepIn K (.ref g_l_shown) = true)
    (b_l_shown : Binds K gd_l_shown ["_law_part_here"] [])
    : FnT P w K mg base 2 f fd ["_law_pool_here", "_law_part_here"] sp_l_bent := by
  refine okT F sc_l_bent (by intro ts S R RE h; unfold sp_l_bent at h; split at h <;> first | rfl | exact h.elim) (fun cdv A out s H E hg hr => (bs_cons (ss_par (i := 2) (j := 3) (by rfl) sc_l_bent.nd rfl rfl (by decide) rfl rfl (at_cons (et_callD G_l_shown hg (hr.mono (by decide)) (by rfl) m_l_shown k_l_shown (CallD.all b_l_shown) (passL2N (L2N.takes_of rfl rfl rfl rfl)) (at_cons (et_var (pv 1)) at_nil)) (at_cons (et_op op_addG cv_add et_int (et_callD G_l_draw hg (hr.mono (by decide)) (by rfl) m_l_draw k_l_draw (CallD.all b_l_draw) (passL2N (L2N.takes_of rfl rfl rfl rfl)) (at_cons (et_var (pv 0)) (at_cons et_int at_nil)))) at_nil)) (by rfl))
    (bs_cons (ss_par (i := 4) (j := 5) (by rfl) sc_l_bent.nd rfl rfl (by decide) rfl rfl (at_cons (et_callD G_l_draw hg (hr.mono (by decide)) (by rfl) m_l_draw k_l_draw (CallD.all b_l_draw) (passL2N (L2N.takes_of rfl rfl rfl rfl)) (at_cons (et_var (pv 0)) (at_cons (et_op op_addG cv_add (et_blt call_len cv_len (by rfl) n_len PySem.boot_len (at_cons (et_var (pv 2)) at_nil)) et_int) at_nil))) (at_cons (et_ix ix_seq cv_ix et_str (et_callD G_l_draw hg (hr.mono (by decide)) (by rfl) m_l_draw k_l_draw (CallD.all b_l_draw) (passL2N (L2N.takes_of rfl rfl rfl rfl)) (at_cons (et_var (pv 0)) (at_cons et_int at_nil))) (fun _ _ => rfl)) at_nil)) (by rfl))
    (bs_cons (ss_set (i := 6) sc_l_bent.nd rfl (by first | exact Or.inl rfl | exact Or.inr rfl) (et_lst (at_cons (et_op op_addG cv_add (et_op op_addG cv_add (et_slice (et_var (pv 2)) ot_none (ot_some (et_var (pv 4)))) (et_var (pv 5))) (et_slice (et_var (pv 2)) (ot_some (et_var (pv 4))) ot_none)) (at_cons (et_op op_addG cv_add (et_slice (et_var (pv 2)) ot_none (ot_some (et_var (pv 4)))) (et_slice (et_var (pv 2)) (ot_some (et_op op_addG cv_add (et_var (pv 4)) et_int)) ot_none)) (at_cons (et_op op_addG cv_add (et_op op_addG cv_add (et_slice (et_var (pv 2)) ot_none (ot_some (et_var (pv 4)))) (et_var (pv 5))) (et_slice (et_var (pv 2)) (ot_some (et_op op_addG cv_add (et_var (pv 4)) et_int)) ot_none)) (at_cons (et_revS (et_var (pv 2))) at_nil))))))
    (bs_cons (ss_set (i := 6) sc_l_bent.nd rfl (by first | exact Or.inl rfl | exact Or.inr rfl) (et_op op_addG cv_add (et_var (pv 6)) (et_lst (at_cons (et_op op_addG cv_add (et_op op_addG cv_add (et_typ call_str_int cv_strI (by rfl) n_str PyProof.Rows.boot_str (at_cons (et_ix ix_seq cv_ix (et_var (pv 1)) et_int (fun _ _ => rfl)) at_nil)) et_str) (et_typ call_str_int cv_strI (by rfl) n_str PyProof.Rows.boot_str (at_cons (et_ix ix_seq cv_ix (et_var (pv 1)) et_int (fun _ _ => rfl)) at_nil))) (at_cons (et_op op_addG cv_add (et_op op_addG cv_add (et_typ call_str_int cv_strI (by rfl) n_str PyProof.Rows.boot_str (at_cons (et_ix ix_seq cv_ix (et_var (pv 1)) et_int (fun _ _ => rfl)) at_nil)) et_str) (et_typ call_str_int cv_strI (by rfl) n_str PyProof.Rows.boot_str (at_cons (et_ix ix_seq cv_ix (et_var (pv 1)) et_int (fun _ _ => rfl)) at_nil))) (at_cons (et_op op_addG cv_add (et_var (pv 2)) et_str) (at_cons (et_op op_addG cv_add et_str (et_var (pv 2))) at_nil)))))))
    (bs_cons (ss_set (i := 6) sc_l_bent.nd rfl (by first | exact Or.inl rfl | exact Or.inr rfl) (et_op op_addG cv_add (et_var (pv 6)) (et_lst (at_cons (et_op op_addG cv_add (et_op op_addG cv_add (et_typ call_str_int cv_strI (by rfl) n_str PyProof.Rows.boot_str (at_cons (et_op op_mulG cv_mul (et_ix ix_seq cv_ix (et_var (pv 1)) et_int (fun _ _ => rfl)) (et_var (pv 3))) at_nil)) et_str) (et_typ call_str_int cv_strI (by rfl) n_str PyProof.Rows.boot_str (at_cons (et_op op_mulG cv_mul (et_ix ix_seq cv_ix (et_var (pv 1)) et_int (fun _ _ => rfl)) (et_var (pv 3))) at_nil))) (at_cons (et_op op_addG cv_add (et_op op_addG cv_add (et_var (pv 2)) et_str) (et_var (pv 2))) (at_cons (et_op op_addG cv_add et_str (et_var (pv 2))) (at_cons (et_op op_addG cv_add (et_var (pv 2)) et_str) at_nil)))))))
    (bs_one (ss_ret (et_ix ix_seq cv_ix (et_var (pv 6)) (et_callD G_l_draw hg (hr.mono (by decide)) (by rfl) m_l_draw k_l_draw (CallD.all b_l_draw) (passL2N (L2N.takes_of rfl rfl rfl rfl)) (at_cons (et_var (pv 0)) (at_cons et_int at_nil))) (fun _ _ => rfl)))))))))) ?_
  intro ts S R RE h
  unfold sp_l_bent at h
  split at h
  · rename_i p x
    obtain ⟨a, b, rfl, f, hp, q⟩ := h
    have td := TxS.fr (f.up (m := 210) (by decide))
    have lD := td.l
    refine sSeq_i fun N hN => ?_
    simp only [sp_l_shown, sp_l_draw, sPar, rVar, rC, rBin, aNil, aCons, rCall, kAdd, startT, List.cons.injEq, Option.some.injEq, List.map_cons, List.map_nil, List.length_cons, List.length_nil, List.cons_append, List.nil_append, List.append_nil, List.getElem?_cons_zero, List.getElem?_cons_succ, List.set_cons_zero, List.set_cons_succ, List.replicate_succ, List.replicate_zero, exists_eq_left', exists_and_left, and_true, and_assoc, Nat.reduceAdd, Nat.reduceSub, Nat.zero_add]
    refine ⟨a, b, rfl, f.up (by decide), hp, Pn.of (by decide) (by decide), fun m S1 m0 m1 p1 => hN _ _ ?_⟩
    clear hN
    generalize frS a b = D at td lD ⊢
    have sm : ∀ n : Nat, n ≤ 10000 → n ≤ sizeLine := fun n h => by rw [sizeLine_eq]; omega
    refine sSeq_i fun N hN => ?_
    simp only [sp_l_draw, sPar, rVar, rC, rBin, aNil, aCons, rArgs, rCall, kAdd, kIx, kLen, lenT, List.cons.injEq, Option.some.injEq, List.append_nil, List.getElem?_cons_zero, List.getElem?_cons_succ, List.set_cons_zero, List.set_cons_succ, exists_eq_left', exists_and_left, and_true, and_assoc]
    refine ⟨_, if_pos (sm _ (by omega)), p1.pool, Pn.of (by omega) (by omega), fun i S2 i0 i1 p2 => ⟨p2.pool, Pn.of (by decide) (by decide), fun j S3 j0 j1 p3 => ?_⟩⟩
    have lt : j.toNat < ("0123456789/ -+.x_e," : Str).cps.toList.length := by
      have : ("0123456789/ -+.x_e," : Str).cps.toList.length = 19 := by decide
      omega
    refine ⟨by decide, _, (by rw [← Int.toNat_of_nonneg j0]; exact atI_nat (List.getElem?_eq_getElem lt)), hN _ _ ?_⟩
    clear hN
    have tg : TxS 1 (⟨#[("0123456789/ -+.x_e," : Str).cps.toList[j.toNat]'lt]⟩ : Str) := by
      refine ⟨Nat.le_refl _, fun c hc => ?_⟩
      have : c = ("0123456789/ -+.x_e," : Str).cps.toList[j.toNat]'lt := by simpa using hc
      rw [this]
      have all : (("0123456789/ -+.x_e," : Str).cps.toList.all fun c => decide (c < 16 ^ 8)) = true := by decide +kernel
      exact of_decide_eq_true (List.all_eq_true.mp all _ (List.getElem_mem lt))
    generalize (⟨#[("0123456789/ -+.x_e," : Str).cps.toList[j.toNat]'lt]⟩ : Str) = G at tg ⊢
    have lG := tg.l
    refine sSeq_i fun N hN => ?_
    simp only [rRevS, kAdd_ss, kAdd_ii, kSl_s, sAsg, rVar, rC, rBin, aNil, aCons, rLst, gNameT, rSl, oNone, oSome, T.int.injEq, T.str.injEq, Option.some.injEq, List.length_cons, List.length_nil, List.getElem?_cons_zero, List.getElem?_cons_succ, List.set_cons_zero, List.set_cons_succ, exists_eq_left', Nat.reduceAdd, Nat.zero_add]
    have t0 : ∀ lo hi, TxS 129 (cutS D lo hi) := fun lo hi => td.cut
    have z1 := (t0 none (some i)).l
    have z2 := (t0 (some i) none).l
    have z3 := (t0 (some (i + 1)) none).l
    have lc : ∀ a b : Str, (a ++ b).length = a.length + b.length := sLen0
    refine ⟨sm _ (by omega), sm _ (by omega), sm _ (by omega), sm _ (by rw [lc]; omega), sm _ (by omega), sm _ (by omega), sm _ (by omega), sm _ (by omega), sm _ (by omega), sm _ (by omega), sm _ (by rw [lc]; omega), sm _ (by omega), fun Y hY => ⟨by decide, hN _ _ ?_⟩⟩
    clear hN
    have x1 : TxS 2400 (cutS D none (some i) ++ G ++ cutS D (some i) none) := (((t0 _ _).cat tg).cat (t0 _ _)).up (by decide)
    have x2 : TxS 2400 (cutS D none (some i) ++ cutS D (some (i + 1)) none) := ((t0 _ _).cat (t0 _ _)).up (by decide)
    have x3 : TxS 2400 (cutS D none (some i) ++ G ++ cutS D (some (i + 1)) none) := (((t0 _ _).cat tg).cat (t0 _ _)).up (by decide)
    have x4 : TxS 2400 Y := ⟨by rw [hY.1]; omega, fun c hc => td.s c (hY.2 c hc)⟩
    generalize cutS D none (some i) ++ G ++ cutS D (some i) none = X1 at x1 ⊢
    generalize cutS D none (some i) ++ cutS D (some (i + 1)) none = X2 at x2 ⊢
    generalize cutS D none (some i) ++ G ++ cutS D (some (i + 1)) none = X3 at x3 ⊢
    clear z1 z2 z3 t0 hY
    have ga := TxS.num (f.a.up (m := 210) (by decide))
    have gb := TxS.num (f.b.up (m := 210) (by decide))
    have ha : (Str.ofString (toString a)).length ≤ 64 := ga.l
    have hb : (Str.ofString (toString b)).length ≤ 64 := gb.l
    have lga := lg1920 f.a (by decide)
    have lgb := lg1920 f.b (by decide)
    have lsl : ("/" : Str).length = 1 := by decide
    have ls1 : ("/1" : Str).length = 2 := by decide
    have l0 : ("0" : Str).length = 1 := by decide
    refine sSeq_i fun N hN => ?_
    simp only [frT, kAdd_ss, kAdd_ll, sAsg, rVar, rC, rBin, aNil, aCons, rLst, rArgs, gNameT, kIx, kStrI, T.int.injEq, List.cons.injEq, Option.some.injEq, List.length_cons, List.length_nil, List.cons_append, List.nil_append, List.getElem?_cons_zero, List.getElem?_cons_succ, List.set_cons_zero, List.set_cons_succ, exists_eq_left', exists_and_left, and_true, Nat.reduceAdd, Nat.zero_add, at_0, at_1]
    refine ⟨lga, sm _ (by omega), lgb, sm _ (by rw [lc]; omega), lgb, sm _ (by omega), lga, sm _ (by rw [lc]; omega), sm _ (by omega), sm _ (by omega), by decide, by decide, hN _ _ ?_⟩
    clear hN
    have pm : Pn 4 (2 + m) := Pn.of (by omega) (by omega)
    have n1 : Pn 210 (a * (2 + m)) := (f.a.mul pm).up (by decide)
    have n2 : Pn 210 (b * (2 + m)) := (f.b.mul pm).up (by decide)
    have g1 := TxS.num n1
    have g2 := TxS.num n2
    have h1 : (Str.ofString (toString (a * (2 + m)))).length ≤ 64 := g1.l
    have h2 : (Str.ofString (toString (b * (2 + m)))).length ≤ 64 := g2.l
    refine sSeq_i fun N hN => ?_
    simp only [kAdd_ss, kAdd_ll, kMul, sAsg, rVar, rC, rBin, aNil, aCons, rLst, rArgs, gNameT, kIx, kStrI, T.int.injEq, List.cons.injEq, Option.some.injEq, List.length_cons, List.length_nil, List.cons_append, List.nil_append, List.getElem?_cons_zero, List.getElem?_cons_succ, List.set_cons_zero, List.set_cons_succ, exists_eq_left', exists_and_left, and_true, and_assoc, Nat.reduceAdd, Nat.zero_add, at_0, at_1]
    refine ⟨f.a.mulW pm, lg1920 n1 (by decide), sm _ (by omega), f.b.mulW pm, lg1920 n2 (by decide), sm _ (by rw [lc]; omega), sm _ (by omega), sm _ (by rw [lc]; omega), sm _ (by omega), sm _ (by omega), by decide, by decide, hN _ _ ?_⟩
    clear hN
    have tsl : TxS 1 ("/" : Str) := TxS.of (by decide) (by decide +kernel)
    have ts1 : TxS 2 ("/1" : Str) := TxS.of (by decide) (by decide +kernel)
    have t0 : TxS 1 ("0" : Str) := TxS.of (by decide) (by decide +kernel)
    have all : ∀ x ∈ [T.str X1, T.str X2, T.str X3, T.str Y, T.str (Str.ofString (toString a) ++ Str.ofString "/" ++ Str.ofString (toString b)), T.str (Str.ofString (toString b) ++ Str.ofString "/" ++ Str.ofString (toString a)), T.str (D ++ Str.ofString "/1"), T.str (Str.ofString "0" ++ D), T.str (Str.ofString (toString (a * (2 + m))) ++ Str.ofString "/" ++ Str.ofString (toString (b * (2 + m)))), T.str (D ++ Str.ofString "/" ++ D), T.str (Str.ofString "/" ++ D), T.str (D ++ Str.ofString "/")], ∃ z, x = .str z ∧ TxS 2400 z := by
      intro x hx
      simp only [List.mem_cons, List.not_mem_nil, or_false] at hx
      rcases hx with rfl | rfl | rfl | rfl | rfl | rfl | rfl | rfl | rfl | rfl | rfl | rfl
      · exact ⟨_, rfl, x1⟩
      · exact ⟨_, rfl, x2⟩
      · exact ⟨_, rfl, x3⟩
      · exact ⟨_, rfl, x4⟩
      · exact ⟨_, rfl, ((ga.cat tsl).cat gb).up (by decide)⟩
      · exact ⟨_, rfl, ((gb.cat tsl).cat ga).up (by decide)⟩
      · exact ⟨_, rfl, (td.cat ts1).up (by decide)⟩
      · exact ⟨_, rfl, (t0.cat td).up (by decide)⟩
      · exact ⟨_, rfl, ((g1.cat tsl).cat g2).up (by decide)⟩
      · exact ⟨_, rfl, ((td.cat tsl).cat td).up (by decide)⟩
      · exact ⟨_, rfl, (tsl.cat td).up (by decide)⟩
      · exact ⟨_, rfl, (td.cat tsl).up (by decide)⟩
    generalize hL : [T.str X1, T.str X2, T.str X3, T.str Y, T.str (Str.ofString (toString a) ++ Str.ofString "/" ++ Str.ofString (toString b)), T.str (Str.ofString (toString b) ++ Str.ofString "/" ++ Str.ofString (toString a)), T.str (D ++ Str.ofString "/1"), T.str (Str.ofString "0" ++ D), T.str (Str.ofString (toString (a * (2 + m))) ++ Str.ofString "/" ++ Str.ofString (toString (b * (2 + m)))), T.str (D ++ Str.ofString "/" ++ D), T.str (Str.ofString "/" ++ D), T.str (D ++ Str.ofString "/")] = L at all ⊢
    have lL : L.length = 12 := by rw [← hL]; rfl
    clear hL
    simp only [sp_l_draw, sRet, rVar, rC, rBin, aNil, aCons, rCall, kIx, Option.some.injEq, List.append_nil, List.getElem?_cons_zero, List.getElem?_cons_succ, exists_eq_left', exists_and_left]
    refine ⟨p3.pool, Pn.of (by decide) (by decide), fun r S4 r0 r1 p4 => ?_⟩
    have lt : r.toNat < L.length := by omega
    obtain ⟨z, ez, tz⟩ := all _ (List.getElem_mem lt)
    refine ⟨_, (by rw [← Int.toNat_of_nonneg r0]; exact atI_nat (List.getElem?_eq_getElem lt)), ?_⟩
    rw [ez]
    exact q z _ tz (((p1.trans p2).trans p3).trans p4)
  · exact h.elim
/-- a text that writes no fraction; one that does -/
structure BadT (z : Str) : Prop where
  t : TxS 2400 z
  no : ∀ a b, Fr 8000 a b → z ≠ frS a b
structure GoodT (z : Str) : Prop where
  t : TxS 2400 z
  is : ∃ a b, Fr 8000 a b ∧ z = frS a b
theorem bad_l {z : Str} {l : List Nat} (e : z.cps.toList = l) (h : (decide (l.length ≤ 2400) && l.all (fun c => decide (c < 16 ^ 8)) && (rdQ l).isNone) = true) : BadT z := by
  simp only [Bool.and_eq_true, decide_eq_true_eq, List.all_eq_true] at h
  obtain ⟨⟨h1, h2⟩, h3⟩ := h
  subst e
  refine ⟨⟨by rw [Array.length_toList] at h1; exact h1, h2⟩, fun a b f => ?_⟩
  have := rdQ_none (Option.isNone_iff_eq_none.mp h3) a b f
  rwa [SX.S_tl] at this
theorem good_l {z : Str} {l : List Nat} (e : z.cps.toList = l) (h : (decide (l.length ≤ 2400) && l.all (fun c => decide (c < 16 ^ 8)) && (rdQ l).isSome) = true) : GoodT z := by
  simp only [Bool.and_eq_true, decide_eq_true_eq, List.all_eq_true] at h
  obtain ⟨⟨h1, h2⟩, h3⟩ := h
  subst e
  refine ⟨⟨by rw [Array.length_toList] at h1; exact h1, h2⟩, ?_⟩
  obtain ⟨⟨a, b⟩, e⟩ := Option.isSome_iff_exists.mp h3
  obtain ⟨f, k⟩ := rdQ_some e h1
  rw [SX.S_tl] at k
  exact ⟨a, b, f, k⟩
theorem bad_s (z : String) (h : (decide ((Str.ofString z).cps.toList.length ≤ 2400) && (Str.ofString z).cps.toList.all (fun c => decide (c < 16 ^ 8)) && (rdQ (Str.ofString z).cps.toList).isNone) = true := by decide +kernel) : BadT (Str.ofString z) := bad_l rfl h
theorem good_s (z : String) (h : (decide ((Str.ofString z).cps.toList.length ≤ 2400) && (Str.ofString z).cps.toList.all (fun c => decide (c < 16 ^ 8)) && (rdQ (Str.ofString z).cps.toList).isSome) = true := by decide +kernel) : GoodT (Str.ofString z) := good_l rfl h
theorem rep_l (z : String) (n : Nat) {l : List Nat} (e : (Str.ofString z).cps.toList = l) : (repS (Str.ofString z) n).cps.toList = (List.replicate n l).flatten := by rw [repS_tl, e]
theorem cat_l {a b : Str} {l m : List Nat} (h : a.cps.toList = l) (k : b.cps.toList = m) : (a ++ b).cps.toList = l ++ m := by
  have e : (a ++ b).cps.toList = a.cps.toList ++ b.cps.toList := TL.tl_append a b
  rw [e, h, k]
theorem sc_l_by_hand : FnScope ["_law_bad", "_law_said", "_law_good"] [] (defScope s_l_by_hand) := ⟨rfl, rfl, rfl, by decide +kernel, rfl, by decide +kernel, by decide +kernel⟩
def sp_l_hand : SpT := fun ts S R _ => match ts with
  | [] => R (.bl true) S
  | _ => False
set_option maxHeartbeats 6400000 in
theorem ok_l_by_hand {P : Program} {w : World} {K : PySem.W.Frag} {mg : Str → Option Value} {base : Heap} {f : Addr} {fd : FuncData} {g_l_read g_l_text_right g_l_parsed : Addr} {gd_l_read : FuncData} {gd_l_text_right : FuncData} {gd_l_parsed : FuncData} (F : Fun K "_law_by_hand" "_law_by_hand" s_l_by_hand f fd)
    (n_all : mg "all" = none)
    (G_l_read : FnT P w K mg base 2 g_l_read gd_l_read ["_law_text_here"] (sp_l_read K))
    (m_l_read : mg "_law_read" = some (.ref g_l_read))
    (k_l_read : PySem.W.keepIn K (.ref g_l_read) = true)
    (b_l_read : Binds K gd_l_read ["_law_text_here"] [])
    (G_l_text_right : FnT P w K mg base 9 g_l_text_right gd_l_text_right ["_law_said"] (sp_l_text K))
    (m_l_text_right : mg "_law_text_right" = some (.ref g_l_text_right))
    (k_l_text_right : PySem.W.keepIn K (.ref g_l_text_right) = true)
    (b_l_text_right : Binds K gd_l_text_right ["_law_said"] [])
    (G_l_parsed : FnT P w K mg base 8 g_l_parsed gd_l_parsed ["_law_said", "_law_by_name"] (sp_l_parsed K))
    (m_l_parsed : mg "_law_parsed" = some (.ref g_l_parsed))
    (k_l_parsed : PySem.W.keepIn K (.ref g_l_parsed) = true)
    (b_l_parsed : Binds K gd_l_parsed ["_law_said", "_law_by_name"] [])
    : FnT P w K mg base 10 f fd [] sp_l_hand := by
  refine okT F sc_l_by_hand (by intro ts S R RE h; unfold sp_l_hand at h; split at h <;> first | rfl | exact h.elim) (fun cdv A out s H E hg hr => (bs_cons (ss_set (i := 0) sc_l_by_hand.nd rfl (by first | exact Or.inl rfl | exact Or.inr rfl) (et_lst (at_cons et_str (at_cons et_str (at_cons et_str (at_cons et_str (at_cons et_str (at_cons et_str (at_cons et_str (at_cons et_str (at_cons et_str (at_cons et_str (at_cons et_str (at_cons et_str (at_cons et_str (at_cons et_str (at_cons et_str (at_cons et_str at_nil))))))))))))))))))
    (bs_cons (ss_set (i := 0) sc_l_by_hand.nd rfl (by first | exact Or.inl rfl | exact Or.inr rfl) (et_op op_addG cv_add (et_var (pv 0)) (et_lst (at_cons et_str (at_cons et_str (at_cons et_str (at_cons et_str (at_cons et_str (at_cons et_str (at_cons et_str (at_cons et_str (at_cons et_str (at_cons et_str (at_cons et_str (at_cons et_str (at_cons et_str at_nil))))))))))))))))
    (bs_cons (ss_set (i := 0) sc_l_by_hand.nd rfl (by first | exact Or.inl rfl | exact Or.inr rfl) (et_op op_addG cv_add (et_var (pv 0)) (et_lst (at_cons et_str (at_cons et_str (at_cons (et_op op_mulS cv_mulS et_str et_int) (at_cons (et_op op_addG cv_add (et_op op_addG cv_add (et_op op_mulS cv_mulS et_str et_int) et_str) (et_op op_mulS cv_mulS et_str et_int)) (at_cons (et_op op_addG cv_add et_str (et_op op_mulS cv_mulS et_str et_int)) (at_cons et_str at_nil)))))))))
    (bs_cons (ss_if (tt_not (tt_val (et_blt (cr_all (by rfl)) cv_all (by rfl) n_all (by decide +kernel) (at_cons (et_lc (x := "_law_said") (j := 1) (by rfl) sc_l_by_hand.nd (it_seq (et_var (pv 0))) (blkOk_by (own := [("_law_said", 1)]) (N := ["_law_bad", "_law_said", "_law_good"]) (sc := defScope s_l_by_hand) (by decide +kernel)) (fun _ _ _ _ _ => pg_name (i := 1) sc_l_by_hand.nd rfl (by first | exact Or.inl rfl | exact Or.inr rfl)) (fun _ _ _ _ _ => tts_nil) (fun _ _ _ _ _ => (et_and (et_cmp (op_eqP hr.units) cv_eqP (et_callD G_l_parsed hg (hr.mono (by decide)) (by rfl) m_l_parsed k_l_parsed (CallD.all b_l_parsed) passN (at_cons (et_var (pv 1)) (at_cons et_bl at_nil))) (et_lst (at_cons et_str (at_cons (et_var (pv 1)) at_nil))) (nomark _)) (et_one (et_callD G_l_text_right hg (hr.mono (by decide)) (by rfl) m_l_text_right k_l_text_right (CallD.all b_l_text_right) passN (at_cons (et_var (pv 1)) at_nil)))))) at_nil)))) (bs_one (ss_ret et_bl)) bs_nil)
    (bs_cons (ss_set (i := 2) sc_l_by_hand.nd rfl (by first | exact Or.inl rfl | exact Or.inr rfl) (et_lst (at_cons et_str (at_cons et_str (at_cons et_str (at_cons et_str (at_cons et_str (at_cons (et_op op_mulS cv_mulS et_str et_int) (at_cons (et_op op_addG cv_add et_str (et_op op_mulS cv_mulS et_str et_int)) (at_cons (et_op op_addG cv_add (et_op op_addG cv_add (et_op op_mulS cv_mulS et_str et_int) et_str) (et_op op_mulS cv_mulS et_str et_int)) at_nil))))))))))
    (bs_one (ss_ret (et_blt (cr_all (by rfl)) cv_all (by rfl) n_all (by decide +kernel) (at_cons (et_lc (x := "_law_said") (j := 1) (by rfl) sc_l_by_hand.nd (it_seq (et_var (pv 2))) (blkOk_by (own := [("_law_said", 1)]) (N := ["_law_bad", "_law_said", "_law_good"]) (sc := defScope s_l_by_hand) (by decide +kernel)) (fun _ _ _ _ _ => pg_name (i := 1) sc_l_by_hand.nd rfl (by first | exact Or.inl rfl | exact Or.inr rfl)) (fun _ _ _ _ _ => tts_nil) (fun _ _ _ _ _ => (et_and (et_callD G_l_text_right hg (hr.mono (by decide)) (by rfl) m_l_text_right k_l_text_right (CallD.all b_l_text_right) passN (at_cons (et_var (pv 1)) at_nil)) (et_one (et_cmp op_notN cv_notN (et_callD G_l_read hg (hr.mono (by decide)) (by rfl) m_l_read k_l_read (CallD.all b_l_read) passN (at_cons (et_var (pv 1)) at_nil)) et_non (nomark _)))))) at_nil)))))))))) ?_
  intro ts S R RE h
  unfold sp_l_hand at h
  split at h
  · have q := h
    refine sSeq_i fun N hN => ?_
    simp only [sAsg, rC, aNil, aCons, rLst, gNameT, startT, List.map_nil, List.length_cons, List.length_nil, List.nil_append, List.set_cons_zero, List.replicate_succ, List.replicate_zero, Nat.reduceAdd, Nat.reduceSub, Nat.zero_add]
    refine ⟨by decide, hN _ _ ?_⟩
    clear hN
    refine sSeq_i fun N hN => ?_
    simp only [sAsg, rVar, rC, rBin, aNil, aCons, rLst, gNameT, kAdd, Option.some.injEq, List.length_cons, List.length_nil, List.cons_append, List.nil_append, List.getElem?_cons_zero, List.set_cons_zero, exists_eq_left', Nat.reduceAdd, Nat.zero_add]
    repeat refine ⟨by decide, ?_⟩
    refine hN _ _ ?_
    clear hN
    have l9 : ("9" : Str).cps.toList = [57] := by decide +kernel
    have l1 : ("1" : Str).cps.toList = [49] := by decide +kernel
    have l0 : ("0" : Str).cps.toList = [48] := by decide +kernel
    have ls : ("/" : Str).cps.toList = [47] := by decide +kernel
    have l1s : ("1/" : Str).cps.toList = [49, 47] := by decide +kernel
    have b1 : BadT (repS (Str.ofString "0") (Int.toNat 2000)) := bad_l (rep_l "0" 2000 l0) (by decide +kernel)
    have b2 : BadT (repS (Str.ofString "1") (Int.toNat 999) ++ Str.ofString "/" ++ repS (Str.ofString "1") (Int.toNat 999)) := bad_l (cat_l (cat_l (rep_l "1" 999 l1) ls) (rep_l "1" 999 l1)) (by decide +kernel)
    have b3 : BadT (Str.ofString "1/" ++ repS (Str.ofString "0") (Int.toNat 99)) := bad_l (cat_l l1s (rep_l "0" 99 l0)) (by decide +kernel)
    have g1 : GoodT (repS (Str.ofString "9") (Int.toNat 2000)) := good_l (rep_l "9" 2000 l9) (by decide +kernel)
    have g2 : GoodT (Str.ofString "1/" ++ repS (Str.ofString "9") (Int.toNat 1998)) := good_l (cat_l l1s (rep_l "9" 1998 l9)) (by decide +kernel)
    have g3 : GoodT (repS (Str.ofString "1") (Int.toNat 999) ++ Str.ofString "/" ++ repS (Str.ofString "1") (Int.toNat 1000)) := good_l (cat_l (cat_l (rep_l "1" 999 l1) ls) (rep_l "1" 1000 l1)) (by decide +kernel)
    refine sSeq_i fun N hN => ?_
    simp only [kMulS, kAdd_ss, kAdd_ll, sAsg, rVar, rC, rBin, aNil, aCons, rLst, gNameT, T.int.injEq, T.str.injEq, Option.some.injEq, List.length_cons, List.length_nil, List.cons_append, List.nil_append, List.getElem?_cons_zero, List.set_cons_zero, exists_eq_left', exists_and_left, Nat.reduceAdd, Nat.zero_add]
    have r1 : TxS 999 (repS (Str.ofString "1") (Int.toNat 999)) := (TxS.of (n := 1) (by decide) (by decide +kernel) : TxS 1 (Str.ofString "1")).rep 999
    have r2 : TxS 99 (repS (Str.ofString "0") (Int.toNat 99)) := (TxS.of (n := 1) (by decide) (by decide +kernel) : TxS 1 (Str.ofString "0")).rep 99
    have r3 : TxS 1998 (repS (Str.ofString "9") (Int.toNat 1998)) := (TxS.of (n := 1) (by decide) (by decide +kernel) : TxS 1 (Str.ofString "9")).rep 1998
    have r4 : TxS 1000 (repS (Str.ofString "1") (Int.toNat 1000)) := (TxS.of (n := 1) (by decide) (by decide +kernel) : TxS 1 (Str.ofString "1")).rep 1000
    have m1 := r1.l
    have m2 := r2.l
    have m3 := r3.l
    have m4 := r4.l
    have lc : ∀ a b : Str, (a ++ b).length = a.length + b.length := sLen0
    have lsl : ("/" : Str).length = 1 := by decide
    have l1l : ("1/" : Str).length = 2 := by decide
    have sm : ∀ n : Nat, n ≤ 10000 → n ≤ sizeLine := fun n h => by rw [sizeLine_eq]; omega
    refine ⟨by decide, by decide, by decide, by decide, by decide, by decide, by decide, by decide, sm _ (by omega), by decide, by decide, by decide, by decide, sm _ (by rw [lc]; omega), by decide, by decide, by decide, by decide, sm _ (by omega), by decide, by decide, hN _ _ ?_⟩
    clear hN
    generalize repS (Str.ofString "0") (Int.toNat 2000) = Z1 at b1 ⊢
    generalize repS (Str.ofString "1") (Int.toNat 999) ++ Str.ofString "/" ++ repS (Str.ofString "1") (Int.toNat 999) = Z2 at b2 ⊢
    generalize Str.ofString "1/" ++ repS (Str.ofString "0") (Int.toNat 99) = Z3 at b3 ⊢
    have rows : ∀ x ∈ [T.str (Str.ofString ""), T.str (Str.ofString "0"), T.str (Str.ofString "1/0"), T.str (Str.ofString "0/1"), T.str (Str.ofString "01"), T.str (Str.ofString "1/02"), T.str (Str.ofString "2/4"), T.str (Str.ofString "3/1"), T.str (Str.ofString "1/1"), T.str (Str.ofString "-1"), T.str (Str.ofString "+1"), T.str (Str.ofString " 1"), T.str (Str.ofString "1 "), T.str (Str.ofString "1/ 2"), T.str (Str.ofString "1//2"), T.str (Str.ofString "/2"), T.str (Str.ofString "1/"), T.str (Str.ofString "1/2/3"), T.str (Str.ofString "1.5"), T.str (Str.ofString "1e3"), T.str (Str.ofString "a"), T.str (Str.ofString "1x2"), T.str (Str.ofString "1_000"), T.str (Str.ofString "0x10"), T.str (Str.ofString "1/-2"), T.str (Str.ofString "-1/2"), T.str (Str.ofString "(1, 2)"), T.str (Str.ofString "1,000"), T.str (Str.ofString "1 /2"), T.str (Str.ofString "/"), T.str (Str.ofString "00"), T.str Z1, T.str Z2, T.str Z3, T.str (Str.ofString " ")], ∃ z, x = .str z ∧ BadT z := by
      refine List.forall_mem_cons.mpr ⟨⟨_, rfl, bad_s ""⟩, ?_⟩
      refine List.forall_mem_cons.mpr ⟨⟨_, rfl, bad_s "0"⟩, ?_⟩
      refine List.forall_mem_cons.mpr ⟨⟨_, rfl, bad_s "1/0"⟩, ?_⟩
      refine List.forall_mem_cons.mpr ⟨⟨_, rfl, bad_s "0/1"⟩, ?_⟩
      refine List.forall_mem_cons.mpr ⟨⟨_, rfl, bad_s "01"⟩, ?_⟩
      refine List.forall_mem_cons.mpr ⟨⟨_, rfl, bad_s "1/02"⟩, ?_⟩
      refine List.forall_mem_cons.mpr ⟨⟨_, rfl, bad_s "2/4"⟩, ?_⟩
      refine List.forall_mem_cons.mpr ⟨⟨_, rfl, bad_s "3/1"⟩, ?_⟩
      refine List.forall_mem_cons.mpr ⟨⟨_, rfl, bad_s "1/1"⟩, ?_⟩
      refine List.forall_mem_cons.mpr ⟨⟨_, rfl, bad_s "-1"⟩, ?_⟩
      refine List.forall_mem_cons.mpr ⟨⟨_, rfl, bad_s "+1"⟩, ?_⟩
      refine List.forall_mem_cons.mpr ⟨⟨_, rfl, bad_s " 1"⟩, ?_⟩
      refine List.forall_mem_cons.mpr ⟨⟨_, rfl, bad_s "1 "⟩, ?_⟩
      refine List.forall_mem_cons.mpr ⟨⟨_, rfl, bad_s "1/ 2"⟩, ?_⟩
      refine List.forall_mem_cons.mpr ⟨⟨_, rfl, bad_s "1//2"⟩, ?_⟩
      refine List.forall_mem_cons.mpr ⟨⟨_, rfl, bad_s "/2"⟩, ?_⟩
      refine List.forall_mem_cons.mpr ⟨⟨_, rfl, bad_s "1/"⟩, ?_⟩
      refine List.forall_mem_cons.mpr ⟨⟨_, rfl, bad_s "1/2/3"⟩, ?_⟩
      refine List.forall_mem_cons.mpr ⟨⟨_, rfl, bad_s "1.5"⟩, ?_⟩
      refine List.forall_mem_cons.mpr ⟨⟨_, rfl, bad_s "1e3"⟩, ?_⟩
      refine List.forall_mem_cons.mpr ⟨⟨_, rfl, bad_s "a"⟩, ?_⟩
      refine List.forall_mem_cons.mpr ⟨⟨_, rfl, bad_s "1x2"⟩, ?_⟩
      refine List.forall_mem_cons.mpr ⟨⟨_, rfl, bad_s "1_000"⟩, ?_⟩
      refine List.forall_mem_cons.mpr ⟨⟨_, rfl, bad_s "0x10"⟩, ?_⟩
      refine List.forall_mem_cons.mpr ⟨⟨_, rfl, bad_s "1/-2"⟩, ?_⟩
      refine List.forall_mem_cons.mpr ⟨⟨_, rfl, bad_s "-1/2"⟩, ?_⟩
      refine List.forall_mem_cons.mpr ⟨⟨_, rfl, bad_s "(1, 2)"⟩, ?_⟩
      refine List.forall_mem_cons.mpr ⟨⟨_, rfl, bad_s "1,000"⟩, ?_⟩
      refine List.forall_mem_cons.mpr ⟨⟨_, rfl, bad_s "1 /2"⟩, ?_⟩
      refine List.forall_mem_cons.mpr ⟨⟨_, rfl, bad_s "/"⟩, ?_⟩
      refine List.forall_mem_cons.mpr ⟨⟨_, rfl, bad_s "00"⟩, ?_⟩
      refine List.forall_mem_cons.mpr ⟨⟨_, rfl, b1⟩, ?_⟩
      refine List.forall_mem_cons.mpr ⟨⟨_, rfl, b2⟩, ?_⟩
      refine List.forall_mem_cons.mpr ⟨⟨_, rfl, b3⟩, ?_⟩
      exact List.forall_mem_cons.mpr ⟨⟨_, rfl, bad_s " "⟩, fun _ m => nomatch m⟩
    generalize hl : [T.str (Str.ofString ""), T.str (Str.ofString "0"), T.str (Str.ofString "1/0"), T.str (Str.ofString "0/1"), T.str (Str.ofString "01"), T.str (Str.ofString "1/02"), T.str (Str.ofString "2/4"), T.str (Str.ofString "3/1"), T.str (Str.ofString "1/1"), T.str (Str.ofString "-1"), T.str (Str.ofString "+1"), T.str (Str.ofString " 1"), T.str (Str.ofString "1 "), T.str (Str.ofString "1/ 2"), T.str (Str.ofString "1//2"), T.str (Str.ofString "/2"), T.str (Str.ofString "1/"), T.str (Str.ofString "1/2/3"), T.str (Str.ofString "1.5"), T.str (Str.ofString "1e3"), T.str (Str.ofString "a"), T.str (Str.ofString "1x2"), T.str (Str.ofString "1_000"), T.str (Str.ofString "0x10"), T.str (Str.ofString "1/-2"), T.str (Str.ofString "-1/2"), T.str (Str.ofString "(1, 2)"), T.str (Str.ofString "1,000"), T.str (Str.ofString "1 /2"), T.str (Str.ofString "/"), T.str (Str.ofString "00"), T.str Z1, T.str Z2, T.str Z3, T.str (Str.ofString " ")] = l at rows ⊢
    have ll : l.length = 35 := by rw [← hl]; rfl
    clear hl
    refine sSeq_i fun N hN => sIf_i fun A B hA hB => ?_
    simp only [rVar, rTest, bNot, aNil, aCons, rArgs, iSeq, rLc, kAll, seqOf, T.bl.injEq, T.lst.injEq, List.cons.injEq, Option.some.injEq, List.getElem?_cons_zero, List.set_cons_zero, List.set_cons_succ, exists_eq_left', and_true]
    refine rComp_all (fun _ S2 => S2 = S) (fun _ _ y => y = .bl true) rfl (by rw [ll, sizeLine_eq]; decide) ?_ ?_
    · rintro i t' S7 hi' rfl N3 hN3
      obtain ⟨z, rfl, bz⟩ := rows t' (List.mem_of_getElem? hi')
      simp only [sp_l_parsed, sp_l_text, rVar, rC, rBin, vAnd, aNil, aCons, rLst, rCall, Option.some.injEq, List.length_cons, List.length_nil, List.append_nil, List.getElem?_cons_zero, List.getElem?_cons_succ, exists_eq_left', Nat.reduceAdd, Nat.zero_add]
      refine ⟨bz.t.l, .inr ⟨bz.no, by decide, ?_⟩⟩
      refine eqP_same (x := .lst [.str "none", .str z]) (by simp [T.dat, T.datL]; rfl) (by simp [PyData.depth, PyData.depthAll]) ⟨_, rfl, ?_⟩
      rw [if_pos (by decide)]
      exact ⟨bz.t, hN3 _ _ rfl rfl⟩
    rintro bs S7 hbs hG rfl
    obtain ⟨a1, a2⟩ := allT hbs hG
    refine ⟨_, a1, ?_⟩
    rw [a2, if_neg (by decide)]
    refine hB _ (hN _ _ ?_)
    clear hN hA hB hG hbs a1 a2
    refine sSeq_i fun N hN => ?_
    simp only [kMulS, kAdd_ss, sAsg, rC, rBin, aNil, aCons, rLst, gNameT, T.int.injEq, T.str.injEq, List.length_cons, List.length_nil, List.set_cons_zero, List.set_cons_succ, exists_eq_left', exists_and_left, Nat.reduceAdd, Nat.zero_add]
    refine ⟨by decide, by decide, by decide, by decide, by decide, by decide, by decide, by decide, sm _ (by omega), by decide, by decide, by decide, by decide, sm _ (by omega), by decide, by decide, by decide, by decide, sm _ (by rw [lc]; omega), by decide, hN _ _ ?_⟩
    clear hN
    generalize repS (Str.ofString "9") (Int.toNat 2000) = Y1 at g1 ⊢
    generalize Str.ofString "1/" ++ repS (Str.ofString "9") (Int.toNat 1998) = Y2 at g2 ⊢
    generalize repS (Str.ofString "1") (Int.toNat 999) ++ Str.ofString "/" ++ repS (Str.ofString "1") (Int.toNat 1000) = Y3 at g3 ⊢
    have rows2 : ∀ x ∈ [T.str (Str.ofString "1"), T.str (Str.ofString "10"), T.str (Str.ofString "1/2"), T.str (Str.ofString "3/2"), T.str (Str.ofString "10/3"), T.str Y1, T.str Y2, T.str Y3], ∃ z, x = .str z ∧ GoodT z := by
      refine List.forall_mem_cons.mpr ⟨⟨_, rfl, good_s "1"⟩, ?_⟩
      refine List.forall_mem_cons.mpr ⟨⟨_, rfl, good_s "10"⟩, ?_⟩
      refine List.forall_mem_cons.mpr ⟨⟨_, rfl, good_s "1/2"⟩, ?_⟩
      refine List.forall_mem_cons.mpr ⟨⟨_, rfl, good_s "3/2"⟩, ?_⟩
      refine List.forall_mem_cons.mpr ⟨⟨_, rfl, good_s "10/3"⟩, ?_⟩
      refine List.forall_mem_cons.mpr ⟨⟨_, rfl, g1⟩, ?_⟩
      refine List.forall_mem_cons.mpr ⟨⟨_, rfl, g2⟩, ?_⟩
      exact List.forall_mem_cons.mpr ⟨⟨_, rfl, g3⟩, fun _ m => nomatch m⟩
    generalize hl : [T.str (Str.ofString "1"), T.str (Str.ofString "10"), T.str (Str.ofString "1/2"), T.str (Str.ofString "3/2"), T.str (Str.ofString "10/3"), T.str Y1, T.str Y2, T.str Y3] = l2 at rows2 ⊢
    have l8 : l2.length = 8 := by rw [← hl]; rfl
    clear hl
    simp only [sRet, rVar, aNil, aCons, rArgs, iSeq, rLc, kAll, seqOf, T.lst.injEq, List.cons.injEq, Option.some.injEq, List.getElem?_cons_zero, List.getElem?_cons_succ, List.set_cons_zero, List.set_cons_succ, exists_eq_left', and_true]
    refine rComp_all (fun _ S2 => S2 = S7) (fun _ _ y => y = .bl true) rfl (by rw [l8, sizeLine_eq]; decide) ?_ ?_
    · rintro i t' S8 hi' rfl N3 hN3
      obtain ⟨z, rfl, gz⟩ := rows2 t' (List.mem_of_getElem? hi')
      obtain ⟨a, b, f, e⟩ := gz.is
      simp only [sp_l_text, sp_l_read, rVar, rC, rBin, vAnd, aNil, aCons, rCall, T.bl.injEq, Option.some.injEq, List.append_nil, List.getElem?_cons_zero, List.getElem?_cons_succ, exists_eq_left', reduceIte]
      exact ⟨gz.t, gz.t.l, .inl ⟨a, b, f, e, rfl, hN3 _ _ rfl rfl⟩⟩
    rintro bs S8 hbs hG rfl
    obtain ⟨a1, a2⟩ := allT hbs hG
    refine ⟨_, a1, ?_⟩
    rw [a2]
    exact q
  · exact h.elim
theorem sc_l_right : FnScope ["_law_pool_here", "_law_turn", "_law_part_here", "_law_go"] ["_law_pool_here"] (defScope s_l_right) := ⟨rfl, rfl, rfl, by decide +kernel, rfl, by decide +kernel, by decide +kernel⟩
def sp_l_right5 : SpT := fun ts S R _ => match ts with
  | [.cell p] => PoolT S p ∧ ∀ S', R (.bl true) S'
  | _ => False
set_option maxHeartbeats 3200000 in
theorem ok_l_right {P : Program} {w : World} {K : PySem.W.Frag} {mg : Str → Option Value} {base : Heap} {f : Addr} {fd : FuncData} {g_l_text_right g_l_bent g_l_part_right g_l_part : Addr} {gd_l_text_right : FuncData} {gd_l_bent : FuncData} {gd_l_part_right : FuncData} {gd_l_part : FuncData} (F : Fun K "_law_right" "_law_right" s_l_right f fd)
    (n_range : mg "range" = none)
    (n_all : mg "all" = none)
    (G_l_text_right : FnT P w K mg base 9 g_l_text_right gd_l_text_right ["_law_said"] (sp_l_text K))
    (m_l_text_right : mg "_law_text_right" = some (.ref g_l_text_right))
    (k_l_text_right : PySem.W.keepIn K (.ref g_l_text_right) = true)
    (b_l_text_right : Binds K gd_l_text_right ["_law_said"] [])
    (G_l_bent : FnT P w K mg base 2 g_l_bent gd_l_bent ["_law_pool_here", "_law_part_here"] sp_l_bent)
    (m_l_bent : mg "_law_bent" = some (.ref g_l_bent))
    (k_l_bent : PySem.W.keepIn K (.ref g_l_bent) = true)
    (b_l_bent : Binds K gd_l_bent ["_law_pool_here", "_law_part_here"] [])
    (G_l_part_right : FnT P w K mg base 8 g_l_part_right gd_l_part_right ["_law_part_here"] (sp_l_pr K))
    (m_l_part_right : mg "_law_part_right" = some (.ref g_l_part_right))
    (k_l_part_right : PySem.W.keepIn K (.ref g_l_part_right) = true)
    (b_l_part_right : Binds K gd_l_part_right ["_law_part_here"] [])
    (G_l_part : FnT P w K mg base 2 g_l_part gd_l_part ["_law_pool_here", "_law_great"] sp_l_part)
    (m_l_part : mg "_law_part" = some (.ref g_l_part))
    (k_l_part : PySem.W.keepIn K (.ref g_l_part) = true)
    (b_l_part : Binds K gd_l_part ["_law_pool_here", "_law_great"] [])
    : FnT P w K mg base 10 f fd ["_law_pool_here"] sp_l_right5 := by
  refine okT F sc_l_right (by intro ts S R RE h; unfold sp_l_right5 at h; split at h <;> first | rfl | exact h.elim) (fun cdv A out s H E hg hr => (bs_cons (ss_for (passes_of rfl) rfl (it_range1 (by rfl) n_range (at_cons et_int at_nil)) (gt_name (pg_name (i := 1) sc_l_right.nd rfl (by first | exact Or.inl rfl | exact Or.inr rfl))) (bs_cons (ss_set (i := 2) sc_l_right.nd rfl (by first | exact Or.inl rfl | exact Or.inr rfl) (et_callD G_l_part hg (hr.mono (by decide)) (by rfl) m_l_part k_l_part (CallD.all b_l_part) (passL2N (L2N.takes_of rfl rfl rfl rfl)) (at_cons (et_var (pv 0)) (at_cons et_bl at_nil))))
    (bs_cons (ss_if (tt_w (tw_or (tt_not (tt_val (et_callD G_l_part_right hg (hr.mono (by decide)) (by rfl) m_l_part_right k_l_part_right (CallD.all b_l_part_right) (passL2N (L2N.takes_of rfl rfl rfl rfl)) (at_cons (et_var (pv 2)) at_nil)))) (tw_or1 (tt_not (tt_val (et_callD G_l_part_right hg (hr.mono (by decide)) (by rfl) m_l_part_right k_l_part_right (CallD.all b_l_part_right) (passL2N (L2N.takes_of rfl rfl rfl rfl)) (at_cons (et_rev2 (et_var (pv 2))) at_nil))))))) (bs_one (ss_ret et_bl)) bs_nil)
    (bs_one (ss_if (tt_not (tt_val (et_blt (cr_all (by rfl)) cv_all (by rfl) n_all (by decide +kernel) (at_cons (et_lc (x := "_law_go") (j := 3) (by rfl) sc_l_right.nd (it_range1 (by rfl) n_range (at_cons et_int at_nil)) (blkOk_by (own := [("_law_go", 3)]) (N := ["_law_pool_here", "_law_turn", "_law_part_here", "_law_go"]) (sc := defScope s_l_right) (by decide +kernel)) (fun _ _ _ _ _ => pg_name (i := 3) sc_l_right.nd rfl (by first | exact Or.inl rfl | exact Or.inr rfl)) (fun _ _ _ _ _ => tts_nil) (fun _ _ _ _ _ => (et_callD G_l_text_right hg (hr.mono (by decide)) (by rfl) m_l_text_right k_l_text_right (CallD.all b_l_text_right) passN (at_cons (et_callD G_l_bent hg (hr.mono (by decide)) (by rfl) m_l_bent k_l_bent (CallD.all b_l_bent) passN (at_cons (et_var (pv 0)) (at_cons (et_var (pv 2)) at_nil))) at_nil)))) at_nil)))) (bs_one (ss_ret et_bl)) bs_nil)))))
    (bs_one (ss_ret et_bl)))) ?_
  intro ts S R RE h
  unfold sp_l_right5 at h
  split at h
  · rename_i p
    obtain ⟨hp, q⟩ := h
    refine sSeq_i fun N hN => ?_
    simp only [sFor, rC, aNil, aCons, iRng1T, startT, T.int.injEq, List.cons.injEq, List.map_cons, List.map_nil, List.length_cons, List.length_nil, List.cons_append, List.nil_append, List.replicate_succ, List.replicate_zero, exists_eq_left', and_true, Nat.reduceAdd, Nat.reduceSub, Nat.zero_add]
    refine ⟨by decide, by decide, ?_⟩
    refine rLoop_inv (fun _ σ S' => PoolT S' p ∧ ∃ v : List (Option T), σ = some (.cell p) :: v ∧ v.length = 3) ⟨hp, _, by rfl, by rfl⟩ ?_ ?_
    · rintro i t σ S' hi ⟨hp', v, rfl, hv⟩ N2 hN2
      match v, hv with
      | [v1, v2, v3], _ =>
      show sSeq _ _ _ _ _
      refine sSeq_i fun N hN => ?_
      simp only [sp_l_part, sAsg, rVar, rC, aNil, aCons, gNameT, rCall, Option.some.injEq, List.append_nil, List.getElem?_cons_zero, List.set_cons_zero, List.set_cons_succ, exists_eq_left']
      refine ⟨hp', fun a b S1 f p1 => hN _ _ ?_⟩
      clear hN
      refine sSeq_i fun N hN => sIf_i fun A B hA hB => ?_
      simp only [frT, sp_l_pr, rVar, rTest, bOr, bNot, aNil, aCons, rCall, rRev2, T.int.injEq, T.bl.injEq, T.tup.injEq, List.cons.injEq, Option.some.injEq, List.append_nil, List.getElem?_cons_zero, List.getElem?_cons_succ, exists_eq_left', exists_and_left, and_true, and_assoc, reduceIte, Bool.false_eq_true, Bool.not_true]
      refine ⟨f.up (by decide), ⟨f.b.up (by decide), f.a.up (by decide), by rw [gcdI_comm]; exact f.g⟩, ?_⟩
      refine hB _ (hN _ _ ?_)
      clear hN hA hB
      refine sIf_i fun A B hA hB => ?_
      simp only [rC, rTest, bNot, aNil, aCons, rArgs, iRng1T, rLc, kAll, T.int.injEq, T.bl.injEq, T.lst.injEq, List.cons.injEq, List.set_cons_zero, List.set_cons_succ, exists_eq_left', and_true]
      refine ⟨by decide, by decide, ?_⟩
      refine rComp_all (fun _ S2 => PoolT S2 p) (fun _ _ y => y = .bl true) p1.pool (by rw [sizeLine_eq]; decide) ?_ ?_
      · rintro i2 t' S7 hi' h7 N3 hN3
        simp only [sp_l_bent, sp_l_text, rVar, aNil, aCons, rCall, Option.some.injEq, List.append_nil, List.getElem?_cons_zero, List.getElem?_cons_succ, exists_eq_left']
        exact ⟨a, b, rfl, f.up (by decide), h7, fun z S8 tz p8 => ⟨tz, hN3 _ _ rfl p8.pool⟩⟩
      rintro bs S2 hbs hG h2
      obtain ⟨a1, a2⟩ := allT hbs hG
      refine ⟨_, a1, ?_⟩
      rw [a2, if_neg (by decide)]
      exact hB _ (hN2 _ _ ⟨h2, _, rfl, rfl⟩)
    · rintro σ S' ⟨hp', v, rfl, hv⟩
      refine hN _ _ ?_
      simp only [sRet, rC]
      exact q _
  · exact h.elim
theorem sc_law : FnScope ["_law_script", "_law_k"] ["_law_script"] (defScope s_law) := ⟨rfl, rfl, rfl, by decide +kernel, rfl, by decide +kernel, by decide +kernel⟩

theorem ok_law {P : Program} {w : World} {K : PySem.W.Frag} {mg : Str → Option Value} {base : Heap} {f : Addr} {fd : FuncData} {g_l_right g_l_pool g_l_cell g_l_by_hand : Addr} {gd_l_right : FuncData} {gd_l_pool : FuncData} {gd_l_cell : FuncData} {gd_l_by_hand : FuncData} (F : Fun K "law" "law" s_law f fd)
    (n_range : mg "range" = none)
    (n_len : mg "len" = none)
    (n_min : mg "min" = none)
    (n_max : mg "max" = none)
    (n_all : mg "all" = none)
    (G_l_right : FnT P w K mg base 10 g_l_right gd_l_right ["_law_pool_here"] sp_l_right5)
    (m_l_right : mg "_law_right" = some (.ref g_l_right))
    (k_l_right : PySem.W.keepIn K (.ref g_l_right) = true)
    (b_l_right : Binds K gd_l_right ["_law_pool_here"] [])
    (G_l_pool : FnT P w K mg base 1 g_l_pool gd_l_pool ["_law_figure"] sp_l_pool)
    (m_l_pool : mg "_law_pool" = some (.ref g_l_pool))
    (k_l_pool : PySem.W.keepIn K (.ref g_l_pool) = true)
    (b_l_pool : Binds K gd_l_pool ["_law_figure"] [])
    (G_l_cell : FnT P w K mg base 1 g_l_cell gd_l_cell ["_law_script", "_law_k"] sp_l_cell)
    (m_l_cell : mg "_law_cell" = some (.ref g_l_cell))
    (k_l_cell : PySem.W.keepIn K (.ref g_l_cell) = true)
    (b_l_cell : Binds K gd_l_cell ["_law_script", "_law_k"] [])
    (G_l_by_hand : FnT P w K mg base 10 g_l_by_hand gd_l_by_hand [] sp_l_hand)
    (m_l_by_hand : mg "_law_by_hand" = some (.ref g_l_by_hand))
    (k_l_by_hand : PySem.W.keepIn K (.ref g_l_by_hand) = true)
    (b_l_by_hand : Binds K gd_l_by_hand [] [])
    : FnT P w K mg base 11 f fd ["_law_script"] (sp_lawT T0) := by
  refine okT F sc_law (by intro ts S R RE h; unfold sp_lawT at h; split at h <;> first | rfl | exact h.elim) (fun cdv A out s H E hg hr => (bs_cons (ss_if (tt_not (tt_val (et_call0D G_l_by_hand hg (hr.mono (by decide)) (by rfl) m_l_by_hand k_l_by_hand (CallD.all b_l_by_hand) (passL2N (L2N.takes_of rfl rfl rfl rfl))))) (bs_one (ss_ret et_bl)) bs_nil)
    (bs_one (ss_ret (et_blt (cr_all (by rfl)) cv_all (by rfl) n_all (by decide +kernel) (at_cons (et_lc (x := "_law_k") (j := 1) (by rfl) sc_law.nd (it_range1 (by rfl) n_range (at_cons (et_blt (call_max2 (by rfl)) cv_A2 (by rfl) n_max (by decide +kernel) (at_cons et_int (at_cons (et_blt (call_min2 (by rfl)) cv_A2 (by rfl) n_min (by decide +kernel) (at_cons (et_blt call_len cv_len (by rfl) n_len PySem.boot_len (at_cons (et_var (pv 0)) at_nil)) (at_cons et_int at_nil))) at_nil))) at_nil)) (blkOk_by (own := [("_law_k", 1)]) (N := ["_law_script", "_law_k"]) (sc := defScope s_law) (by decide +kernel)) (fun _ _ _ _ _ => pg_name (i := 1) sc_law.nd rfl (by first | exact Or.inl rfl | exact Or.inr rfl)) (fun _ _ _ _ _ => tts_nil) (fun _ _ _ _ _ => (et_callD G_l_right hg (hr.mono (by decide)) (by rfl) m_l_right k_l_right (CallD.all b_l_right) passN (at_cons (et_callD G_l_pool hg (hr.mono (by decide)) (by rfl) m_l_pool k_l_pool (CallD.all b_l_pool) passN (at_cons (et_callD G_l_cell hg (hr.mono (by decide)) (by rfl) m_l_cell k_l_cell (CallD.all b_l_cell) passN (at_cons (et_var (pv 0)) (at_cons (et_var (pv 1)) at_nil))) at_nil)) at_nil)))) at_nil)))))) ?_
  intro ts S R RE h
  unfold sp_lawT at h
  split at h
  · rename_i l
    obtain ⟨⟨ns, rfl, h63⟩, tin, q⟩ := h
    refine sSeq_i fun N hN => ?_
    simp only [sp_l_hand, sRet, sIf, sNext, rC, rTest, bNot, aNil, rCall, startT, T.bl.injEq, List.map_cons, List.map_nil, List.length_cons, List.length_nil, List.cons_append, List.nil_append, List.append_nil, List.replicate_succ, List.replicate_zero, exists_eq_left', Nat.reduceAdd, Nat.reduceSub, Nat.zero_add, reduceIte, Bool.false_eq_true, Bool.not_true]
    refine hN _ _ ?_
    clear hN
    simp only [sRet, rVar, rC, aNil, aCons, rArgs, iRng1T, rLc, kLen, kA2, kAll, lenT, T.int.injEq, T.lst.injEq, List.cons.injEq, Option.some.injEq, List.getElem?_cons_zero, List.set_cons_zero, List.set_cons_succ, exists_eq_left', exists_and_left, and_true, and_assoc]
    have hl : 0 ≤ (((ns.map T.int).length : Nat) : Int) ∧ (((ns.map T.int).length : Nat) : Int) ≤ 63 := by rw [List.length_map]; omega
    have rg := range_le (n := (((ns.map T.int).length : Nat) : Int)) (k := 5) hl (by decide)
    generalize (((ns.map T.int).length : Nat) : Int) = n at rg ⊢
    generalize (if (if n < 5 then n else 5) > 2 then (if n < 5 then n else 5) else 2) = m at rg ⊢
    refine ⟨by omega, by omega, ?_⟩
    refine law_cells (spR := sp_l_right5) (i := 0) (j := 1) h63 ⟨by omega, by omega⟩ (fun _ => rfl) (fun _ => rfl) (fun p S hp N hN => ⟨hp, hN⟩) q
  · exact h.elim
set_option maxHeartbeats 0 in
theorem all_mk {l : PySem.W.OpenLaw} {w : World} {q : Program} {loose : List Str} {mean : ExcName → Option Value} {K : PySem.W.Frag} {h : Heap} {mg mb : Str → Option Value} {fa : Addr} (TP : Top q loose mean mg mb h) (HT : ∀ P ∈ [], h.get? P = some (PySem.W.tabObj #[])) (X : K.In h) (G : h.Ns mainGlobals mg) (hfa : mg "law" = some (.ref fa))
    {f_common_divisor : Addr} {od_common_divisor an_common_divisor : Option Addr} {sl_common_divisor : Array (Option Value)} {oc_common_divisor kV_common_divisor dc_common_divisor pm_common_divisor cd_common_divisor ct_common_divisor : Value}
    {f_is_integer : Addr} {od_is_integer an_is_integer : Option Addr} {sl_is_integer : Array (Option Value)} {oc_is_integer kV_is_integer dc_is_integer pm_is_integer cd_is_integer ct_is_integer : Value}
    {f_is_positive : Addr} {od_is_positive an_is_positive : Option Addr} {sl_is_positive : Array (Option Value)} {oc_is_positive kV_is_positive dc_is_positive pm_is_positive cd_is_positive ct_is_positive : Value}
    {f_l_cell : Addr} {od_l_cell an_l_cell : Option Addr} {sl_l_cell : Array (Option Value)} {oc_l_cell kV_l_cell dc_l_cell pm_l_cell cd_l_cell ct_l_cell : Value}
    {f_l_pool : Addr} {od_l_pool an_l_pool : Option Addr} {sl_l_pool : Array (Option Value)} {oc_l_pool kV_l_pool dc_l_pool pm_l_pool cd_l_pool ct_l_pool : Value}
    {f_l_draw : Addr} {od_l_draw an_l_draw : Option Addr} {sl_l_draw : Array (Option Value)} {oc_l_draw kV_l_draw dc_l_draw pm_l_draw cd_l_draw ct_l_draw : Value}
    {f_l_low : Addr} {od_l_low an_l_low : Option Addr} {sl_l_low : Array (Option Value)} {oc_l_low kV_l_low dc_l_low pm_l_low cd_l_low ct_l_low : Value}
    {f_is_fraction : Addr} {od_is_fraction an_is_fraction : Option Addr} {sl_is_fraction : Array (Option Value)} {oc_is_fraction kV_is_fraction dc_is_fraction pm_is_fraction cd_is_fraction ct_is_fraction : Value}
    {f_check_fractions : Addr} {od_check_fractions an_check_fractions : Option Addr} {sl_check_fractions : Array (Option Value)} {oc_check_fractions kV_check_fractions dc_check_fractions pm_check_fractions cd_check_fractions ct_check_fractions : Value}
    {f_format_fraction : Addr} {od_format_fraction an_format_fraction : Option Addr} {sl_format_fraction : Array (Option Value)} {oc_format_fraction kV_format_fraction dc_format_fraction pm_format_fraction cd_format_fraction ct_format_fraction : Value}
    {f_is_numeral : Addr} {od_is_numeral an_is_numeral : Option Addr} {sl_is_numeral : Array (Option Value)} {oc_is_numeral kV_is_numeral dc_is_numeral pm_is_numeral cd_is_numeral ct_is_numeral : Value}
    {f_find_fraction : Addr} {od_find_fraction an_find_fraction : Option Addr} {sl_find_fraction : Array (Option Value)} {oc_find_fraction kV_find_fraction dc_find_fraction pm_find_fraction cd_find_fraction ct_find_fraction : Value}
    {f_parse_fraction : Addr} {od_parse_fraction an_parse_fraction : Option Addr} {sl_parse_fraction : Array (Option Value)} {oc_parse_fraction kV_parse_fraction dc_parse_fraction pm_parse_fraction cd_parse_fraction ct_parse_fraction : Value}
    {f_l_parsed : Addr} {od_l_parsed an_l_parsed : Option Addr} {sl_l_parsed : Array (Option Value)} {oc_l_parsed kV_l_parsed dc_l_parsed pm_l_parsed cd_l_parsed ct_l_parsed : Value}
    {f_l_part : Addr} {od_l_part an_l_part : Option Addr} {sl_l_part : Array (Option Value)} {oc_l_part kV_l_part dc_l_part pm_l_part cd_l_part ct_l_part : Value}
    {f_l_read : Addr} {od_l_read an_l_read : Option Addr} {sl_l_read : Array (Option Value)} {oc_l_read kV_l_read dc_l_read pm_l_read cd_l_read ct_l_read : Value}
    {f_l_shown : Addr} {od_l_shown an_l_shown : Option Addr} {sl_l_shown : Array (Option Value)} {oc_l_shown kV_l_shown dc_l_shown pm_l_shown cd_l_shown ct_l_shown : Value}
    {f_l_text_right : Addr} {od_l_text_right an_l_text_right : Option Addr} {sl_l_text_right : Array (Option Value)} {oc_l_text_right kV_l_text_right dc_l_text_right pm_l_text_right cd_l_text_right ct_l_text_right : Value}
    {f_l_part_right : Addr} {od_l_part_right an_l_part_right : Option Addr} {sl_l_part_right : Array (Option Value)} {oc_l_part_right kV_l_part_right dc_l_part_right pm_l_part_right cd_l_part_right ct_l_part_right : Value}
    {f_l_bent : Addr} {od_l_bent an_l_bent : Option Addr} {sl_l_bent : Array (Option Value)} {oc_l_bent kV_l_bent dc_l_bent pm_l_bent cd_l_bent ct_l_bent : Value}
    {f_l_by_hand : Addr} {od_l_by_hand an_l_by_hand : Option Addr} {sl_l_by_hand : Array (Option Value)} {oc_l_by_hand kV_l_by_hand dc_l_by_hand pm_l_by_hand cd_l_by_hand ct_l_by_hand : Value}
    {f_l_right : Addr} {od_l_right an_l_right : Option Addr} {sl_l_right : Array (Option Value)} {oc_l_right kV_l_right dc_l_right pm_l_right cd_l_right ct_l_right : Value}
    {f_law : Addr} {od_law an_law : Option Addr} {sl_law : Array (Option Value)} {oc_law kV_law dc_law pm_law cd_law ct_law : Value}
    {C_InvalidFraction : Addr}
    {fI_InvalidFraction : Addr} {enm_InvalidFraction eq_InvalidFraction : Str} {eN_InvalidFraction : Addr} {ebs_InvalidFraction ebm_InvalidFraction esub_InvalidFraction : List Value} {esn_InvalidFraction : List Str} {eab_InvalidFraction : Bool} {ecol_InvalidFraction : Option Bool} {edd_InvalidFraction : Option Addr} {ex0_InvalidFraction ex1_InvalidFraction ex2_InvalidFraction ex3_InvalidFraction ex5_InvalidFraction : Option Value}
    {yoc_InvalidFraction ydc_InvalidFraction ypm_InvalidFraction ycd_InvalidFraction yct_InvalidFraction : Value} {yod_InvalidFraction yan_InvalidFraction : Option Addr} {ysl_InvalidFraction : Array (Option Value)} {yp1_InvalidFraction yp2_InvalidFraction yq1_InvalidFraction yq2_InvalidFraction yq3_InvalidFraction yq4_InvalidFraction : Pos}
    {C_InvalidText : Addr}
    {fI_InvalidText : Addr} {enm_InvalidText eq_InvalidText : Str} {eN_InvalidText : Addr} {ebs_InvalidText ebm_InvalidText esub_InvalidText : List Value} {esn_InvalidText : List Str} {eab_InvalidText : Bool} {ecol_InvalidText : Option Bool} {edd_InvalidText : Option Addr} {ex0_InvalidText ex1_InvalidText ex2_InvalidText ex3_InvalidText ex5_InvalidText : Option Value}
    {yoc_InvalidText ydc_InvalidText ypm_InvalidText ycd_InvalidText yct_InvalidText : Value} {yod_InvalidText yan_InvalidText : Option Addr} {ysl_InvalidText : Array (Option Value)} {yp1_InvalidText yp2_InvalidText yq1_InvalidText yq2_InvalidText yq3_InvalidText yq4_InvalidText : Pos}
    (a_common_divisor : PySem.W.nsIn K mainGlobals "common_divisor" = some (some (.ref f_common_divisor)))
    (l_common_divisor : K.lookup f_common_divisor = some ⟨oc_common_divisor, od_common_divisor, .func (PySem.W.fnOf "common_divisor" "common_divisor" (defArgs s_common_divisor) (defBody s_common_divisor) (defScope s_common_divisor) .none kV_common_divisor dc_common_divisor pm_common_divisor an_common_divisor cd_common_divisor ct_common_divisor), sl_common_divisor⟩)
    (c_common_divisor : PySem.W.codeIn K cd_common_divisor "common_divisor" = true)
    (k_common_divisor : PySem.W.keepIn K (.ref f_common_divisor) = true)
    (a_is_integer : PySem.W.nsIn K mainGlobals "is_integer" = some (some (.ref f_is_integer)))
    (l_is_integer : K.lookup f_is_integer = some ⟨oc_is_integer, od_is_integer, .func (PySem.W.fnOf "is_integer" "is_integer" (defArgs s_is_integer) (defBody s_is_integer) (defScope s_is_integer) .none kV_is_integer dc_is_integer pm_is_integer an_is_integer cd_is_integer ct_is_integer), sl_is_integer⟩)
    (c_is_integer : PySem.W.codeIn K cd_is_integer "is_integer" = true)
    (k_is_integer : PySem.W.keepIn K (.ref f_is_integer) = true)
    (a_is_positive : PySem.W.nsIn K mainGlobals "is_positive" = some (some (.ref f_is_positive)))
    (l_is_positive : K.lookup f_is_positive = some ⟨oc_is_positive, od_is_positive, .func (PySem.W.fnOf "is_positive" "is_positive" (defArgs s_is_positive) (defBody s_is_positive) (defScope s_is_positive) .none kV_is_positive dc_is_positive pm_is_positive an_is_positive cd_is_positive ct_is_positive), sl_is_positive⟩)
    (c_is_positive : PySem.W.codeIn K cd_is_positive "is_positive" = true)
    (k_is_positive : PySem.W.keepIn K (.ref f_is_positive) = true)
    (a_l_cell : PySem.W.nsIn K mainGlobals "_law_cell" = some (some (.ref f_l_cell)))
    (l_l_cell : K.lookup f_l_cell = some ⟨oc_l_cell, od_l_cell, .func (PySem.W.fnOf "_law_cell" "_law_cell" (defArgs s_l_cell) (defBody s_l_cell) (defScope s_l_cell) .none kV_l_cell dc_l_cell pm_l_cell an_l_cell cd_l_cell ct_l_cell), sl_l_cell⟩)
    (c_l_cell : PySem.W.codeIn K cd_l_cell "_law_cell" = true)
    (k_l_cell : PySem.W.keepIn K (.ref f_l_cell) = true)
    (a_l_pool : PySem.W.nsIn K mainGlobals "_law_pool" = some (some (.ref f_l_pool)))
    (l_l_pool : K.lookup f_l_pool = some ⟨oc_l_pool, od_l_pool, .func (PySem.W.fnOf "_law_pool" "_law_pool" (defArgs s_l_pool) (defBody s_l_pool) (defScope s_l_pool) .none kV_l_pool dc_l_pool pm_l_pool an_l_pool cd_l_pool ct_l_pool), sl_l_pool⟩)
    (c_l_pool : PySem.W.codeIn K cd_l_pool "_law_pool" = true)
    (k_l_pool : PySem.W.keepIn K (.ref f_l_pool) = true)
    (a_l_draw : PySem.W.nsIn K mainGlobals "_law_draw" = some (some (.ref f_l_draw)))
    (l_l_draw : K.lookup f_l_draw = some ⟨oc_l_draw, od_l_draw, .func (PySem.W.fnOf "_law_draw" "_law_draw" (defArgs s_l_draw) (defBody s_l_draw) (defScope s_l_draw) .none kV_l_draw dc_l_draw pm_l_draw an_l_draw cd_l_draw ct_l_draw), sl_l_draw⟩)
    (c_l_draw : PySem.W.codeIn K cd_l_draw "_law_draw" = true)
    (k_l_draw : PySem.W.keepIn K (.ref f_l_draw) = true)
    (a_l_low : PySem.W.nsIn K mainGlobals "_law_low" = some (some (.ref f_l_low)))
    (l_l_low : K.lookup f_l_low = some ⟨oc_l_low, od_l_low, .func (PySem.W.fnOf "_law_low" "_law_low" (defArgs s_l_low) (defBody s_l_low) (defScope s_l_low) .none kV_l_low dc_l_low pm_l_low an_l_low cd_l_low ct_l_low), sl_l_low⟩)
    (c_l_low : PySem.W.codeIn K cd_l_low "_law_low" = true)
    (k_l_low : PySem.W.keepIn K (.ref f_l_low) = true)
    (a_is_fraction : PySem.W.nsIn K mainGlobals "is_fraction" = some (some (.ref f_is_fraction)))
    (l_is_fraction : K.lookup f_is_fraction = some ⟨oc_is_fraction, od_is_fraction, .func (PySem.W.fnOf "is_fraction" "is_fraction" (defArgs s_is_fraction) (defBody s_is_fraction) (defScope s_is_fraction) .none kV_is_fraction dc_is_fraction pm_is_fraction an_is_fraction cd_is_fraction ct_is_fraction), sl_is_fraction⟩)
    (c_is_fraction : PySem.W.codeIn K cd_is_fraction "is_fraction" = true)
    (k_is_fraction : PySem.W.keepIn K (.ref f_is_fraction) = true)
    (a_check_fractions : PySem.W.nsIn K mainGlobals "check_fractions" = some (some (.ref f_check_fractions)))
    (l_check_fractions : K.lookup f_check_fractions = some ⟨oc_check_fractions, od_check_fractions, .func (PySem.W.fnOf "check_fractions" "check_fractions" (defArgs s_check_fractions) (defBody s_check_fractions) (defScope s_check_fractions) .none kV_check_fractions dc_check_fractions pm_check_fractions an_check_fractions cd_check_fractions ct_check_fractions), sl_check_fractions⟩)
    (c_check_fractions : PySem.W.codeIn K cd_check_fractions "check_fractions" = true)
    (k_check_fractions : PySem.W.keepIn K (.ref f_check_fractions) = true)
    (a_format_fraction : PySem.W.nsIn K mainGlobals "format_fraction" = some (some (.ref f_format_fraction)))
    (l_format_fraction : K.lookup f_format_fraction = some ⟨oc_format_fraction, od_format_fraction, .func (PySem.W.fnOf "format_fraction" "format_fraction" (defArgs s_format_fraction) (defBody s_format_fraction) (defScope s_format_fraction) .none kV_format_fraction dc_format_fraction pm_format_fraction an_format_fraction cd_format_fraction ct_format_fraction), sl_format_fraction⟩)
    (c_format_fraction : PySem.W.codeIn K cd_format_fraction "format_fraction" = true)
    (k_format_fraction : PySem.W.keepIn K (.ref f_format_fraction) = true)
    (a_is_numeral : PySem.W.nsIn K mainGlobals "is_numeral" = some (some (.ref f_is_numeral)))
    (l_is_numeral : K.lookup f_is_numeral = some ⟨oc_is_numeral, od_is_numeral, .func (PySem.W.fnOf "is_numeral" "is_numeral" (defArgs s_is_numeral) (defBody s_is_numeral) (defScope s_is_numeral) .none kV_is_numeral dc_is_numeral pm_is_numeral an_is_numeral cd_is_numeral ct_is_numeral), sl_is_numeral⟩)
    (c_is_numeral : PySem.W.codeIn K cd_is_numeral "is_numeral" = true)
    (k_is_numeral : PySem.W.keepIn K (.ref f_is_numeral) = true)
    (a_find_fraction : PySem.W.nsIn K mainGlobals "find_fraction" = some (some (.ref f_find_fraction)))
    (l_find_fraction : K.lookup f_find_fraction = some ⟨oc_find_fraction, od_find_fraction, .func (PySem.W.fnOf "find_fraction" "find_fraction" (defArgs s_find_fraction) (defBody s_find_fraction) (defScope s_find_fraction) .none kV_find_fraction dc_find_fraction pm_find_fraction an_find_fraction cd_find_fraction ct_find_fraction), sl_find_fraction⟩)
    (c_find_fraction : PySem.W.codeIn K cd_find_fraction "find_fraction" = true)
    (k_find_fraction : PySem.W.keepIn K (.ref f_find_fraction) = true)
    (a_parse_fraction : PySem.W.nsIn K mainGlobals "parse_fraction" = some (some (.ref f_parse_fraction)))
    (l_parse_fraction : K.lookup f_parse_fraction = some ⟨oc_parse_fraction, od_parse_fraction, .func (PySem.W.fnOf "parse_fraction" "parse_fraction" (defArgs s_parse_fraction) (defBody s_parse_fraction) (defScope s_parse_fraction) .none kV_parse_fraction dc_parse_fraction pm_parse_fraction an_parse_fraction cd_parse_fraction ct_parse_fraction), sl_parse_fraction⟩)
    (c_parse_fraction : PySem.W.codeIn K cd_parse_fraction "parse_fraction" = true)
    (k_parse_fraction : PySem.W.keepIn K (.ref f_parse_fraction) = true)
    (a_l_parsed : PySem.W.nsIn K mainGlobals "_law_parsed" = some (some (.ref f_l_parsed)))
    (l_l_parsed : K.lookup f_l_parsed = some ⟨oc_l_parsed, od_l_parsed, .func (PySem.W.fnOf "_law_parsed" "_law_parsed" (defArgs s_l_parsed) (defBody s_l_parsed) (defScope s_l_parsed) .none kV_l_parsed dc_l_parsed pm_l_parsed an_l_parsed cd_l_parsed ct_l_parsed), sl_l_parsed⟩)
    (c_l_parsed : PySem.W.codeIn K cd_l_parsed "_law_parsed" = true)
    (k_l_parsed : PySem.W.keepIn K (.ref f_l_parsed) = true)
    (a_l_part : PySem.W.nsIn K mainGlobals "_law_part" = some (some (.ref f_l_part)))
    (l_l_part : K.lookup f_l_part = some ⟨oc_l_part, od_l_part, .func (PySem.W.fnOf "_law_part" "_law_part" (defArgs s_l_part) (defBody s_l_part) (defScope s_l_part) .none kV_l_part dc_l_part pm_l_part an_l_part cd_l_part ct_l_part), sl_l_part⟩)
    (c_l_part : PySem.W.codeIn K cd_l_part "_law_part" = true)
    (k_l_part : PySem.W.keepIn K (.ref f_l_part) = true)
    (a_l_read : PySem.W.nsIn K mainGlobals "_law_read" = some (some (.ref f_l_read)))
    (l_l_read : K.lookup f_l_read = some ⟨oc_l_read, od_l_read, .func (PySem.W.fnOf "_law_read" "_law_read" (defArgs s_l_read) (defBody s_l_read) (defScope s_l_read) .none kV_l_read dc_l_read pm_l_read an_l_read cd_l_read ct_l_read), sl_l_read⟩)
    (c_l_read : PySem.W.codeIn K cd_l_read "_law_read" = true)
    (k_l_read : PySem.W.keepIn K (.ref f_l_read) = true)
    (a_l_shown : PySem.W.nsIn K mainGlobals "_law_shown" = some (some (.ref f_l_shown)))
    (l_l_shown : K.lookup f_l_shown = some ⟨oc_l_shown, od_l_shown, .func (PySem.W.fnOf "_law_shown" "_law_shown" (defArgs s_l_shown) (defBody s_l_shown) (defScope s_l_shown) .none kV_l_shown dc_l_shown pm_l_shown an_l_shown cd_l_shown ct_l_shown), sl_l_shown⟩)
    (c_l_shown : PySem.W.codeIn K cd_l_shown "_law_shown" = true)
    (k_l_shown : PySem.W.keepIn K (.ref f_l_shown) = true)
    (a_l_text_right : PySem.W.nsIn K mainGlobals "_law_text_right" = some (some (.ref f_l_text_right)))
    (l_l_text_right : K.lookup f_l_text_right = some ⟨oc_l_text_right, od_l_text_right, .func (PySem.W.fnOf "_law_text_right" "_law_text_right" (defArgs s_l_text_right) (defBody s_l_text_right) (defScope s_l_text_right) .none kV_l_text_right dc_l_text_right pm_l_text_right an_l_text_right cd_l_text_right ct_l_text_right), sl_l_text_right⟩)
    (c_l_text_right : PySem.W.codeIn K cd_l_text_right "_law_text_right" = true)
    (k_l_text_right : PySem.W.keepIn K (.ref f_l_text_right) = true)
    (a_l_part_right : PySem.W.nsIn K mainGlobals "_law_part_right" = some (some (.ref f_l_part_right)))
    (l_l_part_right : K.lookup f_l_part_right = some ⟨oc_l_part_right, od_l_part_right, .func (PySem.W.fnOf "_law_part_right" "_law_part_right" (defArgs s_l_part_right) (defBody s_l_part_right) (defScope s_l_part_right) .none kV_l_part_right dc_l_part_right pm_l_part_right an_l_part_right cd_l_part_right ct_l_part_right), sl_l_part_right⟩)
    (c_l_part_right : PySem.W.codeIn K cd_l_part_right "_law_part_right" = true)
    (k_l_part_right : PySem.W.keepIn K (.ref f_l_part_right) = true)
    (a_l_bent : PySem.W.nsIn K mainGlobals "_law_bent" = some (some (.ref f_l_bent)))
    (l_l_bent : K.lookup f_l_bent = some ⟨oc_l_bent, od_l_bent, .func (PySem.W.fnOf "_law_bent" "_law_bent" (defArgs s_l_bent) (defBody s_l_bent) (defScope s_l_bent) .none kV_l_bent dc_l_bent pm_l_bent an_l_bent cd_l_bent ct_l_bent), sl_l_bent⟩)
    (c_l_bent : PySem.W.codeIn K cd_l_bent "_law_bent" = true)
    (k_l_bent : PySem.W.keepIn K (.ref f_l_bent) = true)
    (a_l_by_hand : PySem.W.nsIn K mainGlobals "_law_by_hand" = some (some (.ref f_l_by_hand)))
    (l_l_by_hand : K.lookup f_l_by_hand = some ⟨oc_l_by_hand, od_l_by_hand, .func (PySem.W.fnOf "_law_by_hand" "_law_by_hand" (defArgs s_l_by_hand) (defBody s_l_by_hand) (defScope s_l_by_hand) .none kV_l_by_hand dc_l_by_hand pm_l_by_hand an_l_by_hand cd_l_by_hand ct_l_by_hand), sl_l_by_hand⟩)
    (c_l_by_hand : PySem.W.codeIn K cd_l_by_hand "_law_by_hand" = true)
    (k_l_by_hand : PySem.W.keepIn K (.ref f_l_by_hand) = true)
    (a_l_right : PySem.W.nsIn K mainGlobals "_law_right" = some (some (.ref f_l_right)))
    (l_l_right : K.lookup f_l_right = some ⟨oc_l_right, od_l_right, .func (PySem.W.fnOf "_law_right" "_law_right" (defArgs s_l_right) (defBody s_l_right) (defScope s_l_right) .none kV_l_right dc_l_right pm_l_right an_l_right cd_l_right ct_l_right), sl_l_right⟩)
    (c_l_right : PySem.W.codeIn K cd_l_right "_law_right" = true)
    (k_l_right : PySem.W.keepIn K (.ref f_l_right) = true)
    (a_law : PySem.W.nsIn K mainGlobals "law" = some (some (.ref f_law)))
    (l_law : K.lookup f_law = some ⟨oc_law, od_law, .func (PySem.W.fnOf "law" "law" (defArgs s_law) (defBody s_law) (defScope s_law) .none kV_law dc_law pm_law an_law cd_law ct_law), sl_law⟩)
    (c_law : PySem.W.codeIn K cd_law "law" = true)
    (k_law : PySem.W.keepIn K (.ref f_law) = true)
    (z_isinstance : PySem.W.nsIn K mainGlobals "isinstance" = some none)
    (z_bool : PySem.W.nsIn K mainGlobals "bool" = some none)
    (z_int : PySem.W.nsIn K mainGlobals "int" = some none)
    (z_len : PySem.W.nsIn K mainGlobals "len" = some none)
    (z_abs : PySem.W.nsIn K mainGlobals "abs" = some none)
    (z_divmod : PySem.W.nsIn K mainGlobals "divmod" = some none)
    (z_tuple : PySem.W.nsIn K mainGlobals "tuple" = some none)
    (z_str : PySem.W.nsIn K mainGlobals "str" = some none)
    (z_repr : PySem.W.nsIn K mainGlobals "repr" = some none)
    (z_all : PySem.W.nsIn K mainGlobals "all" = some none)
    (z_range : PySem.W.nsIn K mainGlobals "range" = some none)
    (z_min : PySem.W.nsIn K mainGlobals "min" = some none)
    (z_max : PySem.W.nsIn K mainGlobals "max" = some none)
    (kr_imp : importsNone q = true)
    (ca_InvalidFraction : PySem.W.nsIn K mainGlobals "InvalidFraction" = some (some (.ref C_InvalidFraction)))
    (ex_InvalidFraction : K.lookup C_InvalidFraction = some (PySem.excClassObj enm_InvalidFraction eq_InvalidFraction C_InvalidFraction eN_InvalidFraction ebs_InvalidFraction ebm_InvalidFraction true esn_InvalidFraction esub_InvalidFraction eab_InvalidFraction ecol_InvalidFraction edd_InvalidFraction ex0_InvalidFraction ex1_InvalidFraction ex2_InvalidFraction ex3_InvalidFraction ex5_InvalidFraction "ValueError.__new__"))
    (kr_ev_InvalidFraction : PySem.HandSPX.refsVE ebm_InvalidFraction = true)
    (ei_InvalidFraction : PySem.W.findIn K (.ref C_InvalidFraction) "__init__" = some (some (.ref fI_InvalidFraction)))
    (kr_eb_InvalidFraction : evB K C_InvalidFraction fI_InvalidFraction = true)
    (el_InvalidFraction : K.lookup fI_InvalidFraction = some ⟨yoc_InvalidFraction, yod_InvalidFraction, .func (PySem.W.fnOf "__init__" "InvalidFraction.__init__" (evArgs yp1_InvalidFraction yp2_InvalidFraction) (evBody yq1_InvalidFraction yq2_InvalidFraction yq3_InvalidFraction yq4_InvalidFraction) evScope .none .none ydc_InvalidFraction ypm_InvalidFraction yan_InvalidFraction ycd_InvalidFraction yct_InvalidFraction), ysl_InvalidFraction⟩)
    (ec_InvalidFraction : PySem.W.codeIn K ycd_InvalidFraction "InvalidFraction.__init__" = true)
    (ca_InvalidText : PySem.W.nsIn K mainGlobals "InvalidText" = some (some (.ref C_InvalidText)))
    (ex_InvalidText : K.lookup C_InvalidText = some (PySem.excClassObj enm_InvalidText eq_InvalidText C_InvalidText eN_InvalidText ebs_InvalidText ebm_InvalidText true esn_InvalidText esub_InvalidText eab_InvalidText ecol_InvalidText edd_InvalidText ex0_InvalidText ex1_InvalidText ex2_InvalidText ex3_InvalidText ex5_InvalidText "ValueError.__new__"))
    (kr_ev_InvalidText : PySem.HandSPX.refsVE ebm_InvalidText = true)
    (ei_InvalidText : PySem.W.findIn K (.ref C_InvalidText) "__init__" = some (some (.ref fI_InvalidText)))
    (kr_eb_InvalidText : evB K C_InvalidText fI_InvalidText = true)
    (el_InvalidText : K.lookup fI_InvalidText = some ⟨yoc_InvalidText, yod_InvalidText, .func (PySem.W.fnOf "__init__" "InvalidText.__init__" (evArgs yp1_InvalidText yp2_InvalidText) (evBody yq1_InvalidText yq2_InvalidText yq3_InvalidText yq4_InvalidText) evScope .none .none ydc_InvalidText ypm_InvalidText yan_InvalidText ycd_InvalidText yct_InvalidText), ysl_InvalidText⟩)
    (ec_InvalidText : PySem.W.codeIn K ycd_InvalidText "InvalidText.__init__" = true)
    (ktq_xe_InvalidText : PySem.W.exmOne K (.ref C_InvalidText) (.ref C_InvalidText) = some true)
    (ktq_xf_InvalidText : xfB K C_InvalidText = true)
    (ktq_xn_InvalidText : PySem.W.findIn K (.ref C_InvalidText) "value" = some none)
    : Rear K mg mb [] h ∧ ∃ fd : FuncData, (∀ (s : Shared) (u : Value), BindsTo s fd ⟨[u], []⟩ [("_law_script", u)]) ∧ ∀ base : Heap, K.In base → base.Ns mainGlobals mg → (∃ o, base.get? sysModules = some o) → base.NoDigits → (∀ p ∈ ([] : List (Addr × Addr)), LamX.TabB base mg p.1 p.2) → FnT l.prog w K mg base 11 fa fd ["_law_script"] (sp_lawT T0) := by
  have e := hfa.symm.trans (PySem.W.mg_of X G a_law)
  cases e
  have F_common_divisor := fun_mk (st := s_common_divisor) l_common_divisor c_common_divisor k_common_divisor
  have b_common_divisor := F_common_divisor.binds (ps := ["one", "other"]) fun _ _ _ _ _ _ us hl => match us, hl with | [_, _], _ => rfl
  have m_common_divisor := PySem.W.mg_of X G a_common_divisor
  have F_is_integer := fun_mk (st := s_is_integer) l_is_integer c_is_integer k_is_integer
  have b_is_integer := F_is_integer.binds (ps := ["value"]) fun _ _ _ _ _ _ us hl => match us, hl with | [_], _ => rfl
  have m_is_integer := PySem.W.mg_of X G a_is_integer
  have F_is_positive := fun_mk (st := s_is_positive) l_is_positive c_is_positive k_is_positive
  have b_is_positive := F_is_positive.binds (ps := ["value"]) fun _ _ _ _ _ _ us hl => match us, hl with | [_], _ => rfl
  have m_is_positive := PySem.W.mg_of X G a_is_positive
  have F_l_cell := fun_mk (st := s_l_cell) l_l_cell c_l_cell k_l_cell
  have b_l_cell := F_l_cell.binds (ps := ["_law_script", "_law_k"]) fun _ _ _ _ _ _ us hl => match us, hl with | [_, _], _ => rfl
  have m_l_cell := PySem.W.mg_of X G a_l_cell
  have F_l_pool := fun_mk (st := s_l_pool) l_l_pool c_l_pool k_l_pool
  have b_l_pool := F_l_pool.binds (ps := ["_law_figure"]) fun _ _ _ _ _ _ us hl => match us, hl with | [_], _ => rfl
  have m_l_pool := PySem.W.mg_of X G a_l_pool
  have F_l_draw := fun_mk (st := s_l_draw) l_l_draw c_l_draw k_l_draw
  have b_l_draw := F_l_draw.binds (ps := ["_law_pool_here", "_law_most"]) fun _ _ _ _ _ _ us hl => match us, hl with | [_, _], _ => rfl
  have m_l_draw := PySem.W.mg_of X G a_l_draw
  have F_l_low := fun_mk (st := s_l_low) l_l_low c_l_low k_l_low
  have b_l_low := F_l_low.binds (ps := ["_law_high_part", "_law_low_part"]) fun _ _ _ _ _ _ us hl => match us, hl with | [_, _], _ => rfl
  have m_l_low := PySem.W.mg_of X G a_l_low
  have F_is_fraction := fun_mk (st := s_is_fraction) l_is_fraction c_is_fraction k_is_fraction
  have b_is_fraction := F_is_fraction.binds (ps := ["value"]) fun _ _ _ _ _ _ us hl => match us, hl with | [_], _ => rfl
  have m_is_fraction := PySem.W.mg_of X G a_is_fraction
  have F_check_fractions := fun_mk (st := s_check_fractions) l_check_fractions c_check_fractions k_check_fractions
  have b_check_fractions := F_check_fractions.binds (ps := ["values"]) fun _ _ _ _ _ _ us hl => match us, hl with | [_], _ => rfl
  have m_check_fractions := PySem.W.mg_of X G a_check_fractions
  have F_format_fraction := fun_mk (st := s_format_fraction) l_format_fraction c_format_fraction k_format_fraction
  have b_format_fraction := F_format_fraction.binds (ps := ["number"]) fun _ _ _ _ _ _ us hl => match us, hl with | [_], _ => rfl
  have m_format_fraction := PySem.W.mg_of X G a_format_fraction
  have F_is_numeral := fun_mk (st := s_is_numeral) l_is_numeral c_is_numeral k_is_numeral
  have b_is_numeral := F_is_numeral.binds (ps := ["text"]) fun _ _ _ _ _ _ us hl => match us, hl with | [_], _ => rfl
  have m_is_numeral := PySem.W.mg_of X G a_is_numeral
  have F_find_fraction := fun_mk (st := s_find_fraction) l_find_fraction c_find_fraction k_find_fraction
  have b_find_fraction := F_find_fraction.binds (ps := ["text"]) fun _ _ _ _ _ _ us hl => match us, hl with | [_], _ => rfl
  have m_find_fraction := PySem.W.mg_of X G a_find_fraction
  have F_parse_fraction := fun_mk (st := s_parse_fraction) l_parse_fraction c_parse_fraction k_parse_fraction
  have b_parse_fraction := F_parse_fraction.binds (ps := ["text"]) fun _ _ _ _ _ _ us hl => match us, hl with | [_], _ => rfl
  have m_parse_fraction := PySem.W.mg_of X G a_parse_fraction
  have F_l_parsed := fun_mk (st := s_l_parsed) l_l_parsed c_l_parsed k_l_parsed
  have b_l_parsed := F_l_parsed.binds (ps := ["_law_said", "_law_by_name"]) fun _ _ _ _ _ _ us hl => match us, hl with | [_, _], _ => rfl
  have m_l_parsed := PySem.W.mg_of X G a_l_parsed
  have F_l_part := fun_mk (st := s_l_part) l_l_part c_l_part k_l_part
  have b_l_part := F_l_part.binds (ps := ["_law_pool_here", "_law_great"]) fun _ _ _ _ _ _ us hl => match us, hl with | [_, _], _ => rfl
  have m_l_part := PySem.W.mg_of X G a_l_part
  have F_l_read := fun_mk (st := s_l_read) l_l_read c_l_read k_l_read
  have b_l_read := F_l_read.binds (ps := ["_law_text_here"]) fun _ _ _ _ _ _ us hl => match us, hl with | [_], _ => rfl
  have m_l_read := PySem.W.mg_of X G a_l_read
  have F_l_shown := fun_mk (st := s_l_shown) l_l_shown c_l_shown k_l_shown
  have b_l_shown := F_l_shown.binds (ps := ["_law_part_here"]) fun _ _ _ _ _ _ us hl => match us, hl with | [_], _ => rfl
  have m_l_shown := PySem.W.mg_of X G a_l_shown
  have F_l_text_right := fun_mk (st := s_l_text_right) l_l_text_right c_l_text_right k_l_text_right
  have b_l_text_right := F_l_text_right.binds (ps := ["_law_said"]) fun _ _ _ _ _ _ us hl => match us, hl with | [_], _ => rfl
  have m_l_text_right := PySem.W.mg_of X G a_l_text_right
  have F_l_part_right := fun_mk (st := s_l_part_right) l_l_part_right c_l_part_right k_l_part_right
  have b_l_part_right := F_l_part_right.binds (ps := ["_law_part_here"]) fun _ _ _ _ _ _ us hl => match us, hl with | [_], _ => rfl
  have m_l_part_right := PySem.W.mg_of X G a_l_part_right
  have F_l_bent := fun_mk (st := s_l_bent) l_l_bent c_l_bent k_l_bent
  have b_l_bent := F_l_bent.binds (ps := ["_law_pool_here", "_law_part_here"]) fun _ _ _ _ _ _ us hl => match us, hl with | [_, _], _ => rfl
  have m_l_bent := PySem.W.mg_of X G a_l_bent
  have F_l_by_hand := fun_mk (st := s_l_by_hand) l_l_by_hand c_l_by_hand k_l_by_hand
  have b_l_by_hand := F_l_by_hand.binds (ps := []) fun _ _ _ _ _ _ us hl => match us, hl with | [], _ => rfl
  have m_l_by_hand := PySem.W.mg_of X G a_l_by_hand
  have F_l_right := fun_mk (st := s_l_right) l_l_right c_l_right k_l_right
  have b_l_right := F_l_right.binds (ps := ["_law_pool_here"]) fun _ _ _ _ _ _ us hl => match us, hl with | [_], _ => rfl
  have m_l_right := PySem.W.mg_of X G a_l_right
  have F_law := fun_mk (st := s_law) l_law c_law k_law
  have b_law := F_law.binds (ps := ["_law_script"]) fun _ _ _ _ _ _ us hl => match us, hl with | [_], _ => rfl
  have m_law := PySem.W.mg_of X G a_law
  have kb_parse_fraction_0_text : CallB K _ ["text"] 0 ["text"] (fun ts zs => pickG [(2, 0)] ts [] zs) := Fun.cb F_parse_fraction 0 ["text"] [(2, 0)] fun _ _ _ _ _ _ us ws h1 h2 => match us, ws, h1, h2 with | [], [_], _, _ => rfl
  have kb_format_fraction_0_number : CallB K _ ["number"] 0 ["number"] (fun ts zs => pickG [(2, 0)] ts [] zs) := Fun.cb F_format_fraction 0 ["number"] [(2, 0)] fun _ _ _ _ _ _ us ws h1 h2 => match us, ws, h1, h2 with | [], [_], _, _ => rfl
  have n_isinstance := PySem.W.mg_none_of X G z_isinstance
  have n_bool := PySem.W.mg_none_of X G z_bool
  have n_int := PySem.W.mg_none_of X G z_int
  have n_len := PySem.W.mg_none_of X G z_len
  have n_abs := PySem.W.mg_none_of X G z_abs
  have n_divmod := PySem.W.mg_none_of X G z_divmod
  have n_tuple := PySem.W.mg_none_of X G z_tuple
  have n_str := PySem.W.mg_none_of X G z_str
  have n_repr := PySem.W.mg_none_of X G z_repr
  have n_all := PySem.W.mg_none_of X G z_all
  have n_range := PySem.W.mg_none_of X G z_range
  have n_min := PySem.W.mg_none_of X G z_min
  have n_max := PySem.W.mg_none_of X G z_max
  have m_InvalidFraction := PySem.W.mg_of X G ca_InvalidFraction
  have Z_InvalidFraction : EvTxt K C_InvalidFraction fI_InvalidFraction "InvalidFraction.__init__" := evTxt_of (excObj_of ex_InvalidFraction kr_ev_InvalidFraction) kr_eb_InvalidFraction el_InvalidFraction ec_InvalidFraction
  have m_InvalidText := PySem.W.mg_of X G ca_InvalidText
  have Z_InvalidText : EvTxt K C_InvalidText fI_InvalidText "InvalidText.__init__" := evTxt_of (excObj_of ex_InvalidText kr_ev_InvalidText) kr_eb_InvalidText el_InvalidText ec_InvalidText
  have kt_xe_InvalidText := ktq_xe_InvalidText
  have kt_xf_InvalidText := ktq_xf_InvalidText
  have kt_xn_InvalidText := ktq_xn_InvalidText
  refine ⟨⟨X, G, TP.b, TP.builtins, TP.nolimit, (let ⟨mm, a, _⟩ := (TP.seer kr_imp).mods; ⟨mm, a⟩), TP.bmain, ?_, ?_, ?_⟩, ?_⟩
  · exact fun _ m => nomatch m
  · exact fun _ m => nomatch m
  · exact fun _ m => nomatch m
  refine ⟨PySem.W.fnOf "law" "law" (defArgs s_law) (defBody s_law) (defScope s_law) .none kV_law dc_law pm_law an_law cd_law ct_law, fun s u => .of_eq rfl, fun base inB nsB sysB ND TBs => ?_⟩
  have SYS := sysB
  have G_common_divisor := ok_common_divisor (P := l.prog) (w := w) (mg := mg) (base := base) F_common_divisor 
  have G_is_integer := ok_is_integer (P := l.prog) (w := w) (mg := mg) (base := base) F_is_integer n_isinstance n_bool n_int
  have G_is_positive := ok_is_positive (P := l.prog) (w := w) (mg := mg) (base := base) F_is_positive G_is_integer m_is_integer k_is_integer b_is_integer
  have G_l_cell := ok_l_cell (P := l.prog) (w := w) (mg := mg) (base := base) F_l_cell n_len
  have G_l_pool := ok_l_pool (P := l.prog) (w := w) (mg := mg) (base := base) F_l_pool n_abs
  have G_l_draw := ok_l_draw (P := l.prog) (w := w) (mg := mg) (base := base) F_l_draw n_divmod
  have G_l_low := ok_l_low (P := l.prog) (w := w) (mg := mg) (base := base) F_l_low 
  have G_is_fraction := ok_is_fraction (P := l.prog) (w := w) (mg := mg) (base := base) F_is_fraction n_len n_isinstance n_tuple G_common_divisor m_common_divisor k_common_divisor b_common_divisor G_is_positive m_is_positive k_is_positive b_is_positive
  have G_check_fractions := ok_check_fractions (P := l.prog) (w := w) (mg := mg) (base := base) F_check_fractions G_is_fraction m_is_fraction k_is_fraction b_is_fraction Z_InvalidFraction m_InvalidFraction
  have G_format_fraction := ok_format_fraction (P := l.prog) (w := w) (mg := mg) (base := base) F_format_fraction G_check_fractions m_check_fractions k_check_fractions b_check_fractions ND
  have G_is_numeral := ok_is_numeral (P := l.prog) (w := w) (mg := mg) (base := base) F_is_numeral 
  have G_find_fraction := ok_find_fraction (P := l.prog) (w := w) (mg := mg) (base := base) F_find_fraction n_int n_isinstance n_str G_format_fraction m_format_fraction k_format_fraction b_format_fraction G_is_fraction m_is_fraction k_is_fraction b_is_fraction G_is_numeral m_is_numeral k_is_numeral b_is_numeral ND
  have G_parse_fraction := ok_parse_fraction (P := l.prog) (w := w) (mg := mg) (base := base) F_parse_fraction Z_InvalidText m_InvalidText G_find_fraction m_find_fraction k_find_fraction b_find_fraction
  have G_l_parsed := ok_l_parsed (P := l.prog) (w := w) (mg := mg) (base := base) F_l_parsed G_parse_fraction m_parse_fraction k_parse_fraction b_parse_fraction kb_parse_fraction_0_text m_InvalidText kt_xe_InvalidText kt_xf_InvalidText kt_xn_InvalidText
  have G_l_part := ok_l_part (P := l.prog) (w := w) (mg := mg) (base := base) F_l_part G_l_low m_l_low k_l_low b_l_low G_l_draw m_l_draw k_l_draw b_l_draw
  have G_l_read := ok_l_read (P := l.prog) (w := w) (mg := mg) (base := base) F_l_read n_int n_len G_l_low m_l_low k_l_low b_l_low ND
  have G_l_shown := ok_l_shown (P := l.prog) (w := w) (mg := mg) (base := base) F_l_shown n_str
  have G_l_text_right := ok_l_text_right (P := l.prog) (w := w) (mg := mg) (base := base) F_l_text_right n_repr G_format_fraction m_format_fraction k_format_fraction b_format_fraction G_parse_fraction m_parse_fraction k_parse_fraction b_parse_fraction G_l_parsed m_l_parsed k_l_parsed b_l_parsed G_l_read m_l_read k_l_read b_l_read ND SYS
  have G_l_part_right := ok_l_part_right (P := l.prog) (w := w) (mg := mg) (base := base) F_l_part_right n_repr G_parse_fraction m_parse_fraction k_parse_fraction b_parse_fraction G_format_fraction m_format_fraction k_format_fraction b_format_fraction kb_format_fraction_0_number G_l_shown m_l_shown k_l_shown b_l_shown ND SYS
  have G_l_bent := ok_l_bent (P := l.prog) (w := w) (mg := mg) (base := base) F_l_bent n_str n_len G_l_draw m_l_draw k_l_draw b_l_draw G_l_shown m_l_shown k_l_shown b_l_shown
  have G_l_by_hand := ok_l_by_hand (P := l.prog) (w := w) (mg := mg) (base := base) F_l_by_hand n_all G_l_read m_l_read k_l_read b_l_read G_l_text_right m_l_text_right k_l_text_right b_l_text_right G_l_parsed m_l_parsed k_l_parsed b_l_parsed
  have G_l_right := ok_l_right (P := l.prog) (w := w) (mg := mg) (base := base) F_l_right n_range n_all G_l_text_right m_l_text_right k_l_text_right b_l_text_right G_l_bent m_l_bent k_l_bent b_l_bent G_l_part_right m_l_part_right k_l_part_right b_l_part_right G_l_part m_l_part k_l_part b_l_part
  have G_law := ok_law (P := l.prog) (w := w) (mg := mg) (base := base) F_law n_range n_len n_min n_max n_all G_l_right m_l_right k_l_right b_l_right G_l_pool m_l_pool k_l_pool b_l_pool G_l_cell m_l_cell k_l_cell b_l_cell G_l_by_hand m_l_by_hand k_l_by_hand b_l_by_hand
  exact G_law
end Gd
open PySem PySem.W PyProof.Rows
set_option maxRecDepth 100000 in
set_option maxHeartbeats 0 in
theorem PySem.Challenge.cw_sizechains_k05_texts_of_fractions_holds : PySem.Challenge.rw_sizechains_k05_texts_of_fractions.Holds := by
  w_on; o_law
  refine PySem.W.holds_open (q := Gd.q0) (loose := Gd.loose0) (Xt := Gd.seen0) (XP := PySem.W.XL Gd.q0 Gd.lv0) Gd.left0 (PySem.W.kmHook Gd.K0 Gd.as0 Gd.as0_ok Gd.ts0).of
    (PySem.W.kmHook Gd.K0 Gd.as0 Gd.as0_ok Gd.ts0).keeps (fun s h => PySem.W.xl_of s (Bool.and_eq_true_iff.mp h).1) PySem.W.XL.keeps
    (by rfl) (by rfl) (by rfl) (fun s h => PySem.W.recFacts_of (Bool.and_eq_true_iff.mp h).2) (by rfl) (by assumption) (by decide +kernel)
    ⟨rfl, rfl, rfl, rfl, rfl, by decide +kernel⟩ ?hw ?hc
  (case hw => w_witness2)
  k_fill
  refine Gd.walkTD (l := PySem.Challenge.rw_sizechains_k05_texts_of_fractions) (k := 11) (x := "_law_script") (cs := []) (T0 := Gd.T0) rfl rfl ⟨rfl, by decide, by decide⟩ (fun w h Y => PySem.W.km_in_of Y) ?F (by decide) ?T ?C
  case T => exact fun _ m => nomatch m
  case C => exact fun _ m => nomatch m
  case F =>
    intro w mean mg mb fa h TP Y KX G hmg
    refine' Gd.all_mk TP (PySem.W.km_tabs_of Y) KX G hmg ?a_common_divisor ?l_common_divisor ?c_common_divisor ?k_common_divisor ?a_is_integer ?l_is_integer ?c_is_integer ?k_is_integer ?a_is_positive ?l_is_positive ?c_is_positive ?k_is_positive ?a_l_cell ?l_l_cell ?c_l_cell ?k_l_cell ?a_l_pool ?l_l_pool ?c_l_pool ?k_l_pool ?a_l_draw ?l_l_draw ?c_l_draw ?k_l_draw ?a_l_low ?l_l_low ?c_l_low ?k_l_low ?a_is_fraction ?l_is_fraction ?c_is_fraction ?k_is_fraction ?a_check_fractions ?l_check_fractions ?c_check_fractions ?k_check_fractions ?a_format_fraction ?l_format_fraction ?c_format_fraction ?k_format_fraction ?a_is_numeral ?l_is_numeral ?c_is_numeral ?k_is_numeral ?a_find_fraction ?l_find_fraction ?c_find_fraction ?k_find_fraction ?a_parse_fraction ?l_parse_fraction ?c_parse_fraction ?k_parse_fraction ?a_l_parsed ?l_l_parsed ?c_l_parsed ?k_l_parsed ?a_l_part ?l_l_part ?c_l_part ?k_l_part ?a_l_read ?l_l_read ?c_l_read ?k_l_read ?a_l_shown ?l_l_shown ?c_l_shown ?k_l_shown ?a_l_text_right ?l_l_text_right ?c_l_text_right ?k_l_text_right ?a_l_part_right ?l_l_part_right ?c_l_part_right ?k_l_part_right ?a_l_bent ?l_l_bent ?c_l_bent ?k_l_bent ?a_l_by_hand ?l_l_by_hand ?c_l_by_hand ?k_l_by_hand ?a_l_right ?l_l_right ?c_l_right ?k_l_right ?a_law ?l_law ?c_law ?k_law ?z_isinstance ?z_bool ?z_int ?z_len ?z_abs ?z_divmod ?z_tuple ?z_str ?z_repr ?z_all ?z_range ?z_min ?z_max ?kr_imp ?ca_InvalidFraction ?ex_InvalidFraction ?kr_ev_InvalidFraction ?ei_InvalidFraction ?kr_eb_InvalidFraction ?el_InvalidFraction ?ec_InvalidFraction ?ca_InvalidText ?ex_InvalidText ?kr_ev_InvalidText ?ei_InvalidText ?kr_eb_InvalidText ?el_InvalidText ?ec_InvalidText ?ktq_xe_InvalidText ?ktq_xf_InvalidText ?ktq_xn_InvalidText
    (case a_common_divisor => first | k_is | kernel_rfl | rfl | decide +kernel)
    (case l_common_divisor => first | k_is | kernel_rfl | rfl | decide +kernel)
    (case c_common_divisor => first | k_is | kernel_rfl | rfl | decide +kernel)
    (case k_common_divisor => first | k_is | kernel_rfl | rfl | decide +kernel)
    (case a_is_integer => first | k_is | kernel_rfl | rfl | decide +kernel)
    (case l_is_integer => first | k_is | kernel_rfl | rfl | decide +kernel)
    (case c_is_integer => first | k_is | kernel_rfl | rfl | decide +kernel)
    (case k_is_integer => first | k_is | kernel_rfl | rfl | decide +kernel)
    (case a_is_positive => first | k_is | kernel_rfl | rfl | decide +kernel)
    (case l_is_positive => first | k_is | kernel_rfl | rfl | decide +kernel)
    (case c_is_positive => first | k_is | kernel_rfl | rfl | decide +kernel)
    (case k_is_positive => first | k_is | kernel_rfl | rfl | decide +kernel)
    (case a_l_cell => first | k_is | kernel_rfl | rfl | decide +kernel)
    (case l_l_cell => first | k_is | kernel_rfl | rfl | decide +kernel)
    (case c_l_cell => first | k_is | kernel_rfl | rfl | decide +kernel)
    (case k_l_cell => first | k_is | kernel_rfl | rfl | decide +kernel)
    (case a_l_pool => first | k_is | kernel_rfl | rfl | decide +kernel)
    (case l_l_pool => first | k_is | kernel_rfl | rfl | decide +kernel)
    (case c_l_pool => first | k_is | kernel_rfl | rfl | decide +kernel)
    (case k_l_pool => first | k_is | kernel_rfl | rfl | decide +kernel)
    (case a_l_draw => first | k_is | kernel_rfl | rfl | decide +kernel)
    (case l_l_draw => first | k_is | kernel_rfl | rfl | decide +kernel)
    (case c_l_draw => first | k_is | kernel_rfl | rfl | decide +kernel)
    (case k_l_draw => first | k_is | kernel_rfl | rfl | decide +kernel)
    (case a_l_low => first | k_is | kernel_rfl | rfl | decide +kernel)
    (case l_l_low => first | k_is | kernel_rfl | rfl | decide +kernel)
    (case c_l_low => first | k_is | kernel_rfl | rfl | decide +kernel)
    (case k_l_low => first | k_is | kernel_rfl | rfl | decide +kernel)
    (case a_is_fraction => first | k_is | kernel_rfl | rfl | decide +kernel)
    (case l_is_fraction => first | k_is | kernel_rfl | rfl | decide +kernel)
    (case c_is_fraction => first | k_is | kernel_rfl | rfl | decide +kernel)
    (case k_is_fraction => first | k_is | kernel_rfl | rfl | decide +kernel)
    (case a_check_fractions => first | k_is | kernel_rfl | rfl | decide +kernel)
    (case l_check_fractions => first | k_is | kernel_rfl | rfl | decide +kernel)
    (case c_check_fractions => first | k_is | kernel_rfl | rfl | decide +kernel)
    (case k_check_fractions => first | k_is | kernel_rfl | rfl | decide +kernel)
    (case a_format_fraction => first | k_is | kernel_rfl | rfl | decide +kernel)
    (case l_format_fraction => first | k_is | kernel_rfl | rfl | decide +kernel)
    (case c_format_fraction => first | k_is | kernel_rfl | rfl | decide +kernel)
    (case k_format_fraction => first | k_is | kernel_rfl | rfl | decide +kernel)
    (case a_is_numeral => first | k_is | kernel_rfl | rfl | decide +kernel)
    (case l_is_numeral => first | k_is | kernel_rfl | rfl | decide +kernel)
    (case c_is_numeral => first | k_is | kernel_rfl | rfl | decide +kernel)
    (case k_is_numeral => first | k_is | kernel_rfl | rfl | decide +kernel)
    (case a_find_fraction => first | k_is | kernel_rfl | rfl | decide +kernel)
    (case l_find_fraction => first | k_is | kernel_rfl | rfl | decide +kernel)
    (case c_find_fraction => first | k_is | kernel_rfl | rfl | decide +kernel)
    (case k_find_fraction => first | k_is | kernel_rfl | rfl | decide +kernel)
    (case a_parse_fraction => first | k_is | kernel_rfl | rfl | decide +kernel)
    (case l_parse_fraction => first | k_is | kernel_rfl | rfl | decide +kernel)
    (case c_parse_fraction => first | k_is | kernel_rfl | rfl | decide +kernel)
    (case k_parse_fraction => first | k_is | kernel_rfl | rfl | decide +kernel)
    (case a_l_parsed => first | k_is | kernel_rfl | rfl | decide +kernel)
    (case l_l_parsed => first | k_is | kernel_rfl | rfl | decide +kernel)
    (case c_l_parsed => first | k_is | kernel_rfl | rfl | decide +kernel)
    (case k_l_parsed => first | k_is | kernel_rfl | rfl | decide +kernel)
    (case a_l_part => first | k_is | kernel_rfl | rfl | decide +kernel)
    (case l_l_part => first | k_is | kernel_rfl | rfl | decide +kernel)
    (case c_l_part => first | k_is | kernel_rfl | rfl | decide +kernel)
    (case k_l_part => first | k_is | kernel_rfl | rfl | decide +kernel)
    (case a_l_read => first | k_is | kernel_rfl | rfl | decide +kernel)
    (case l_l_read => first | k_is | kernel_rfl | rfl | decide +kernel)
    (case c_l_read => first | k_is | kernel_rfl | rfl | decide +kernel)
    (case k_l_read => first | k_is | kernel_rfl | rfl | decide +kernel)
    (case a_l_shown => first | k_is | kernel_rfl | rfl | decide +kernel)
    (case l_l_shown => first | k_is | kernel_rfl | rfl | decide +kernel)
    (case c_l_shown => first | k_is | kernel_rfl | rfl | decide +kernel)
    (case k_l_shown => first | k_is | kernel_rfl | rfl | decide +kernel)
    (case a_l_text_right => first | k_is | kernel_rfl | rfl | decide +kernel)
    (case l_l_text_right => first | k_is | kernel_rfl | rfl | decide +kernel)
    (case c_l_text_right => first | k_is | kernel_rfl | rfl | decide +kernel)
    (case k_l_text_right => first | k_is | kernel_rfl | rfl | decide +kernel)
    (case a_l_part_right => first | k_is | kernel_rfl | rfl | decide +kernel)
    (case l_l_part_right => first | k_is | kernel_rfl | rfl | decide +kernel)
    (case c_l_part_right => first | k_is | kernel_rfl | rfl | decide +kernel)
    (case k_l_part_right => first | k_is | kernel_rfl | rfl | decide +kernel)
    (case a_l_bent => first | k_is | kernel_rfl | rfl | decide +kernel)
    (case l_l_bent => first | k_is | kernel_rfl | rfl | decide +kernel)
    (case c_l_bent => first | k_is | kernel_rfl | rfl | decide +kernel)
    (case k_l_bent => first | k_is | kernel_rfl | rfl | decide +kernel)
    (case a_l_by_hand => first | k_is | kernel_rfl | rfl | decide +kernel)
    (case l_l_by_hand => first | k_is | kernel_rfl | rfl | decide +kernel)
    (case c_l_by_hand => first | k_is | kernel_rfl | rfl | decide +kernel)
    (case k_l_by_hand => first | k_is | kernel_rfl | rfl | decide +kernel)
    (case a_l_right => first | k_is | kernel_rfl | rfl | decide +kernel)
    (case l_l_right => first | k_is | kernel_rfl | rfl | decide +kernel)
    (case c_l_right => first | k_is | kernel_rfl | rfl | decide +kernel)
    (case k_l_right => first | k_is | kernel_rfl | rfl | decide +kernel)
    (case a_law => first | k_is | kernel_rfl | rfl | decide +kernel)
    (case l_law => first | k_is | kernel_rfl | rfl | decide +kernel)
    (case c_law => first | k_is | kernel_rfl | rfl | decide +kernel)
    (case k_law => first | k_is | kernel_rfl | rfl | decide +kernel)
    (case z_isinstance => first | k_is | kernel_rfl | rfl | decide +kernel)
    (case z_bool => first | k_is | kernel_rfl | rfl | decide +kernel)
    (case z_int => first | k_is | kernel_rfl | rfl | decide +kernel)
    (case z_len => first | k_is | kernel_rfl | rfl | decide +kernel)
    (case z_abs => first | k_is | kernel_rfl | rfl | decide +kernel)
    (case z_divmod => first | k_is | kernel_rfl | rfl | decide +kernel)
    (case z_tuple => first | k_is | kernel_rfl | rfl | decide +kernel)
    (case z_str => first | k_is | kernel_rfl | rfl | decide +kernel)
    (case z_repr => first | k_is | kernel_rfl | rfl | decide +kernel)
    (case z_all => first | k_is | kernel_rfl | rfl | decide +kernel)
    (case z_range => first | k_is | kernel_rfl | rfl | decide +kernel)
    (case z_min => first | k_is | kernel_rfl | rfl | decide +kernel)
    (case z_max => first | k_is | kernel_rfl | rfl | decide +kernel)
    (case kr_imp => first | kernel_rfl | rfl | decide +kernel)
    (case ca_InvalidFraction => first | k_is | kernel_rfl | rfl | decide +kernel)
    (case ex_InvalidFraction => first | k_is | kernel_rfl | rfl | decide +kernel)
    (case kr_ev_InvalidFraction => first | kernel_rfl | rfl | decide +kernel)
    (case ei_InvalidFraction => first | k_is | kernel_rfl | rfl | decide +kernel)
    (case kr_eb_InvalidFraction => first | kernel_rfl | rfl | decide +kernel)
    (case el_InvalidFraction => first | k_is | kernel_rfl | rfl | decide +kernel)
    (case ec_InvalidFraction => first | k_is | kernel_rfl | rfl | decide +kernel)
    (case ca_InvalidText => first | k_is | kernel_rfl | rfl | decide +kernel)
    (case ex_InvalidText => first | k_is | kernel_rfl | rfl | decide +kernel)
    (case kr_ev_InvalidText => first | kernel_rfl | rfl | decide +kernel)
    (case ei_InvalidText => first | k_is | kernel_rfl | rfl | decide +kernel)
    (case kr_eb_InvalidText => first | kernel_rfl | rfl | decide +kernel)
    (case el_InvalidText => first | k_is | kernel_rfl | rfl | decide +kernel)
    (case ec_InvalidText => first | k_is | kernel_rfl | rfl | decide +kernel)
    (case ktq_xe_InvalidText => first | k_is | kernel_rfl | rfl | decide +kernel)
    (case ktq_xf_InvalidText => first | k_is | kernel_rfl | rfl | decide +kernel)
    (case ktq_xn_InvalidText => first | k_is | kernel_rfl | rfl | decide +kernel)
