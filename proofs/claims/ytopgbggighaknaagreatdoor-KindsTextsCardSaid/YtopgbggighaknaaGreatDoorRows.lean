/-
  NARROWER THAN 'FOR EVERY INPUT', by the rows' own cells (each row's printed sentence says how): KindsAdds: laid · KindsTexts: laid · KindsKeeps: laid · KindsBack: laid · KindsOne: laid.
  DERIVED. THE GIVEN ROWS OF THIS SEAT. 5 by the template 'for every input the law returns true; each argument reads behind the call as it read before'; 0 by the template 'total and deterministic' (their statements: YtopgbggighaknaaGreatDoorTotals.lean).
  GIVEN WITH THE SEED: the statements are not yours to turn. If you find one false, say at which input.
  Laid BY PROGRAM, IN A SANDBOX (cutbox-rows.mjs): the forced cells as the released guide's own fill.sh prints them over the translation cfbaf87820319cb9… (all of the seat's roots in one cut). By AI agents, Wed Nov 11 2026. No macro, syntax, notation, axiom, sorry.
-/
import Derived.Test.YtopgbggighaknaaGreatDoorChecked
import GoSem.Claim
import GoSem.ClaimJoined
import GoSem.ClaimMapViews
import Derived.JoinedTies
import Derived.KernelRfl
namespace Go.Proofs.YtopgbggighaknaaGreatDoor
/- THE CELL 'sum', in the pinned program and in every row, IS THE sha256 OF THE DUMP (.gsa) THAT YtopgbggighaknaaGreatDoorProg.lean LOADS. Nothing in Lean hashes anything: it is a label: what it is worth is what the hold of that sum in a sandbox is worth. -/
noncomputable def Tryz.pinned : Pinned := { name := "ytopgbggighaknaagreatdoor", sum := "cfbaf87820319cb9518f8879e9be7c6b9d7b9c25b4975a79117b53c69c3fd147", checked := Tryz.checked }
namespace Rows
def none {H : Type} : Left H := { results := [], args := [] }

/- WHAT THE LISTED PACKAGE-LEVEL VARIABLES READ AS WHEN THE CALL BEGINS. Each datum BY PROGRAM (the guide's laid-datum.mjs) off the statement by which the dump's own 'gosem.cut.vars' lays the variable. In a bare row this is a premise. The card (YtopgbggighaknaaGreatDoorCards.lean) ties it to the program's text. -/
def laid_math_bits_deBruijn32tab {H : Type} : DataW H := .agg [.lit (.int .u8 0), .lit (.int .u8 1), .lit (.int .u8 28), .lit (.int .u8 2), .lit (.int .u8 29), .lit (.int .u8 14), .lit (.int .u8 24), .lit (.int .u8 3), .lit (.int .u8 30), .lit (.int .u8 22), .lit (.int .u8 20), .lit (.int .u8 15), .lit (.int .u8 25), .lit (.int .u8 17), .lit (.int .u8 4), .lit (.int .u8 8), .lit (.int .u8 31), .lit (.int .u8 27), .lit (.int .u8 13), .lit (.int .u8 23), .lit (.int .u8 21), .lit (.int .u8 19), .lit (.int .u8 16), .lit (.int .u8 7), .lit (.int .u8 26), .lit (.int .u8 12), .lit (.int .u8 18), .lit (.int .u8 6), .lit (.int .u8 11), .lit (.int .u8 5), .lit (.int .u8 10), .lit (.int .u8 9)]
def laid_math_bits_deBruijn64tab {H : Type} : DataW H := .agg [.lit (.int .u8 0), .lit (.int .u8 1), .lit (.int .u8 56), .lit (.int .u8 2), .lit (.int .u8 57), .lit (.int .u8 49), .lit (.int .u8 28), .lit (.int .u8 3), .lit (.int .u8 61), .lit (.int .u8 58), .lit (.int .u8 42), .lit (.int .u8 50), .lit (.int .u8 38), .lit (.int .u8 29), .lit (.int .u8 17), .lit (.int .u8 4), .lit (.int .u8 62), .lit (.int .u8 47), .lit (.int .u8 59), .lit (.int .u8 36), .lit (.int .u8 45), .lit (.int .u8 43), .lit (.int .u8 51), .lit (.int .u8 22), .lit (.int .u8 53), .lit (.int .u8 39), .lit (.int .u8 33), .lit (.int .u8 30), .lit (.int .u8 24), .lit (.int .u8 18), .lit (.int .u8 12), .lit (.int .u8 5), .lit (.int .u8 63), .lit (.int .u8 55), .lit (.int .u8 48), .lit (.int .u8 27), .lit (.int .u8 60), .lit (.int .u8 41), .lit (.int .u8 37), .lit (.int .u8 16), .lit (.int .u8 46), .lit (.int .u8 35), .lit (.int .u8 44), .lit (.int .u8 21), .lit (.int .u8 52), .lit (.int .u8 32), .lit (.int .u8 23), .lit (.int .u8 11), .lit (.int .u8 54), .lit (.int .u8 26), .lit (.int .u8 40), .lit (.int .u8 15), .lit (.int .u8 34), .lit (.int .u8 20), .lit (.int .u8 31), .lit (.int .u8 10), .lit (.int .u8 25), .lit (.int .u8 14), .lit (.int .u8 19), .lit (.int .u8 9), .lit (.int .u8 13), .lit (.int .u8 8), .lit (.int .u8 7), .lit (.int .u8 6)]
def laid_internal_strconv_uint64pow10 {H : Type} : DataW H := .agg [.lit (.int .u64 1), .lit (.int .u64 10), .lit (.int .u64 100), .lit (.int .u64 1000), .lit (.int .u64 10000), .lit (.int .u64 100000), .lit (.int .u64 1000000), .lit (.int .u64 10000000), .lit (.int .u64 100000000), .lit (.int .u64 1000000000), .lit (.int .u64 10000000000), .lit (.int .u64 100000000000), .lit (.int .u64 1000000000000), .lit (.int .u64 10000000000000), .lit (.int .u64 100000000000000), .lit (.int .u64 1000000000000000), .lit (.int .u64 10000000000000000), .lit (.int .u64 100000000000000000), .lit (.int .u64 1000000000000000000), .lit (.int .u64 10000000000000000000)]
def laid_errors_errorType {H : Type} : DataW H := .iface "internal/reflectlite.rtype" (.agg [.ptr (.lit (.string [101, 114, 114, 111, 114]))])
def laid_selion_desc_errDesc {H : Type} : DataW H := .iface "*errors.errorString" (.ptr (.agg [.lit (.string [100, 101, 115, 99, 58, 32, 110, 111, 32, 114, 105, 103, 104, 116, 32, 100, 101, 115, 99, 114, 105, 112, 116, 111, 114])]))
def laid_selion_desc_errText {H : Type} : DataW H := .iface "*errors.errorString" (.ptr (.agg [.lit (.string [100, 101, 115, 99, 58, 32, 110, 111, 32, 100, 101, 115, 99, 114, 105, 112, 116, 111, 114, 39, 115, 32, 116, 101, 120, 116])]))
def laid_selion_kinds_errDesc {H : Type} : DataW H := .iface "*errors.errorString" (.ptr (.agg [.lit (.string [107, 105, 110, 100, 115, 58, 32, 110, 111, 32, 114, 105, 103, 104, 116, 32, 100, 101, 115, 99, 114, 105, 112, 116, 111, 114])]))
def laid_selion_kinds_errEnd {H : Type} : DataW H := .iface "*errors.errorString" (.ptr (.agg [.lit (.string [107, 105, 110, 100, 115, 58, 32, 97, 32, 108, 105, 110, 101, 32, 119, 105, 116, 104, 111, 117, 116, 32, 97, 110, 32, 101, 110, 100])]))
def laid_selion_kinds_errTwice {H : Type} : DataW H := .iface "*errors.errorString" (.ptr (.agg [.lit (.string [107, 105, 110, 100, 115, 58, 32, 116, 104, 101, 32, 115, 97, 109, 101, 32, 97, 115, 32, 97, 110, 32, 101, 97, 114, 108, 105, 101, 114, 32, 111, 110, 101])]))
def laid_selion_kinds_errMany {H : Type} : DataW H := .iface "*errors.errorString" (.ptr (.agg [.lit (.string [107, 105, 110, 100, 115, 58, 32, 116, 111, 111, 32, 109, 97, 110, 121])]))
def laid_selion_kinds_errKind {H : Type} : DataW H := .iface "*errors.errorString" (.ptr (.agg [.lit (.string [107, 105, 110, 100, 115, 58, 32, 110, 111, 32, 107, 105, 110, 100, 39, 115, 32, 110, 117, 109, 98, 101, 114])]))

/-- 'selionlaw05.KindsAdds': WHATEVER THE INPUT: true; the input reads as it did. -/
def kindsAddsSpec : ChangeSpec := { name := "kindsAdds", fn := fun _ => fun
  | [d1, d2, d3, d4] => { results := [.lit (.bool true)], args := [d1, d2, d3, d4] }
  | _ => none }
def kindsAddsRow : OpenClaim := { program := "ytopgbggighaknaagreatdoor", sum := "cfbaf87820319cb9518f8879e9be7c6b9d7b9c25b4975a79117b53c69c3fd147", func := "selion/selionlaw05.KindsAdds", spec := "kindsAdds", inPlace := ["internal/reflectlite.ValueOf", "(internal/reflectlite.Value).Type", "(internal/reflectlite.Value).IsNil", "internal/reflectlite.TypeOf", "(internal/reflectlite.Value).Elem", "(internal/reflectlite.Value).Set", "internal/abi.NoEscape", "internal/bytealg.IndexByteString"], unfollowed := true, recurses := true, named := ["selion/kinds.errMany", "selion/kinds.errTwice", "selion/kinds.errDesc", "errors.errorType", "selion/desc.errDesc", "internal/strconv.uint64pow10", "math/bits.deBruijn32tab", "math/bits.deBruijn64tab", "selion/kinds.errEnd", "selion/desc.errText", "selion/kinds.errKind"], apart := false, laid := [("math/bits.deBruijn32tab", laid_math_bits_deBruijn32tab), ("math/bits.deBruijn64tab", laid_math_bits_deBruijn64tab), ("internal/strconv.uint64pow10", laid_internal_strconv_uint64pow10), ("errors.errorType", laid_errors_errorType), ("selion/desc.errDesc", laid_selion_desc_errDesc), ("selion/desc.errText", laid_selion_desc_errText), ("selion/kinds.errDesc", laid_selion_kinds_errDesc), ("selion/kinds.errEnd", laid_selion_kinds_errEnd), ("selion/kinds.errTwice", laid_selion_kinds_errTwice), ("selion/kinds.errMany", laid_selion_kinds_errMany), ("selion/kinds.errKind", laid_selion_kinds_errKind)] }
def KindsAddsSaid : Prop := kindsAddsRow.holds Tryz.pinned (OpenSpec.ofChange kindsAddsSpec)

/-- ITS FALSE NEIGHBOUR: 'it returns false'. Refute it at one input. -/
def kindsAddsWrong : ChangeSpec := { name := "kindsAdds", fn := fun _ => fun
  | [d1, d2, d3, d4] => { results := [.lit (.bool false)], args := [d1, d2, d3, d4] }
  | _ => none }
def KindsAddsWrongFalsely : Prop := kindsAddsRow.holds Tryz.pinned (OpenSpec.ofChange kindsAddsWrong)

/-- 'selionlaw05.KindsTexts': WHATEVER THE INPUT: true; the input reads as it did. -/
def kindsTextsSpec : ChangeSpec := { name := "kindsTexts", fn := fun _ => fun
  | [d1, d2] => { results := [.lit (.bool true)], args := [d1, d2] }
  | _ => none }
def kindsTextsRow : OpenClaim := { program := "ytopgbggighaknaagreatdoor", sum := "cfbaf87820319cb9518f8879e9be7c6b9d7b9c25b4975a79117b53c69c3fd147", func := "selion/selionlaw05.KindsTexts", spec := "kindsTexts", inPlace := ["internal/reflectlite.ValueOf", "(internal/reflectlite.Value).Type", "(internal/reflectlite.Value).IsNil", "internal/reflectlite.TypeOf", "(internal/reflectlite.Value).Elem", "(internal/reflectlite.Value).Set", "internal/abi.NoEscape", "internal/bytealg.IndexByteString"], unfollowed := true, recurses := true, named := ["selion/kinds.errMany", "selion/kinds.errTwice", "selion/kinds.errDesc", "errors.errorType", "selion/desc.errDesc", "internal/strconv.uint64pow10", "math/bits.deBruijn32tab", "math/bits.deBruijn64tab", "selion/kinds.errEnd", "selion/desc.errText", "selion/kinds.errKind"], apart := false, laid := [("math/bits.deBruijn32tab", laid_math_bits_deBruijn32tab), ("math/bits.deBruijn64tab", laid_math_bits_deBruijn64tab), ("internal/strconv.uint64pow10", laid_internal_strconv_uint64pow10), ("errors.errorType", laid_errors_errorType), ("selion/desc.errDesc", laid_selion_desc_errDesc), ("selion/desc.errText", laid_selion_desc_errText), ("selion/kinds.errDesc", laid_selion_kinds_errDesc), ("selion/kinds.errEnd", laid_selion_kinds_errEnd), ("selion/kinds.errTwice", laid_selion_kinds_errTwice), ("selion/kinds.errMany", laid_selion_kinds_errMany), ("selion/kinds.errKind", laid_selion_kinds_errKind)] }
def KindsTextsSaid : Prop := kindsTextsRow.holds Tryz.pinned (OpenSpec.ofChange kindsTextsSpec)

/-- ITS FALSE NEIGHBOUR: 'it returns false'. Refute it at one input. -/
def kindsTextsWrong : ChangeSpec := { name := "kindsTexts", fn := fun _ => fun
  | [d1, d2] => { results := [.lit (.bool false)], args := [d1, d2] }
  | _ => none }
def KindsTextsWrongFalsely : Prop := kindsTextsRow.holds Tryz.pinned (OpenSpec.ofChange kindsTextsWrong)

/-- 'selionlaw05.KindsKeeps': WHATEVER THE INPUT: true; the input reads as it did. -/
def kindsKeepsSpec : ChangeSpec := { name := "kindsKeeps", fn := fun _ => fun
  | [d1, d2, d3] => { results := [.lit (.bool true)], args := [d1, d2, d3] }
  | _ => none }
def kindsKeepsRow : OpenClaim := { program := "ytopgbggighaknaagreatdoor", sum := "cfbaf87820319cb9518f8879e9be7c6b9d7b9c25b4975a79117b53c69c3fd147", func := "selion/selionlaw05.KindsKeeps", spec := "kindsKeeps", inPlace := ["internal/reflectlite.ValueOf", "(internal/reflectlite.Value).Type", "(internal/reflectlite.Value).IsNil", "internal/reflectlite.TypeOf", "(internal/reflectlite.Value).Elem", "(internal/reflectlite.Value).Set", "internal/abi.NoEscape", "internal/bytealg.IndexByteString"], unfollowed := true, recurses := true, named := ["selion/kinds.errMany", "selion/kinds.errTwice", "selion/kinds.errDesc", "errors.errorType", "selion/desc.errDesc", "internal/strconv.uint64pow10", "math/bits.deBruijn32tab", "math/bits.deBruijn64tab", "selion/kinds.errEnd", "selion/desc.errText", "selion/kinds.errKind"], apart := false, laid := [("math/bits.deBruijn32tab", laid_math_bits_deBruijn32tab), ("math/bits.deBruijn64tab", laid_math_bits_deBruijn64tab), ("internal/strconv.uint64pow10", laid_internal_strconv_uint64pow10), ("errors.errorType", laid_errors_errorType), ("selion/desc.errDesc", laid_selion_desc_errDesc), ("selion/desc.errText", laid_selion_desc_errText), ("selion/kinds.errDesc", laid_selion_kinds_errDesc), ("selion/kinds.errEnd", laid_selion_kinds_errEnd), ("selion/kinds.errTwice", laid_selion_kinds_errTwice), ("selion/kinds.errMany", laid_selion_kinds_errMany), ("selion/kinds.errKind", laid_selion_kinds_errKind)] }
def KindsKeepsSaid : Prop := kindsKeepsRow.holds Tryz.pinned (OpenSpec.ofChange kindsKeepsSpec)

/-- ITS FALSE NEIGHBOUR: 'it returns false'. Refute it at one input. -/
def kindsKeepsWrong : ChangeSpec := { name := "kindsKeeps", fn := fun _ => fun
  | [d1, d2, d3] => { results := [.lit (.bool false)], args := [d1, d2, d3] }
  | _ => none }
def KindsKeepsWrongFalsely : Prop := kindsKeepsRow.holds Tryz.pinned (OpenSpec.ofChange kindsKeepsWrong)

/-- 'selionlaw05.KindsBack': WHATEVER THE INPUT: true; the input reads as it did. -/
def kindsBackSpec : ChangeSpec := { name := "kindsBack", fn := fun _ => fun
  | [d1, d2] => { results := [.lit (.bool true)], args := [d1, d2] }
  | _ => none }
def kindsBackRow : OpenClaim := { program := "ytopgbggighaknaagreatdoor", sum := "cfbaf87820319cb9518f8879e9be7c6b9d7b9c25b4975a79117b53c69c3fd147", func := "selion/selionlaw05.KindsBack", spec := "kindsBack", inPlace := ["internal/reflectlite.ValueOf", "(internal/reflectlite.Value).Type", "(internal/reflectlite.Value).IsNil", "internal/reflectlite.TypeOf", "(internal/reflectlite.Value).Elem", "(internal/reflectlite.Value).Set", "internal/abi.NoEscape", "internal/bytealg.IndexByteString"], unfollowed := true, recurses := true, named := ["selion/kinds.errMany", "selion/kinds.errTwice", "selion/kinds.errDesc", "errors.errorType", "selion/desc.errDesc", "internal/strconv.uint64pow10", "math/bits.deBruijn32tab", "math/bits.deBruijn64tab", "selion/kinds.errEnd", "selion/desc.errText", "selion/kinds.errKind"], apart := false, laid := [("math/bits.deBruijn32tab", laid_math_bits_deBruijn32tab), ("math/bits.deBruijn64tab", laid_math_bits_deBruijn64tab), ("internal/strconv.uint64pow10", laid_internal_strconv_uint64pow10), ("errors.errorType", laid_errors_errorType), ("selion/desc.errDesc", laid_selion_desc_errDesc), ("selion/desc.errText", laid_selion_desc_errText), ("selion/kinds.errDesc", laid_selion_kinds_errDesc), ("selion/kinds.errEnd", laid_selion_kinds_errEnd), ("selion/kinds.errTwice", laid_selion_kinds_errTwice), ("selion/kinds.errMany", laid_selion_kinds_errMany), ("selion/kinds.errKind", laid_selion_kinds_errKind)] }
def KindsBackSaid : Prop := kindsBackRow.holds Tryz.pinned (OpenSpec.ofChange kindsBackSpec)

/-- ITS FALSE NEIGHBOUR: 'it returns false'. Refute it at one input. -/
def kindsBackWrong : ChangeSpec := { name := "kindsBack", fn := fun _ => fun
  | [d1, d2] => { results := [.lit (.bool false)], args := [d1, d2] }
  | _ => none }
def KindsBackWrongFalsely : Prop := kindsBackRow.holds Tryz.pinned (OpenSpec.ofChange kindsBackWrong)

/-- 'selionlaw05.KindsOne': WHATEVER THE INPUT: true; the input reads as it did. -/
def kindsOneSpec : ChangeSpec := { name := "kindsOne", fn := fun _ => fun
  | [d] => { results := [.lit (.bool true)], args := [d] }
  | _ => none }
def kindsOneRow : OpenClaim := { program := "ytopgbggighaknaagreatdoor", sum := "cfbaf87820319cb9518f8879e9be7c6b9d7b9c25b4975a79117b53c69c3fd147", func := "selion/selionlaw05.KindsOne", spec := "kindsOne", inPlace := ["internal/reflectlite.ValueOf", "(internal/reflectlite.Value).Type", "(internal/reflectlite.Value).IsNil", "internal/reflectlite.TypeOf", "(internal/reflectlite.Value).Elem", "(internal/reflectlite.Value).Set", "internal/abi.NoEscape", "internal/bytealg.IndexByteString"], unfollowed := true, recurses := true, named := ["selion/kinds.errMany", "selion/kinds.errTwice", "selion/kinds.errDesc", "errors.errorType", "selion/desc.errDesc", "internal/strconv.uint64pow10", "math/bits.deBruijn32tab", "math/bits.deBruijn64tab", "selion/kinds.errEnd", "selion/desc.errText", "selion/kinds.errKind"], apart := false, laid := [("math/bits.deBruijn32tab", laid_math_bits_deBruijn32tab), ("math/bits.deBruijn64tab", laid_math_bits_deBruijn64tab), ("internal/strconv.uint64pow10", laid_internal_strconv_uint64pow10), ("errors.errorType", laid_errors_errorType), ("selion/desc.errDesc", laid_selion_desc_errDesc), ("selion/desc.errText", laid_selion_desc_errText), ("selion/kinds.errDesc", laid_selion_kinds_errDesc), ("selion/kinds.errEnd", laid_selion_kinds_errEnd), ("selion/kinds.errTwice", laid_selion_kinds_errTwice), ("selion/kinds.errMany", laid_selion_kinds_errMany), ("selion/kinds.errKind", laid_selion_kinds_errKind)] }
def KindsOneSaid : Prop := kindsOneRow.holds Tryz.pinned (OpenSpec.ofChange kindsOneSpec)

/-- ITS FALSE NEIGHBOUR: 'it returns false'. Refute it at one input. -/
def kindsOneWrong : ChangeSpec := { name := "kindsOne", fn := fun _ => fun
  | [d] => { results := [.lit (.bool false)], args := [d] }
  | _ => none }
def KindsOneWrongFalsely : Prop := kindsOneRow.holds Tryz.pinned (OpenSpec.ofChange kindsOneWrong)

/- THE SECOND FORM. 'bulk': how many values and letters a reading holds, each counted each time it is reached (what is shared counts as often as it is met; a slice's spare places count too). A statement '..UptoSaid' is the law's where the arguments, and the package variables that the reading takes, are together of bulk at most 1048576: NARROWER than '..Said'. Prove '..Said' where nothing that the law and all that it calls make is longer than what came in: it says more and counts as full. Else prove '..UptoSaid'. A law counts once. -/
mutual
def uptoBulk {H : Type} : DataW H → Nat
  | .lit (.string bytes) => bytes.length + 1
  | .lit _ => 1
  | .nil => 1
  | .ptr d => uptoBulk d + 1
  | .slice elems spare => uptoBulkAll elems + uptoBulkAll spare + 1
  | .agg parts => uptoBulkAll parts + 1
  | .iface _ d => uptoBulk d + 1
  | .map entries => uptoBulkEntries entries + 1
  | .held _ => 1
def uptoBulkAll {H : Type} : List (DataW H) → Nat
  | [] => 0
  | d :: r => uptoBulk d + uptoBulkAll r
def uptoBulkEntries {H : Type} : List (Lit × DataW H) → Nat
  | [] => 0
  | x :: r => uptoBulkEntry x + uptoBulkEntries r
def uptoBulkEntry {H : Type} : Lit × DataW H → Nat
  | (.string bytes, d) => bytes.length + uptoBulk d + 1
  | (_, d) => uptoBulk d + 1
 end
def uptoSmall : (H : Type) → List (DataW H) → Bool := fun _ ds => decide (uptoBulkAll ds ≤ 1048576)
def OpenSpec.upto (s : _root_.Go.ChangeSpec) : _root_.Go.OpenSpec := { _root_.Go.OpenSpec.ofChange s with cond := some uptoSmall }

/-- 'selionlaw05.KindsAdds', WHERE WHAT IT READS IS OF BULK AT MOST 1048576: true; the input reads as it did. -/
def kindsAddsUptoRow : OpenClaim := { program := "ytopgbggighaknaagreatdoor", sum := "cfbaf87820319cb9518f8879e9be7c6b9d7b9c25b4975a79117b53c69c3fd147", func := "selion/selionlaw05.KindsAdds", spec := "kindsAdds", inPlace := ["internal/reflectlite.ValueOf", "(internal/reflectlite.Value).Type", "(internal/reflectlite.Value).IsNil", "internal/reflectlite.TypeOf", "(internal/reflectlite.Value).Elem", "(internal/reflectlite.Value).Set", "internal/abi.NoEscape", "internal/bytealg.IndexByteString"], unfollowed := true, recurses := true, named := ["selion/kinds.errMany", "selion/kinds.errTwice", "selion/kinds.errDesc", "errors.errorType", "selion/desc.errDesc", "internal/strconv.uint64pow10", "math/bits.deBruijn32tab", "math/bits.deBruijn64tab", "selion/kinds.errEnd", "selion/desc.errText", "selion/kinds.errKind"], apart := false, laid := [("math/bits.deBruijn32tab", laid_math_bits_deBruijn32tab), ("math/bits.deBruijn64tab", laid_math_bits_deBruijn64tab), ("internal/strconv.uint64pow10", laid_internal_strconv_uint64pow10), ("errors.errorType", laid_errors_errorType), ("selion/desc.errDesc", laid_selion_desc_errDesc), ("selion/desc.errText", laid_selion_desc_errText), ("selion/kinds.errDesc", laid_selion_kinds_errDesc), ("selion/kinds.errEnd", laid_selion_kinds_errEnd), ("selion/kinds.errTwice", laid_selion_kinds_errTwice), ("selion/kinds.errMany", laid_selion_kinds_errMany), ("selion/kinds.errKind", laid_selion_kinds_errKind)], narrowed := true }
def KindsAddsUptoSaid : Prop := kindsAddsUptoRow.holds Tryz.pinned (OpenSpec.upto kindsAddsSpec)

/-- 'selionlaw05.KindsTexts', WHERE WHAT IT READS IS OF BULK AT MOST 1048576: true; the input reads as it did. -/
def kindsTextsUptoRow : OpenClaim := { program := "ytopgbggighaknaagreatdoor", sum := "cfbaf87820319cb9518f8879e9be7c6b9d7b9c25b4975a79117b53c69c3fd147", func := "selion/selionlaw05.KindsTexts", spec := "kindsTexts", inPlace := ["internal/reflectlite.ValueOf", "(internal/reflectlite.Value).Type", "(internal/reflectlite.Value).IsNil", "internal/reflectlite.TypeOf", "(internal/reflectlite.Value).Elem", "(internal/reflectlite.Value).Set", "internal/abi.NoEscape", "internal/bytealg.IndexByteString"], unfollowed := true, recurses := true, named := ["selion/kinds.errMany", "selion/kinds.errTwice", "selion/kinds.errDesc", "errors.errorType", "selion/desc.errDesc", "internal/strconv.uint64pow10", "math/bits.deBruijn32tab", "math/bits.deBruijn64tab", "selion/kinds.errEnd", "selion/desc.errText", "selion/kinds.errKind"], apart := false, laid := [("math/bits.deBruijn32tab", laid_math_bits_deBruijn32tab), ("math/bits.deBruijn64tab", laid_math_bits_deBruijn64tab), ("internal/strconv.uint64pow10", laid_internal_strconv_uint64pow10), ("errors.errorType", laid_errors_errorType), ("selion/desc.errDesc", laid_selion_desc_errDesc), ("selion/desc.errText", laid_selion_desc_errText), ("selion/kinds.errDesc", laid_selion_kinds_errDesc), ("selion/kinds.errEnd", laid_selion_kinds_errEnd), ("selion/kinds.errTwice", laid_selion_kinds_errTwice), ("selion/kinds.errMany", laid_selion_kinds_errMany), ("selion/kinds.errKind", laid_selion_kinds_errKind)], narrowed := true }
def KindsTextsUptoSaid : Prop := kindsTextsUptoRow.holds Tryz.pinned (OpenSpec.upto kindsTextsSpec)

/-- 'selionlaw05.KindsKeeps', WHERE WHAT IT READS IS OF BULK AT MOST 1048576: true; the input reads as it did. -/
def kindsKeepsUptoRow : OpenClaim := { program := "ytopgbggighaknaagreatdoor", sum := "cfbaf87820319cb9518f8879e9be7c6b9d7b9c25b4975a79117b53c69c3fd147", func := "selion/selionlaw05.KindsKeeps", spec := "kindsKeeps", inPlace := ["internal/reflectlite.ValueOf", "(internal/reflectlite.Value).Type", "(internal/reflectlite.Value).IsNil", "internal/reflectlite.TypeOf", "(internal/reflectlite.Value).Elem", "(internal/reflectlite.Value).Set", "internal/abi.NoEscape", "internal/bytealg.IndexByteString"], unfollowed := true, recurses := true, named := ["selion/kinds.errMany", "selion/kinds.errTwice", "selion/kinds.errDesc", "errors.errorType", "selion/desc.errDesc", "internal/strconv.uint64pow10", "math/bits.deBruijn32tab", "math/bits.deBruijn64tab", "selion/kinds.errEnd", "selion/desc.errText", "selion/kinds.errKind"], apart := false, laid := [("math/bits.deBruijn32tab", laid_math_bits_deBruijn32tab), ("math/bits.deBruijn64tab", laid_math_bits_deBruijn64tab), ("internal/strconv.uint64pow10", laid_internal_strconv_uint64pow10), ("errors.errorType", laid_errors_errorType), ("selion/desc.errDesc", laid_selion_desc_errDesc), ("selion/desc.errText", laid_selion_desc_errText), ("selion/kinds.errDesc", laid_selion_kinds_errDesc), ("selion/kinds.errEnd", laid_selion_kinds_errEnd), ("selion/kinds.errTwice", laid_selion_kinds_errTwice), ("selion/kinds.errMany", laid_selion_kinds_errMany), ("selion/kinds.errKind", laid_selion_kinds_errKind)], narrowed := true }
def KindsKeepsUptoSaid : Prop := kindsKeepsUptoRow.holds Tryz.pinned (OpenSpec.upto kindsKeepsSpec)

/-- 'selionlaw05.KindsBack', WHERE WHAT IT READS IS OF BULK AT MOST 1048576: true; the input reads as it did. -/
def kindsBackUptoRow : OpenClaim := { program := "ytopgbggighaknaagreatdoor", sum := "cfbaf87820319cb9518f8879e9be7c6b9d7b9c25b4975a79117b53c69c3fd147", func := "selion/selionlaw05.KindsBack", spec := "kindsBack", inPlace := ["internal/reflectlite.ValueOf", "(internal/reflectlite.Value).Type", "(internal/reflectlite.Value).IsNil", "internal/reflectlite.TypeOf", "(internal/reflectlite.Value).Elem", "(internal/reflectlite.Value).Set", "internal/abi.NoEscape", "internal/bytealg.IndexByteString"], unfollowed := true, recurses := true, named := ["selion/kinds.errMany", "selion/kinds.errTwice", "selion/kinds.errDesc", "errors.errorType", "selion/desc.errDesc", "internal/strconv.uint64pow10", "math/bits.deBruijn32tab", "math/bits.deBruijn64tab", "selion/kinds.errEnd", "selion/desc.errText", "selion/kinds.errKind"], apart := false, laid := [("math/bits.deBruijn32tab", laid_math_bits_deBruijn32tab), ("math/bits.deBruijn64tab", laid_math_bits_deBruijn64tab), ("internal/strconv.uint64pow10", laid_internal_strconv_uint64pow10), ("errors.errorType", laid_errors_errorType), ("selion/desc.errDesc", laid_selion_desc_errDesc), ("selion/desc.errText", laid_selion_desc_errText), ("selion/kinds.errDesc", laid_selion_kinds_errDesc), ("selion/kinds.errEnd", laid_selion_kinds_errEnd), ("selion/kinds.errTwice", laid_selion_kinds_errTwice), ("selion/kinds.errMany", laid_selion_kinds_errMany), ("selion/kinds.errKind", laid_selion_kinds_errKind)], narrowed := true }
def KindsBackUptoSaid : Prop := kindsBackUptoRow.holds Tryz.pinned (OpenSpec.upto kindsBackSpec)

/-- 'selionlaw05.KindsOne', WHERE WHAT IT READS IS OF BULK AT MOST 1048576: true; the input reads as it did. -/
def kindsOneUptoRow : OpenClaim := { program := "ytopgbggighaknaagreatdoor", sum := "cfbaf87820319cb9518f8879e9be7c6b9d7b9c25b4975a79117b53c69c3fd147", func := "selion/selionlaw05.KindsOne", spec := "kindsOne", inPlace := ["internal/reflectlite.ValueOf", "(internal/reflectlite.Value).Type", "(internal/reflectlite.Value).IsNil", "internal/reflectlite.TypeOf", "(internal/reflectlite.Value).Elem", "(internal/reflectlite.Value).Set", "internal/abi.NoEscape", "internal/bytealg.IndexByteString"], unfollowed := true, recurses := true, named := ["selion/kinds.errMany", "selion/kinds.errTwice", "selion/kinds.errDesc", "errors.errorType", "selion/desc.errDesc", "internal/strconv.uint64pow10", "math/bits.deBruijn32tab", "math/bits.deBruijn64tab", "selion/kinds.errEnd", "selion/desc.errText", "selion/kinds.errKind"], apart := false, laid := [("math/bits.deBruijn32tab", laid_math_bits_deBruijn32tab), ("math/bits.deBruijn64tab", laid_math_bits_deBruijn64tab), ("internal/strconv.uint64pow10", laid_internal_strconv_uint64pow10), ("errors.errorType", laid_errors_errorType), ("selion/desc.errDesc", laid_selion_desc_errDesc), ("selion/desc.errText", laid_selion_desc_errText), ("selion/kinds.errDesc", laid_selion_kinds_errDesc), ("selion/kinds.errEnd", laid_selion_kinds_errEnd), ("selion/kinds.errTwice", laid_selion_kinds_errTwice), ("selion/kinds.errMany", laid_selion_kinds_errMany), ("selion/kinds.errKind", laid_selion_kinds_errKind)], narrowed := true }
def KindsOneUptoSaid : Prop := kindsOneUptoRow.holds Tryz.pinned (OpenSpec.upto kindsOneSpec)

end Rows
end Go.Proofs.YtopgbggighaknaaGreatDoor
