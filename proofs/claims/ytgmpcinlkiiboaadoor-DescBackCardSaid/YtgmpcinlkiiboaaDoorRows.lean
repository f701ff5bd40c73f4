/-
  NARROWER THAN 'FOR EVERY INPUT', by the rows' own cells (each row's printed sentence says how): DescTells: laid · DescLengths: laid · DescBack: laid · DescSlots: laid · DescGrows: laid.
  DERIVED. THE GIVEN ROWS OF THIS SEAT. 5 by the template 'for every input the law returns true; each argument reads behind the call as it read before'; 0 by the template 'total and deterministic' (their statements: YtgmpcinlkiiboaaDoorTotals.lean).
  GIVEN WITH THE SEED: the statements are not yours to turn. If you find one false, say at which input.
  Laid BY PROGRAM, IN A SANDBOX (cutbox-rows.mjs): the forced cells as the released guide's own fill.sh prints them over the translation 9a62582c172a081a… (all of the seat's roots in one cut). By AI agents, Wed Nov 11 2026. No macro, syntax, notation, axiom, sorry.
-/
import Derived.Test.YtgmpcinlkiiboaaDoorChecked
import GoSem.Claim
import GoSem.ClaimJoined
import GoSem.ClaimMapViews
import Derived.JoinedTies
import Derived.KernelRfl
namespace Go.Proofs.YtgmpcinlkiiboaaDoor
/- THE CELL 'sum', in the pinned program and in every row, IS THE sha256 OF THE DUMP (.gsa) THAT YtgmpcinlkiiboaaDoorProg.lean LOADS. Nothing in Lean hashes anything: it is a label: what it is worth is what the hold of that sum in a sandbox is worth. -/
noncomputable def Tryd.pinned : Pinned := { name := "ytgmpcinlkiiboaadoor", sum := "9a62582c172a081a7da27cf18d6fcf42fe9a21cd125752cf1f15f1dea51ff676", checked := Tryd.checked }
namespace Rows
def none {H : Type} : Left H := { results := [], args := [] }

/- WHAT THE LISTED PACKAGE-LEVEL VARIABLES READ AS WHEN THE CALL BEGINS. Each datum BY PROGRAM (the guide's laid-datum.mjs) off the statement by which the dump's own 'gosem.cut.vars' lays the variable. In a bare row this is a premise. The card (YtgmpcinlkiiboaaDoorCards.lean) ties it to the program's text. -/
def laid_errors_errorType {H : Type} : DataW H := .iface "internal/reflectlite.rtype" (.agg [.ptr (.lit (.string [101, 114, 114, 111, 114]))])
def laid_selion_addr_classes {H : Type} : DataW H := .agg [.agg [.lit (.int .i64 1), .lit (.int .i64 1), .lit (.int .i64 128)], .agg [.lit (.int .i64 2), .lit (.int .i64 129), .lit (.int .i64 2048)], .agg [.lit (.int .i64 3), .lit (.int .i64 2049), .lit (.int .i64 131072)]]
def laid_selion_addr_errAddr {H : Type} : DataW H := .iface "*errors.errorString" (.ptr (.agg [.lit (.string [97, 100, 100, 114, 58, 32, 110, 111, 32, 97, 100, 100, 114, 101, 115, 115])]))
def laid_selion_addr_errSize {H : Type} : DataW H := .iface "*errors.errorString" (.ptr (.agg [.lit (.string [97, 100, 100, 114, 58, 32, 110, 111, 32, 115, 105, 122, 101])]))
def laid_selion_addr_errRef {H : Type} : DataW H := .iface "*errors.errorString" (.ptr (.agg [.lit (.string [97, 100, 100, 114, 58, 32, 110, 111, 32, 114, 101, 102, 101, 114, 101, 110, 99, 101])]))
def laid_selion_desc_errDesc {H : Type} : DataW H := .iface "*errors.errorString" (.ptr (.agg [.lit (.string [100, 101, 115, 99, 58, 32, 110, 111, 32, 114, 105, 103, 104, 116, 32, 100, 101, 115, 99, 114, 105, 112, 116, 111, 114])]))
def laid_selion_desc_errLen {H : Type} : DataW H := .iface "*errors.errorString" (.ptr (.agg [.lit (.string [100, 101, 115, 99, 58, 32, 110, 111, 32, 108, 101, 110, 103, 116, 104, 32, 102, 111, 114, 32, 105, 116])]))
def laid_selion_desc_errText {H : Type} : DataW H := .iface "*errors.errorString" (.ptr (.agg [.lit (.string [100, 101, 115, 99, 58, 32, 110, 111, 32, 100, 101, 115, 99, 114, 105, 112, 116, 111, 114, 39, 115, 32, 116, 101, 120, 116])]))
def laid_math_bits_deBruijn32tab {H : Type} : DataW H := .agg [.lit (.int .u8 0), .lit (.int .u8 1), .lit (.int .u8 28), .lit (.int .u8 2), .lit (.int .u8 29), .lit (.int .u8 14), .lit (.int .u8 24), .lit (.int .u8 3), .lit (.int .u8 30), .lit (.int .u8 22), .lit (.int .u8 20), .lit (.int .u8 15), .lit (.int .u8 25), .lit (.int .u8 17), .lit (.int .u8 4), .lit (.int .u8 8), .lit (.int .u8 31), .lit (.int .u8 27), .lit (.int .u8 13), .lit (.int .u8 23), .lit (.int .u8 21), .lit (.int .u8 19), .lit (.int .u8 16), .lit (.int .u8 7), .lit (.int .u8 26), .lit (.int .u8 12), .lit (.int .u8 18), .lit (.int .u8 6), .lit (.int .u8 11), .lit (.int .u8 5), .lit (.int .u8 10), .lit (.int .u8 9)]
def laid_math_bits_deBruijn64tab {H : Type} : DataW H := .agg [.lit (.int .u8 0), .lit (.int .u8 1), .lit (.int .u8 56), .lit (.int .u8 2), .lit (.int .u8 57), .lit (.int .u8 49), .lit (.int .u8 28), .lit (.int .u8 3), .lit (.int .u8 61), .lit (.int .u8 58), .lit (.int .u8 42), .lit (.int .u8 50), .lit (.int .u8 38), .lit (.int .u8 29), .lit (.int .u8 17), .lit (.int .u8 4), .lit (.int .u8 62), .lit (.int .u8 47), .lit (.int .u8 59), .lit (.int .u8 36), .lit (.int .u8 45), .lit (.int .u8 43), .lit (.int .u8 51), .lit (.int .u8 22), .lit (.int .u8 53), .lit (.int .u8 39), .lit (.int .u8 33), .lit (.int .u8 30), .lit (.int .u8 24), .lit (.int .u8 18), .lit (.int .u8 12), .lit (.int .u8 5), .lit (.int .u8 63), .lit (.int .u8 55), .lit (.int .u8 48), .lit (.int .u8 27), .lit (.int .u8 60), .lit (.int .u8 41), .lit (.int .u8 37), .lit (.int .u8 16), .lit (.int .u8 46), .lit (.int .u8 35), .lit (.int .u8 44), .lit (.int .u8 21), .lit (.int .u8 52), .lit (.int .u8 32), .lit (.int .u8 23), .lit (.int .u8 11), .lit (.int .u8 54), .lit (.int .u8 26), .lit (.int .u8 40), .lit (.int .u8 15), .lit (.int .u8 34), .lit (.int .u8 20), .lit (.int .u8 31), .lit (.int .u8 10), .lit (.int .u8 25), .lit (.int .u8 14), .lit (.int .u8 19), .lit (.int .u8 9), .lit (.int .u8 13), .lit (.int .u8 8), .lit (.int .u8 7), .lit (.int .u8 6)]
def laid_internal_strconv_uint64pow10 {H : Type} : DataW H := .agg [.lit (.int .u64 1), .lit (.int .u64 10), .lit (.int .u64 100), .lit (.int .u64 1000), .lit (.int .u64 10000), .lit (.int .u64 100000), .lit (.int .u64 1000000), .lit (.int .u64 10000000), .lit (.int .u64 100000000), .lit (.int .u64 1000000000), .lit (.int .u64 10000000000), .lit (.int .u64 100000000000), .lit (.int .u64 1000000000000), .lit (.int .u64 10000000000000), .lit (.int .u64 100000000000000), .lit (.int .u64 1000000000000000), .lit (.int .u64 10000000000000000), .lit (.int .u64 100000000000000000), .lit (.int .u64 1000000000000000000), .lit (.int .u64 10000000000000000000)]

/-- 'selionlaw04.DescTells': WHATEVER THE INPUT: true; the input reads as it did. -/
def descTellsSpec : ChangeSpec := { name := "descTells", fn := fun _ => fun
  | [d1, d2, d3, d4] => { results := [.lit (.bool true)], args := [d1, d2, d3, d4] }
  | _ => none }
def descTellsRow : OpenClaim := { program := "ytgmpcinlkiiboaadoor", sum := "9a62582c172a081a7da27cf18d6fcf42fe9a21cd125752cf1f15f1dea51ff676", func := "selion/selionlaw04.DescTells", spec := "descTells", inPlace := ["internal/reflectlite.ValueOf", "(internal/reflectlite.Value).Type", "(internal/reflectlite.Value).IsNil", "internal/reflectlite.TypeOf", "(internal/reflectlite.Value).Elem", "(internal/reflectlite.Value).Set"], unfollowed := true, recurses := true, named := ["selion/desc.errText", "selion/desc.errDesc", "errors.errorType", "selion/desc.errLen", "selion/addr.errSize", "selion/addr.classes", "selion/addr.errAddr", "selion/addr.errRef"], apart := false, laid := [("errors.errorType", laid_errors_errorType), ("selion/addr.classes", laid_selion_addr_classes), ("selion/addr.errAddr", laid_selion_addr_errAddr), ("selion/addr.errSize", laid_selion_addr_errSize), ("selion/addr.errRef", laid_selion_addr_errRef), ("selion/desc.errDesc", laid_selion_desc_errDesc), ("selion/desc.errLen", laid_selion_desc_errLen), ("selion/desc.errText", laid_selion_desc_errText)] }
def DescTellsSaid : Prop := descTellsRow.holds Tryd.pinned (OpenSpec.ofChange descTellsSpec)

/-- ITS FALSE NEIGHBOUR: 'it returns false'. Refute it at one input. -/
def descTellsWrong : ChangeSpec := { name := "descTells", fn := fun _ => fun
  | [d1, d2, d3, d4] => { results := [.lit (.bool false)], args := [d1, d2, d3, d4] }
  | _ => none }
def DescTellsWrongFalsely : Prop := descTellsRow.holds Tryd.pinned (OpenSpec.ofChange descTellsWrong)

/-- 'selionlaw04.DescLengths': WHATEVER THE INPUT: true; the input reads as it did. -/
def descLengthsSpec : ChangeSpec := { name := "descLengths", fn := fun _ => fun
  | [d1, d2] => { results := [.lit (.bool true)], args := [d1, d2] }
  | _ => none }
def descLengthsRow : OpenClaim := { program := "ytgmpcinlkiiboaadoor", sum := "9a62582c172a081a7da27cf18d6fcf42fe9a21cd125752cf1f15f1dea51ff676", func := "selion/selionlaw04.DescLengths", spec := "descLengths", inPlace := ["internal/reflectlite.ValueOf", "(internal/reflectlite.Value).Type", "(internal/reflectlite.Value).IsNil", "internal/reflectlite.TypeOf", "(internal/reflectlite.Value).Elem", "(internal/reflectlite.Value).Set"], unfollowed := true, recurses := true, named := ["selion/desc.errText", "selion/desc.errDesc", "errors.errorType", "selion/desc.errLen", "selion/addr.errSize", "selion/addr.classes", "selion/addr.errAddr", "selion/addr.errRef"], apart := false, laid := [("errors.errorType", laid_errors_errorType), ("selion/addr.classes", laid_selion_addr_classes), ("selion/addr.errAddr", laid_selion_addr_errAddr), ("selion/addr.errSize", laid_selion_addr_errSize), ("selion/addr.errRef", laid_selion_addr_errRef), ("selion/desc.errDesc", laid_selion_desc_errDesc), ("selion/desc.errLen", laid_selion_desc_errLen), ("selion/desc.errText", laid_selion_desc_errText)] }
def DescLengthsSaid : Prop := descLengthsRow.holds Tryd.pinned (OpenSpec.ofChange descLengthsSpec)

/-- ITS FALSE NEIGHBOUR: 'it returns false'. Refute it at one input. -/
def descLengthsWrong : ChangeSpec := { name := "descLengths", fn := fun _ => fun
  | [d1, d2] => { results := [.lit (.bool false)], args := [d1, d2] }
  | _ => none }
def DescLengthsWrongFalsely : Prop := descLengthsRow.holds Tryd.pinned (OpenSpec.ofChange descLengthsWrong)

/-- 'selionlaw04.DescBack': WHATEVER THE INPUT: true; the input reads as it did. -/
def descBackSpec : ChangeSpec := { name := "descBack", fn := fun _ => fun
  | [d1, d2] => { results := [.lit (.bool true)], args := [d1, d2] }
  | _ => none }
def descBackRow : OpenClaim := { program := "ytgmpcinlkiiboaadoor", sum := "9a62582c172a081a7da27cf18d6fcf42fe9a21cd125752cf1f15f1dea51ff676", func := "selion/selionlaw04.DescBack", spec := "descBack", inPlace := ["internal/reflectlite.ValueOf", "(internal/reflectlite.Value).Type", "(internal/reflectlite.Value).IsNil", "internal/reflectlite.TypeOf", "(internal/reflectlite.Value).Elem", "(internal/reflectlite.Value).Set", "internal/abi.NoEscape"], unfollowed := true, recurses := true, named := ["selion/desc.errText", "selion/desc.errDesc", "errors.errorType", "selion/desc.errLen", "selion/addr.errSize", "selion/addr.classes", "selion/addr.errAddr", "selion/addr.errRef", "internal/strconv.uint64pow10", "math/bits.deBruijn32tab", "math/bits.deBruijn64tab"], apart := false, laid := [("math/bits.deBruijn32tab", laid_math_bits_deBruijn32tab), ("math/bits.deBruijn64tab", laid_math_bits_deBruijn64tab), ("internal/strconv.uint64pow10", laid_internal_strconv_uint64pow10), ("errors.errorType", laid_errors_errorType), ("selion/addr.classes", laid_selion_addr_classes), ("selion/addr.errAddr", laid_selion_addr_errAddr), ("selion/addr.errSize", laid_selion_addr_errSize), ("selion/addr.errRef", laid_selion_addr_errRef), ("selion/desc.errDesc", laid_selion_desc_errDesc), ("selion/desc.errLen", laid_selion_desc_errLen), ("selion/desc.errText", laid_selion_desc_errText)] }
def DescBackSaid : Prop := descBackRow.holds Tryd.pinned (OpenSpec.ofChange descBackSpec)

/-- ITS FALSE NEIGHBOUR: 'it returns false'. Refute it at one input. -/
def descBackWrong : ChangeSpec := { name := "descBack", fn := fun _ => fun
  | [d1, d2] => { results := [.lit (.bool false)], args := [d1, d2] }
  | _ => none }
def DescBackWrongFalsely : Prop := descBackRow.holds Tryd.pinned (OpenSpec.ofChange descBackWrong)

/-- 'selionlaw04.DescSlots': WHATEVER THE INPUT: true; the input reads as it did. -/
def descSlotsSpec : ChangeSpec := { name := "descSlots", fn := fun _ => fun
  | [d1, d2, d3] => { results := [.lit (.bool true)], args := [d1, d2, d3] }
  | _ => none }
def descSlotsRow : OpenClaim := { program := "ytgmpcinlkiiboaadoor", sum := "9a62582c172a081a7da27cf18d6fcf42fe9a21cd125752cf1f15f1dea51ff676", func := "selion/selionlaw04.DescSlots", spec := "descSlots", inPlace := ["internal/reflectlite.ValueOf", "(internal/reflectlite.Value).Type", "(internal/reflectlite.Value).IsNil", "internal/reflectlite.TypeOf", "(internal/reflectlite.Value).Elem", "(internal/reflectlite.Value).Set"], unfollowed := true, recurses := true, named := ["selion/desc.errText", "selion/desc.errDesc", "errors.errorType", "selion/desc.errLen", "selion/addr.errSize", "selion/addr.classes", "selion/addr.errAddr", "selion/addr.errRef"], apart := false, laid := [("errors.errorType", laid_errors_errorType), ("selion/addr.classes", laid_selion_addr_classes), ("selion/addr.errAddr", laid_selion_addr_errAddr), ("selion/addr.errSize", laid_selion_addr_errSize), ("selion/addr.errRef", laid_selion_addr_errRef), ("selion/desc.errDesc", laid_selion_desc_errDesc), ("selion/desc.errLen", laid_selion_desc_errLen), ("selion/desc.errText", laid_selion_desc_errText)] }
def DescSlotsSaid : Prop := descSlotsRow.holds Tryd.pinned (OpenSpec.ofChange descSlotsSpec)

/-- ITS FALSE NEIGHBOUR: 'it returns false'. Refute it at one input. -/
def descSlotsWrong : ChangeSpec := { name := "descSlots", fn := fun _ => fun
  | [d1, d2, d3] => { results := [.lit (.bool false)], args := [d1, d2, d3] }
  | _ => none }
def DescSlotsWrongFalsely : Prop := descSlotsRow.holds Tryd.pinned (OpenSpec.ofChange descSlotsWrong)

/-- 'selionlaw04.DescGrows': WHATEVER THE INPUT: true; the input reads as it did. -/
def descGrowsSpec : ChangeSpec := { name := "descGrows", fn := fun _ => fun
  | [d1, d2, d3] => { results := [.lit (.bool true)], args := [d1, d2, d3] }
  | _ => none }
def descGrowsRow : OpenClaim := { program := "ytgmpcinlkiiboaadoor", sum := "9a62582c172a081a7da27cf18d6fcf42fe9a21cd125752cf1f15f1dea51ff676", func := "selion/selionlaw04.DescGrows", spec := "descGrows", inPlace := ["internal/reflectlite.ValueOf", "(internal/reflectlite.Value).Type", "(internal/reflectlite.Value).IsNil", "internal/reflectlite.TypeOf", "(internal/reflectlite.Value).Elem", "(internal/reflectlite.Value).Set"], unfollowed := true, recurses := true, named := ["selion/desc.errText", "selion/desc.errDesc", "errors.errorType", "selion/desc.errLen", "selion/addr.errSize", "selion/addr.classes", "selion/addr.errAddr", "selion/addr.errRef"], apart := false, laid := [("errors.errorType", laid_errors_errorType), ("selion/addr.classes", laid_selion_addr_classes), ("selion/addr.errAddr", laid_selion_addr_errAddr), ("selion/addr.errSize", laid_selion_addr_errSize), ("selion/addr.errRef", laid_selion_addr_errRef), ("selion/desc.errDesc", laid_selion_desc_errDesc), ("selion/desc.errLen", laid_selion_desc_errLen), ("selion/desc.errText", laid_selion_desc_errText)] }
def DescGrowsSaid : Prop := descGrowsRow.holds Tryd.pinned (OpenSpec.ofChange descGrowsSpec)

/-- ITS FALSE NEIGHBOUR: 'it returns false'. Refute it at one input. -/
def descGrowsWrong : ChangeSpec := { name := "descGrows", fn := fun _ => fun
  | [d1, d2, d3] => { results := [.lit (.bool false)], args := [d1, d2, d3] }
  | _ => none }
def DescGrowsWrongFalsely : Prop := descGrowsRow.holds Tryd.pinned (OpenSpec.ofChange descGrowsWrong)

/- THE SECOND FORM. 'bulk': how many values and letters a reading holds, each counted each time it is reached (what is shared counts as often as it is met; a slice's spare places count too). A statement '..UptoSaid' is the law's where the arguments, and the package variables that the reading takes, are together of bulk at most 1048576: NARROWER than '..Said'. Prove '..Said' where nothing that the law and all that it calls make is longer than what came in: it says more and counts as full. Else prove '..UptoSaid'. A law counts once. -/
mutual
def uptoBulk {H : Type} : DataW H → Nat
  | .lit (.string bytes) => bytes.length + 1
  | .lit _ => 1
  | .nil => 1
  | .ptr d => uptoBulk d + 1
  | .slice elems spare => uptoBulkAll elems + uptoBulkAll spare + 1
  | .agg parts => uptoBulkAll parts + 1
  | .iface _ d => uptoBulk d + 1
  | .map entries => uptoBulkEntries entries + 1
  | .held _ => 1
def uptoBulkAll {H : Type} : List (DataW H) → Nat
  | [] => 0
  | d :: r => uptoBulk d + uptoBulkAll r
def uptoBulkEntries {H : Type} : List (Lit × DataW H) → Nat
  | [] => 0
  | x :: r => uptoBulkEntry x + uptoBulkEntries r
def uptoBulkEntry {H : Type} : Lit × DataW H → Nat
  | (.string bytes, d) => bytes.length + uptoBulk d + 1
  | (_, d) => uptoBulk d + 1
 end
def uptoSmall : (H : Type) → List (DataW H) → Bool := fun _ ds => decide (uptoBulkAll ds ≤ 1048576)
def OpenSpec.upto (s : _root_.Go.ChangeSpec) : _root_.Go.OpenSpec := { _root_.Go.OpenSpec.ofChange s with cond := some uptoSmall }

/-- 'selionlaw04.DescTells', WHERE WHAT IT READS IS OF BULK AT MOST 1048576: true; the input reads as it did. -/
def descTellsUptoRow : OpenClaim := { program := "ytgmpcinlkiiboaadoor", sum := "9a62582c172a081a7da27cf18d6fcf42fe9a21cd125752cf1f15f1dea51ff676", func := "selion/selionlaw04.DescTells", spec := "descTells", inPlace := ["internal/reflectlite.ValueOf", "(internal/reflectlite.Value).Type", "(internal/reflectlite.Value).IsNil", "internal/reflectlite.TypeOf", "(internal/reflectlite.Value).Elem", "(internal/reflectlite.Value).Set"], unfollowed := true, recurses := true, named := ["selion/desc.errText", "selion/desc.errDesc", "errors.errorType", "selion/desc.errLen", "selion/addr.errSize", "selion/addr.classes", "selion/addr.errAddr", "selion/addr.errRef"], apart := false, laid := [("errors.errorType", laid_errors_errorType), ("selion/addr.classes", laid_selion_addr_classes), ("selion/addr.errAddr", laid_selion_addr_errAddr), ("selion/addr.errSize", laid_selion_addr_errSize), ("selion/addr.errRef", laid_selion_addr_errRef), ("selion/desc.errDesc", laid_selion_desc_errDesc), ("selion/desc.errLen", laid_selion_desc_errLen), ("selion/desc.errText", laid_selion_desc_errText)], narrowed := true }
def DescTellsUptoSaid : Prop := descTellsUptoRow.holds Tryd.pinned (OpenSpec.upto descTellsSpec)

/-- 'selionlaw04.DescLengths', WHERE WHAT IT READS IS OF BULK AT MOST 1048576: true; the input reads as it did. -/
def descLengthsUptoRow : OpenClaim := { program := "ytgmpcinlkiiboaadoor", sum := "9a62582c172a081a7da27cf18d6fcf42fe9a21cd125752cf1f15f1dea51ff676", func := "selion/selionlaw04.DescLengths", spec := "descLengths", inPlace := ["internal/reflectlite.ValueOf", "(internal/reflectlite.Value).Type", "(internal/reflectlite.Value).IsNil", "internal/reflectlite.TypeOf", "(internal/reflectlite.Value).Elem", "(internal/reflectlite.Value).Set"], unfollowed := true, recurses := true, named := ["selion/desc.errText", "selion/desc.errDesc", "errors.errorType", "selion/desc.errLen", "selion/addr.errSize", "selion/addr.classes", "selion/addr.errAddr", "selion/addr.errRef"], apart := false, laid := [("errors.errorType", laid_errors_errorType), ("selion/addr.classes", laid_selion_addr_classes), ("selion/addr.errAddr", laid_selion_addr_errAddr), ("selion/addr.errSize", laid_selion_addr_errSize), ("selion/addr.errRef", laid_selion_addr_errRef), ("selion/desc.errDesc", laid_selion_desc_errDesc), ("selion/desc.errLen", laid_selion_desc_errLen), ("selion/desc.errText", laid_selion_desc_errText)], narrowed := true }
def DescLengthsUptoSaid : Prop := descLengthsUptoRow.holds Tryd.pinned (OpenSpec.upto descLengthsSpec)

/-- 'selionlaw04.DescBack', WHERE WHAT IT READS IS OF BULK AT MOST 1048576: true; the input reads as it did. -/
def descBackUptoRow : OpenClaim := { program := "ytgmpcinlkiiboaadoor", sum := "9a62582c172a081a7da27cf18d6fcf42fe9a21cd125752cf1f15f1dea51ff676", func := "selion/selionlaw04.DescBack", spec := "descBack", inPlace := ["internal/reflectlite.ValueOf", "(internal/reflectlite.Value).Type", "(internal/reflectlite.Value).IsNil", "internal/reflectlite.TypeOf", "(internal/reflectlite.Value).Elem", "(internal/reflectlite.Value).Set", "internal/abi.NoEscape"], unfollowed := true, recurses := true, named := ["selion/desc.errText", "selion/desc.errDesc", "errors.errorType", "selion/desc.errLen", "selion/addr.errSize", "selion/addr.classes", "selion/addr.errAddr", "selion/addr.errRef", "internal/strconv.uint64pow10", "math/bits.deBruijn32tab", "math/bits.deBruijn64tab"], apart := false, laid := [("math/bits.deBruijn32tab", laid_math_bits_deBruijn32tab), ("math/bits.deBruijn64tab", laid_math_bits_deBruijn64tab), ("internal/strconv.uint64pow10", laid_internal_strconv_uint64pow10), ("errors.errorType", laid_errors_errorType), ("selion/addr.classes", laid_selion_addr_classes), ("selion/addr.errAddr", laid_selion_addr_errAddr), ("selion/addr.errSize", laid_selion_addr_errSize), ("selion/addr.errRef", laid_selion_addr_errRef), ("selion/desc.errDesc", laid_selion_desc_errDesc), ("selion/desc.errLen", laid_selion_desc_errLen), ("selion/desc.errText", laid_selion_desc_errText)], narrowed := true }
def DescBackUptoSaid : Prop := descBackUptoRow.holds Tryd.pinned (OpenSpec.upto descBackSpec)

/-- 'selionlaw04.DescSlots', WHERE WHAT IT READS IS OF BULK AT MOST 1048576: true; the input reads as it did. -/
def descSlotsUptoRow : OpenClaim := { program := "ytgmpcinlkiiboaadoor", sum := "9a62582c172a081a7da27cf18d6fcf42fe9a21cd125752cf1f15f1dea51ff676", func := "selion/selionlaw04.DescSlots", spec := "descSlots", inPlace := ["internal/reflectlite.ValueOf", "(internal/reflectlite.Value).Type", "(internal/reflectlite.Value).IsNil", "internal/reflectlite.TypeOf", "(internal/reflectlite.Value).Elem", "(internal/reflectlite.Value).Set"], unfollowed := true, recurses := true, named := ["selion/desc.errText", "selion/desc.errDesc", "errors.errorType", "selion/desc.errLen", "selion/addr.errSize", "selion/addr.classes", "selion/addr.errAddr", "selion/addr.errRef"], apart := false, laid := [("errors.errorType", laid_errors_errorType), ("selion/addr.classes", laid_selion_addr_classes), ("selion/addr.errAddr", laid_selion_addr_errAddr), ("selion/addr.errSize", laid_selion_addr_errSize), ("selion/addr.errRef", laid_selion_addr_errRef), ("selion/desc.errDesc", laid_selion_desc_errDesc), ("selion/desc.errLen", laid_selion_desc_errLen), ("selion/desc.errText", laid_selion_desc_errText)], narrowed := true }
def DescSlotsUptoSaid : Prop := descSlotsUptoRow.holds Tryd.pinned (OpenSpec.upto descSlotsSpec)

/-- 'selionlaw04.DescGrows', WHERE WHAT IT READS IS OF BULK AT MOST 1048576: true; the input reads as it did. -/
def descGrowsUptoRow : OpenClaim := { program := "ytgmpcinlkiiboaadoor", sum := "9a62582c172a081a7da27cf18d6fcf42fe9a21cd125752cf1f15f1dea51ff676", func := "selion/selionlaw04.DescGrows", spec := "descGrows", inPlace := ["internal/reflectlite.ValueOf", "(internal/reflectlite.Value).Type", "(internal/reflectlite.Value).IsNil", "internal/reflectlite.TypeOf", "(internal/reflectlite.Value).Elem", "(internal/reflectlite.Value).Set"], unfollowed := true, recurses := true, named := ["selion/desc.errText", "selion/desc.errDesc", "errors.errorType", "selion/desc.errLen", "selion/addr.errSize", "selion/addr.classes", "selion/addr.errAddr", "selion/addr.errRef"], apart := false, laid := [("errors.errorType", laid_errors_errorType), ("selion/addr.classes", laid_selion_addr_classes), ("selion/addr.errAddr", laid_selion_addr_errAddr), ("selion/addr.errSize", laid_selion_addr_errSize), ("selion/addr.errRef", laid_selion_addr_errRef), ("selion/desc.errDesc", laid_selion_desc_errDesc), ("selion/desc.errLen", laid_selion_desc_errLen), ("selion/desc.errText", laid_selion_desc_errText)], narrowed := true }
def DescGrowsUptoSaid : Prop := descGrowsUptoRow.holds Tryd.pinned (OpenSpec.upto descGrowsSpec)

end Rows
end Go.Proofs.YtgmpcinlkiiboaaDoor
