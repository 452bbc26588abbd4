/-
  NARROWER THAN 'FOR EVERY INPUT', by the rows' own cells (each row's printed sentence says how): RelAll: laid · RelWays: laid · RelOf: laid · RelOrder: laid · RelLaws: laid · RelTurned: laid.
  DERIVED. THE GIVEN ROWS OF THIS SEAT. 6 by the template 'for every input the law returns true; each argument reads behind the call as it read before'; 0 by the template 'total and deterministic' (their statements: YtcfegclnkheebaaDoorTotals.lean).
  GIVEN WITH THE SEED: the statements are not yours to turn. If you find one false, say at which input.
  Laid BY PROGRAM, IN A SANDBOX (cutbox-rows.mjs): the forced cells as the released guide's own fill.sh prints them over the translation f138f93dac92aa89… (all of the seat's roots in one cut). By AI agents, Wed Nov 11 2026. No macro, syntax, notation, axiom, sorry.
-/
import Derived.Test.YtcfegclnkheebaaDoorChecked
import GoSem.Claim
import GoSem.ClaimJoined
import GoSem.ClaimMapViews
import Derived.JoinedTies
import Derived.KernelRfl
namespace Go.Proofs.YtcfegclnkheebaaDoor
/- THE CELL 'sum', in the pinned program and in every row, IS THE sha256 OF THE DUMP (.gsa) THAT YtcfegclnkheebaaDoorProg.lean LOADS. Nothing in Lean hashes anything: it is a label: what it is worth is what the hold of that sum in a sandbox is worth. -/
noncomputable def Tryd.pinned : Pinned := { name := "ytcfegclnkheebaadoor", sum := "f138f93dac92aa897a30ce55d8a019e66c2e8cff10809ca47811f17bdf6b1684", checked := Tryd.checked }
namespace Rows
def none {H : Type} : Left H := { results := [], args := [] }

/- WHAT THE LISTED PACKAGE-LEVEL VARIABLES READ AS WHEN THE CALL BEGINS. Each datum BY PROGRAM (the guide's laid-datum.mjs) off the statement by which the dump's own 'gosem.cut.vars' lays the variable. In a bare row this is a premise. The card (YtcfegclnkheebaaDoorCards.lean) ties it to the program's text. -/
def laid_math_bits_deBruijn64tab {H : Type} : DataW H := .agg [.lit (.int .u8 0), .lit (.int .u8 1), .lit (.int .u8 56), .lit (.int .u8 2), .lit (.int .u8 57), .lit (.int .u8 49), .lit (.int .u8 28), .lit (.int .u8 3), .lit (.int .u8 61), .lit (.int .u8 58), .lit (.int .u8 42), .lit (.int .u8 50), .lit (.int .u8 38), .lit (.int .u8 29), .lit (.int .u8 17), .lit (.int .u8 4), .lit (.int .u8 62), .lit (.int .u8 47), .lit (.int .u8 59), .lit (.int .u8 36), .lit (.int .u8 45), .lit (.int .u8 43), .lit (.int .u8 51), .lit (.int .u8 22), .lit (.int .u8 53), .lit (.int .u8 39), .lit (.int .u8 33), .lit (.int .u8 30), .lit (.int .u8 24), .lit (.int .u8 18), .lit (.int .u8 12), .lit (.int .u8 5), .lit (.int .u8 63), .lit (.int .u8 55), .lit (.int .u8 48), .lit (.int .u8 27), .lit (.int .u8 60), .lit (.int .u8 41), .lit (.int .u8 37), .lit (.int .u8 16), .lit (.int .u8 46), .lit (.int .u8 35), .lit (.int .u8 44), .lit (.int .u8 21), .lit (.int .u8 52), .lit (.int .u8 32), .lit (.int .u8 23), .lit (.int .u8 11), .lit (.int .u8 54), .lit (.int .u8 26), .lit (.int .u8 40), .lit (.int .u8 15), .lit (.int .u8 34), .lit (.int .u8 20), .lit (.int .u8 31), .lit (.int .u8 10), .lit (.int .u8 25), .lit (.int .u8 14), .lit (.int .u8 19), .lit (.int .u8 9), .lit (.int .u8 13), .lit (.int .u8 8), .lit (.int .u8 7), .lit (.int .u8 6)]

/-- 'selvagelaw02.RelAll': WHATEVER THE INPUT: true; the input reads as it did. -/
def relAllSpec : ChangeSpec := { name := "relAll", fn := fun _ => fun
  | [d1, d2, d3, d4] => { results := [.lit (.bool true)], args := [d1, d2, d3, d4] }
  | _ => none }
def relAllRow : OpenClaim := { program := "ytcfegclnkheebaadoor", sum := "f138f93dac92aa897a30ce55d8a019e66c2e8cff10809ca47811f17bdf6b1684", func := "selvage/selvagelaw02.RelAll", spec := "relAll", named := ["math/bits.deBruijn64tab"], apart := false, laid := [("math/bits.deBruijn64tab", laid_math_bits_deBruijn64tab)] }
def RelAllSaid : Prop := relAllRow.holds Tryd.pinned (OpenSpec.ofChange relAllSpec)

/-- ITS FALSE NEIGHBOUR: 'it returns false'. Refute it at one input. -/
def relAllWrong : ChangeSpec := { name := "relAll", fn := fun _ => fun
  | [d1, d2, d3, d4] => { results := [.lit (.bool false)], args := [d1, d2, d3, d4] }
  | _ => none }
def RelAllWrongFalsely : Prop := relAllRow.holds Tryd.pinned (OpenSpec.ofChange relAllWrong)

/-- 'selvagelaw02.RelWays': WHATEVER THE INPUT: true; the input reads as it did. -/
def relWaysSpec : ChangeSpec := { name := "relWays", fn := fun _ => fun
  | [d] => { results := [.lit (.bool true)], args := [d] }
  | _ => none }
def relWaysRow : OpenClaim := { program := "ytcfegclnkheebaadoor", sum := "f138f93dac92aa897a30ce55d8a019e66c2e8cff10809ca47811f17bdf6b1684", func := "selvage/selvagelaw02.RelWays", spec := "relWays", named := ["math/bits.deBruijn64tab"], apart := false, laid := [("math/bits.deBruijn64tab", laid_math_bits_deBruijn64tab)] }
def RelWaysSaid : Prop := relWaysRow.holds Tryd.pinned (OpenSpec.ofChange relWaysSpec)

/-- ITS FALSE NEIGHBOUR: 'it returns false'. Refute it at one input. -/
def relWaysWrong : ChangeSpec := { name := "relWays", fn := fun _ => fun
  | [d] => { results := [.lit (.bool false)], args := [d] }
  | _ => none }
def RelWaysWrongFalsely : Prop := relWaysRow.holds Tryd.pinned (OpenSpec.ofChange relWaysWrong)

/-- 'selvagelaw02.RelOf': WHATEVER THE INPUT: true; the input reads as it did. -/
def relOfSpec : ChangeSpec := { name := "relOf", fn := fun _ => fun
  | [d1, d2] => { results := [.lit (.bool true)], args := [d1, d2] }
  | _ => none }
def relOfRow : OpenClaim := { program := "ytcfegclnkheebaadoor", sum := "f138f93dac92aa897a30ce55d8a019e66c2e8cff10809ca47811f17bdf6b1684", func := "selvage/selvagelaw02.RelOf", spec := "relOf", named := ["math/bits.deBruijn64tab"], apart := false, laid := [("math/bits.deBruijn64tab", laid_math_bits_deBruijn64tab)] }
def RelOfSaid : Prop := relOfRow.holds Tryd.pinned (OpenSpec.ofChange relOfSpec)

/-- ITS FALSE NEIGHBOUR: 'it returns false'. Refute it at one input. -/
def relOfWrong : ChangeSpec := { name := "relOf", fn := fun _ => fun
  | [d1, d2] => { results := [.lit (.bool false)], args := [d1, d2] }
  | _ => none }
def RelOfWrongFalsely : Prop := relOfRow.holds Tryd.pinned (OpenSpec.ofChange relOfWrong)

/-- 'selvagelaw02.RelOrder': WHATEVER THE INPUT: true; the input reads as it did. -/
def relOrderSpec : ChangeSpec := { name := "relOrder", fn := fun _ => fun
  | [d] => { results := [.lit (.bool true)], args := [d] }
  | _ => none }
def relOrderRow : OpenClaim := { program := "ytcfegclnkheebaadoor", sum := "f138f93dac92aa897a30ce55d8a019e66c2e8cff10809ca47811f17bdf6b1684", func := "selvage/selvagelaw02.RelOrder", spec := "relOrder", named := ["math/bits.deBruijn64tab"], apart := false, laid := [("math/bits.deBruijn64tab", laid_math_bits_deBruijn64tab)] }
def RelOrderSaid : Prop := relOrderRow.holds Tryd.pinned (OpenSpec.ofChange relOrderSpec)

/-- ITS FALSE NEIGHBOUR: 'it returns false'. Refute it at one input. -/
def relOrderWrong : ChangeSpec := { name := "relOrder", fn := fun _ => fun
  | [d] => { results := [.lit (.bool false)], args := [d] }
  | _ => none }
def RelOrderWrongFalsely : Prop := relOrderRow.holds Tryd.pinned (OpenSpec.ofChange relOrderWrong)

/-- 'selvagelaw02.RelLaws': WHATEVER THE INPUT: true; the input reads as it did. -/
def relLawsSpec : ChangeSpec := { name := "relLaws", fn := fun _ => fun
  | [d1, d2, d3] => { results := [.lit (.bool true)], args := [d1, d2, d3] }
  | _ => none }
def relLawsRow : OpenClaim := { program := "ytcfegclnkheebaadoor", sum := "f138f93dac92aa897a30ce55d8a019e66c2e8cff10809ca47811f17bdf6b1684", func := "selvage/selvagelaw02.RelLaws", spec := "relLaws", named := ["math/bits.deBruijn64tab"], apart := false, laid := [("math/bits.deBruijn64tab", laid_math_bits_deBruijn64tab)] }
def RelLawsSaid : Prop := relLawsRow.holds Tryd.pinned (OpenSpec.ofChange relLawsSpec)

/-- ITS FALSE NEIGHBOUR: 'it returns false'. Refute it at one input. -/
def relLawsWrong : ChangeSpec := { name := "relLaws", fn := fun _ => fun
  | [d1, d2, d3] => { results := [.lit (.bool false)], args := [d1, d2, d3] }
  | _ => none }
def RelLawsWrongFalsely : Prop := relLawsRow.holds Tryd.pinned (OpenSpec.ofChange relLawsWrong)

/-- 'selvagelaw02.RelTurned': WHATEVER THE INPUT: true; the input reads as it did. -/
def relTurnedSpec : ChangeSpec := { name := "relTurned", fn := fun _ => fun
  | [d] => { results := [.lit (.bool true)], args := [d] }
  | _ => none }
def relTurnedRow : OpenClaim := { program := "ytcfegclnkheebaadoor", sum := "f138f93dac92aa897a30ce55d8a019e66c2e8cff10809ca47811f17bdf6b1684", func := "selvage/selvagelaw02.RelTurned", spec := "relTurned", named := ["math/bits.deBruijn64tab"], apart := false, laid := [("math/bits.deBruijn64tab", laid_math_bits_deBruijn64tab)] }
def RelTurnedSaid : Prop := relTurnedRow.holds Tryd.pinned (OpenSpec.ofChange relTurnedSpec)

/-- ITS FALSE NEIGHBOUR: 'it returns false'. Refute it at one input. -/
def relTurnedWrong : ChangeSpec := { name := "relTurned", fn := fun _ => fun
  | [d] => { results := [.lit (.bool false)], args := [d] }
  | _ => none }
def RelTurnedWrongFalsely : Prop := relTurnedRow.holds Tryd.pinned (OpenSpec.ofChange relTurnedWrong)

/- THE SECOND FORM. 'bulk': how many values and letters a reading holds, each counted each time it is reached (what is shared counts as often as it is met; a slice's spare places count too). A statement '..UptoSaid' is the law's where the arguments, and the package variables that the reading takes, are together of bulk at most 1048576: NARROWER than '..Said'. Prove '..Said' where nothing that the law and all that it calls make is longer than what came in: it says more and counts as full. Else prove '..UptoSaid'. A law counts once. -/
mutual
def uptoBulk {H : Type} : DataW H → Nat
  | .lit (.string bytes) => bytes.length + 1
  | .lit _ => 1
  | .nil => 1
  | .ptr d => uptoBulk d + 1
  | .slice elems spare => uptoBulkAll elems + uptoBulkAll spare + 1
  | .agg parts => uptoBulkAll parts + 1
  | .iface _ d => uptoBulk d + 1
  | .map entries => uptoBulkEntries entries + 1
  | .held _ => 1
def uptoBulkAll {H : Type} : List (DataW H) → Nat
  | [] => 0
  | d :: r => uptoBulk d + uptoBulkAll r
def uptoBulkEntries {H : Type} : List (Lit × DataW H) → Nat
  | [] => 0
  | x :: r => uptoBulkEntry x + uptoBulkEntries r
def uptoBulkEntry {H : Type} : Lit × DataW H → Nat
  | (.string bytes, d) => bytes.length + uptoBulk d + 1
  | (_, d) => uptoBulk d + 1
 end
def uptoSmall : (H : Type) → List (DataW H) → Bool := fun _ ds => decide (uptoBulkAll ds ≤ 1048576)
def OpenSpec.upto (s : _root_.Go.ChangeSpec) : _root_.Go.OpenSpec := { _root_.Go.OpenSpec.ofChange s with cond := some uptoSmall }

/-- 'selvagelaw02.RelAll', WHERE WHAT IT READS IS OF BULK AT MOST 1048576: true; the input reads as it did. -/
def relAllUptoRow : OpenClaim := { program := "ytcfegclnkheebaadoor", sum := "f138f93dac92aa897a30ce55d8a019e66c2e8cff10809ca47811f17bdf6b1684", func := "selvage/selvagelaw02.RelAll", spec := "relAll", named := ["math/bits.deBruijn64tab"], apart := false, laid := [("math/bits.deBruijn64tab", laid_math_bits_deBruijn64tab)], narrowed := true }
def RelAllUptoSaid : Prop := relAllUptoRow.holds Tryd.pinned (OpenSpec.upto relAllSpec)

/-- 'selvagelaw02.RelWays', WHERE WHAT IT READS IS OF BULK AT MOST 1048576: true; the input reads as it did. -/
def relWaysUptoRow : OpenClaim := { program := "ytcfegclnkheebaadoor", sum := "f138f93dac92aa897a30ce55d8a019e66c2e8cff10809ca47811f17bdf6b1684", func := "selvage/selvagelaw02.RelWays", spec := "relWays", named := ["math/bits.deBruijn64tab"], apart := false, laid := [("math/bits.deBruijn64tab", laid_math_bits_deBruijn64tab)], narrowed := true }
def RelWaysUptoSaid : Prop := relWaysUptoRow.holds Tryd.pinned (OpenSpec.upto relWaysSpec)

/-- 'selvagelaw02.RelOf', WHERE WHAT IT READS IS OF BULK AT MOST 1048576: true; the input reads as it did. -/
def relOfUptoRow : OpenClaim := { program := "ytcfegclnkheebaadoor", sum := "f138f93dac92aa897a30ce55d8a019e66c2e8cff10809ca47811f17bdf6b1684", func := "selvage/selvagelaw02.RelOf", spec := "relOf", named := ["math/bits.deBruijn64tab"], apart := false, laid := [("math/bits.deBruijn64tab", laid_math_bits_deBruijn64tab)], narrowed := true }
def RelOfUptoSaid : Prop := relOfUptoRow.holds Tryd.pinned (OpenSpec.upto relOfSpec)

/-- 'selvagelaw02.RelOrder', WHERE WHAT IT READS IS OF BULK AT MOST 1048576: true; the input reads as it did. -/
def relOrderUptoRow : OpenClaim := { program := "ytcfegclnkheebaadoor", sum := "f138f93dac92aa897a30ce55d8a019e66c2e8cff10809ca47811f17bdf6b1684", func := "selvage/selvagelaw02.RelOrder", spec := "relOrder", named := ["math/bits.deBruijn64tab"], apart := false, laid := [("math/bits.deBruijn64tab", laid_math_bits_deBruijn64tab)], narrowed := true }
def RelOrderUptoSaid : Prop := relOrderUptoRow.holds Tryd.pinned (OpenSpec.upto relOrderSpec)

/-- 'selvagelaw02.RelLaws', WHERE WHAT IT READS IS OF BULK AT MOST 1048576: true; the input reads as it did. -/
def relLawsUptoRow : OpenClaim := { program := "ytcfegclnkheebaadoor", sum := "f138f93dac92aa897a30ce55d8a019e66c2e8cff10809ca47811f17bdf6b1684", func := "selvage/selvagelaw02.RelLaws", spec := "relLaws", named := ["math/bits.deBruijn64tab"], apart := false, laid := [("math/bits.deBruijn64tab", laid_math_bits_deBruijn64tab)], narrowed := true }
def RelLawsUptoSaid : Prop := relLawsUptoRow.holds Tryd.pinned (OpenSpec.upto relLawsSpec)

/-- 'selvagelaw02.RelTurned', WHERE WHAT IT READS IS OF BULK AT MOST 1048576: true; the input reads as it did. -/
def relTurnedUptoRow : OpenClaim := { program := "ytcfegclnkheebaadoor", sum := "f138f93dac92aa897a30ce55d8a019e66c2e8cff10809ca47811f17bdf6b1684", func := "selvage/selvagelaw02.RelTurned", spec := "relTurned", named := ["math/bits.deBruijn64tab"], apart := false, laid := [("math/bits.deBruijn64tab", laid_math_bits_deBruijn64tab)], narrowed := true }
def RelTurnedUptoSaid : Prop := relTurnedUptoRow.holds Tryd.pinned (OpenSpec.upto relTurnedSpec)

end Rows
end Go.Proofs.YtcfegclnkheebaaDoor
