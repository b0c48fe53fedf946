/-
  No cell of these rows narrows 'for every input' (looked for: loops, veiled, ifaces, maps, wideKeys, modest, calm, conditions, laid).
  DERIVED. THE GIVEN ROWS OF THIS SEAT. 9 by the template 'for every input the law returns true; each argument reads behind the call as it read before'; 0 by the template 'total and deterministic' (their statements: YtmdhcigkhapolaaTotals.lean).
  GIVEN WITH THE SEED: the statements are not yours to turn. If you find one false, say at which input.
  Laid BY PROGRAM, IN A SANDBOX (cutbox-rows.mjs): the forced cells as the released guide's own fill.sh prints them over the translation b20975cb56aa23aa… (all of the seat's roots in one cut). By AI agents, Wed Nov 11 2026. No macro, syntax, notation, axiom, sorry.
-/
import Derived.Test.YtmdhcigkhapolaaChecked
import GoSem.Claim
import GoSem.ClaimJoined
import GoSem.ClaimMapViews
import Derived.JoinedTies
import Derived.KernelRfl
namespace Go.Proofs.Ytmdhcigkhapolaa
/- THE CELL 'sum', in the pinned program and in every row, IS THE sha256 OF THE DUMP (.gsa) THAT YtmdhcigkhapolaaProg.lean LOADS. Nothing in Lean hashes anything: it is a label: what it is worth is what the hold of that sum in a sandbox is worth. -/
noncomputable def Try.pinned : Pinned := { name := "ytmdhcigkhapolaa", sum := "b20975cb56aa23aab643bd6ba5d182acd613ad1a1560be4fd3225fdcf5c1c740", checked := Try.checked }
namespace Rows
def none {H : Type} : Left H := { results := [], args := [] }

/-- 'furlonglaw01.NumSums': WHATEVER THE INPUT: true; the input reads as it did. -/
def numSumsSpec : ChangeSpec := { name := "numSums", fn := fun _ => fun
  | [d] => { results := [.lit (.bool true)], args := [d] }
  | _ => none }
def numSumsRow : OpenClaim := { program := "ytmdhcigkhapolaa", sum := "b20975cb56aa23aab643bd6ba5d182acd613ad1a1560be4fd3225fdcf5c1c740", func := "furlong/furlonglaw01.NumSums", spec := "numSums", inPlace := ["math/bits.Add64", "math/bits.Sub64"], named := ["math/bits.divideError", "math/bits.overflowError"], apart := false }
def NumSumsSaid : Prop := numSumsRow.holds Try.pinned (OpenSpec.ofChange numSumsSpec)

/-- ITS FALSE NEIGHBOUR: 'it returns false'. Refute it at one input. -/
def numSumsWrong : ChangeSpec := { name := "numSums", fn := fun _ => fun
  | [d] => { results := [.lit (.bool false)], args := [d] }
  | _ => none }
def NumSumsWrongFalsely : Prop := numSumsRow.holds Try.pinned (OpenSpec.ofChange numSumsWrong)

/-- 'furlonglaw01.NumTogether': WHATEVER THE INPUT: true; the input reads as it did. -/
def numTogetherSpec : ChangeSpec := { name := "numTogether", fn := fun _ => fun
  | [d1, d2] => { results := [.lit (.bool true)], args := [d1, d2] }
  | _ => none }
def numTogetherRow : OpenClaim := { program := "ytmdhcigkhapolaa", sum := "b20975cb56aa23aab643bd6ba5d182acd613ad1a1560be4fd3225fdcf5c1c740", func := "furlong/furlonglaw01.NumTogether", spec := "numTogether", inPlace := ["math/bits.Add64", "math/bits.Sub64"], named := ["math/bits.divideError", "math/bits.overflowError"], apart := false }
def NumTogetherSaid : Prop := numTogetherRow.holds Try.pinned (OpenSpec.ofChange numTogetherSpec)

/-- ITS FALSE NEIGHBOUR: 'it returns false'. Refute it at one input. -/
def numTogetherWrong : ChangeSpec := { name := "numTogether", fn := fun _ => fun
  | [d1, d2] => { results := [.lit (.bool false)], args := [d1, d2] }
  | _ => none }
def NumTogetherWrongFalsely : Prop := numTogetherRow.holds Try.pinned (OpenSpec.ofChange numTogetherWrong)

/-- 'furlonglaw02.VecOrders': WHATEVER THE INPUT: true; the input reads as it did. -/
def vecOrdersSpec : ChangeSpec := { name := "vecOrders", fn := fun _ => fun
  | [d1, d2, d3, d4, d5] => { results := [.lit (.bool true)], args := [d1, d2, d3, d4, d5] }
  | _ => none }
def vecOrdersRow : OpenClaim := { program := "ytmdhcigkhapolaa", sum := "b20975cb56aa23aab643bd6ba5d182acd613ad1a1560be4fd3225fdcf5c1c740", func := "furlong/furlonglaw02.VecOrders", spec := "vecOrders", unfollowed := true, recurses := true, apart := false }
def VecOrdersSaid : Prop := vecOrdersRow.holds Try.pinned (OpenSpec.ofChange vecOrdersSpec)

/-- ITS FALSE NEIGHBOUR: 'it returns false'. Refute it at one input. -/
def vecOrdersWrong : ChangeSpec := { name := "vecOrders", fn := fun _ => fun
  | [d1, d2, d3, d4, d5] => { results := [.lit (.bool false)], args := [d1, d2, d3, d4, d5] }
  | _ => none }
def VecOrdersWrongFalsely : Prop := vecOrdersRow.holds Try.pinned (OpenSpec.ofChange vecOrdersWrong)

/-- 'furlonglaw04.ClockLens': WHATEVER THE INPUT: true; the input reads as it did. -/
def clockLensSpec : ChangeSpec := { name := "clockLens", fn := fun _ => fun
  | [d1, d2, d3] => { results := [.lit (.bool true)], args := [d1, d2, d3] }
  | _ => none }
def clockLensRow : OpenClaim := { program := "ytmdhcigkhapolaa", sum := "b20975cb56aa23aab643bd6ba5d182acd613ad1a1560be4fd3225fdcf5c1c740", func := "furlong/furlonglaw04.ClockLens", spec := "clockLens", inPlace := ["math/bits.Add64"], named := ["math/bits.divideError", "math/bits.overflowError"], apart := false }
def ClockLensSaid : Prop := clockLensRow.holds Try.pinned (OpenSpec.ofChange clockLensSpec)

/-- ITS FALSE NEIGHBOUR: 'it returns false'. Refute it at one input. -/
def clockLensWrong : ChangeSpec := { name := "clockLens", fn := fun _ => fun
  | [d1, d2, d3] => { results := [.lit (.bool false)], args := [d1, d2, d3] }
  | _ => none }
def ClockLensWrongFalsely : Prop := clockLensRow.holds Try.pinned (OpenSpec.ofChange clockLensWrong)

/-- 'furlonglaw04.ClockWithin': WHATEVER THE INPUT: true; the input reads as it did. -/
def clockWithinSpec : ChangeSpec := { name := "clockWithin", fn := fun _ => fun
  | [d1, d2, d3] => { results := [.lit (.bool true)], args := [d1, d2, d3] }
  | _ => none }
def clockWithinRow : OpenClaim := { program := "ytmdhcigkhapolaa", sum := "b20975cb56aa23aab643bd6ba5d182acd613ad1a1560be4fd3225fdcf5c1c740", func := "furlong/furlonglaw04.ClockWithin", spec := "clockWithin", inPlace := ["math/bits.Add64"], named := ["math/bits.divideError", "math/bits.overflowError"], apart := false }
def ClockWithinSaid : Prop := clockWithinRow.holds Try.pinned (OpenSpec.ofChange clockWithinSpec)

/-- ITS FALSE NEIGHBOUR: 'it returns false'. Refute it at one input. -/
def clockWithinWrong : ChangeSpec := { name := "clockWithin", fn := fun _ => fun
  | [d1, d2, d3] => { results := [.lit (.bool false)], args := [d1, d2, d3] }
  | _ => none }
def ClockWithinWrongFalsely : Prop := clockWithinRow.holds Try.pinned (OpenSpec.ofChange clockWithinWrong)

/-- 'furlonglaw04.ClockSteady': WHATEVER THE INPUT: true; the input reads as it did. -/
def clockSteadySpec : ChangeSpec := { name := "clockSteady", fn := fun _ => fun
  | [d1, d2, d3] => { results := [.lit (.bool true)], args := [d1, d2, d3] }
  | _ => none }
def clockSteadyRow : OpenClaim := { program := "ytmdhcigkhapolaa", sum := "b20975cb56aa23aab643bd6ba5d182acd613ad1a1560be4fd3225fdcf5c1c740", func := "furlong/furlonglaw04.ClockSteady", spec := "clockSteady", inPlace := ["math/bits.Add64"], named := ["math/bits.divideError", "math/bits.overflowError"], apart := false }
def ClockSteadySaid : Prop := clockSteadyRow.holds Try.pinned (OpenSpec.ofChange clockSteadySpec)

/-- ITS FALSE NEIGHBOUR: 'it returns false'. Refute it at one input. -/
def clockSteadyWrong : ChangeSpec := { name := "clockSteady", fn := fun _ => fun
  | [d1, d2, d3] => { results := [.lit (.bool false)], args := [d1, d2, d3] }
  | _ => none }
def ClockSteadyWrongFalsely : Prop := clockSteadyRow.holds Try.pinned (OpenSpec.ofChange clockSteadyWrong)

/-- 'furlonglaw04.ClockGreatest': WHATEVER THE INPUT: true; the input reads as it did. -/
def clockGreatestSpec : ChangeSpec := { name := "clockGreatest", fn := fun _ => fun
  | [d1, d2] => { results := [.lit (.bool true)], args := [d1, d2] }
  | _ => none }
def clockGreatestRow : OpenClaim := { program := "ytmdhcigkhapolaa", sum := "b20975cb56aa23aab643bd6ba5d182acd613ad1a1560be4fd3225fdcf5c1c740", func := "furlong/furlonglaw04.ClockGreatest", spec := "clockGreatest", inPlace := ["math/bits.Add64"], named := ["math/bits.divideError", "math/bits.overflowError"], apart := false }
def ClockGreatestSaid : Prop := clockGreatestRow.holds Try.pinned (OpenSpec.ofChange clockGreatestSpec)

/-- ITS FALSE NEIGHBOUR: 'it returns false'. Refute it at one input. -/
def clockGreatestWrong : ChangeSpec := { name := "clockGreatest", fn := fun _ => fun
  | [d1, d2] => { results := [.lit (.bool false)], args := [d1, d2] }
  | _ => none }
def ClockGreatestWrongFalsely : Prop := clockGreatestRow.holds Try.pinned (OpenSpec.ofChange clockGreatestWrong)

/-- 'furlonglaw04.ClockHolds': WHATEVER THE INPUT: true; the input reads as it did. -/
def clockHoldsSpec : ChangeSpec := { name := "clockHolds", fn := fun _ => fun
  | [d1, d2, d3, d4, d5] => { results := [.lit (.bool true)], args := [d1, d2, d3, d4, d5] }
  | _ => none }
def clockHoldsRow : OpenClaim := { program := "ytmdhcigkhapolaa", sum := "b20975cb56aa23aab643bd6ba5d182acd613ad1a1560be4fd3225fdcf5c1c740", func := "furlong/furlonglaw04.ClockHolds", spec := "clockHolds", inPlace := ["math/bits.Add64"], named := ["math/bits.divideError", "math/bits.overflowError"], apart := false }
def ClockHoldsSaid : Prop := clockHoldsRow.holds Try.pinned (OpenSpec.ofChange clockHoldsSpec)

/-- ITS FALSE NEIGHBOUR: 'it returns false'. Refute it at one input. -/
def clockHoldsWrong : ChangeSpec := { name := "clockHolds", fn := fun _ => fun
  | [d1, d2, d3, d4, d5] => { results := [.lit (.bool false)], args := [d1, d2, d3, d4, d5] }
  | _ => none }
def ClockHoldsWrongFalsely : Prop := clockHoldsRow.holds Try.pinned (OpenSpec.ofChange clockHoldsWrong)

/-- 'furlonglaw04.ClockOne': WHATEVER THE INPUT: true; the input reads as it did. -/
def clockOneSpec : ChangeSpec := { name := "clockOne", fn := fun _ => fun
  | [d1, d2, d3] => { results := [.lit (.bool true)], args := [d1, d2, d3] }
  | _ => none }
def clockOneRow : OpenClaim := { program := "ytmdhcigkhapolaa", sum := "b20975cb56aa23aab643bd6ba5d182acd613ad1a1560be4fd3225fdcf5c1c740", func := "furlong/furlonglaw04.ClockOne", spec := "clockOne", inPlace := ["math/bits.Add64"], named := ["math/bits.divideError", "math/bits.overflowError"], apart := false }
def ClockOneSaid : Prop := clockOneRow.holds Try.pinned (OpenSpec.ofChange clockOneSpec)

/-- ITS FALSE NEIGHBOUR: 'it returns false'. Refute it at one input. -/
def clockOneWrong : ChangeSpec := { name := "clockOne", fn := fun _ => fun
  | [d1, d2, d3] => { results := [.lit (.bool false)], args := [d1, d2, d3] }
  | _ => none }
def ClockOneWrongFalsely : Prop := clockOneRow.holds Try.pinned (OpenSpec.ofChange clockOneWrong)

/- THE SECOND FORM. 'bulk': how many values and letters a reading holds, each counted each time it is reached (what is shared counts as often as it is met; a slice's spare places count too). A statement '..UptoSaid' is the law's where the arguments, and the package variables that the reading takes, are together of bulk at most 1048576: NARROWER than '..Said'. Prove '..Said' where nothing that the law and all that it calls make is longer than what came in: it says more and counts as full. Else prove '..UptoSaid'. A law counts once. -/
mutual
def uptoBulk {H : Type} : DataW H → Nat
  | .lit (.string bytes) => bytes.length + 1
  | .lit _ => 1
  | .nil => 1
  | .ptr d => uptoBulk d + 1
  | .slice elems spare => uptoBulkAll elems + uptoBulkAll spare + 1
  | .agg parts => uptoBulkAll parts + 1
  | .iface _ d => uptoBulk d + 1
  | .map entries => uptoBulkEntries entries + 1
  | .held _ => 1
def uptoBulkAll {H : Type} : List (DataW H) → Nat
  | [] => 0
  | d :: r => uptoBulk d + uptoBulkAll r
def uptoBulkEntries {H : Type} : List (Lit × DataW H) → Nat
  | [] => 0
  | x :: r => uptoBulkEntry x + uptoBulkEntries r
def uptoBulkEntry {H : Type} : Lit × DataW H → Nat
  | (.string bytes, d) => bytes.length + uptoBulk d + 1
  | (_, d) => uptoBulk d + 1
 end
def uptoSmall : (H : Type) → List (DataW H) → Bool := fun _ ds => decide (uptoBulkAll ds ≤ 1048576)
def OpenSpec.upto (s : _root_.Go.ChangeSpec) : _root_.Go.OpenSpec := { _root_.Go.OpenSpec.ofChange s with cond := some uptoSmall }

/-- 'furlonglaw01.NumSums', WHERE WHAT IT READS IS OF BULK AT MOST 1048576: true; the input reads as it did. -/
def numSumsUptoRow : OpenClaim := { program := "ytmdhcigkhapolaa", sum := "b20975cb56aa23aab643bd6ba5d182acd613ad1a1560be4fd3225fdcf5c1c740", func := "furlong/furlonglaw01.NumSums", spec := "numSums", inPlace := ["math/bits.Add64", "math/bits.Sub64"], named := ["math/bits.divideError", "math/bits.overflowError"], apart := false, narrowed := true }
def NumSumsUptoSaid : Prop := numSumsUptoRow.holds Try.pinned (OpenSpec.upto numSumsSpec)

/-- 'furlonglaw01.NumTogether', WHERE WHAT IT READS IS OF BULK AT MOST 1048576: true; the input reads as it did. -/
def numTogetherUptoRow : OpenClaim := { program := "ytmdhcigkhapolaa", sum := "b20975cb56aa23aab643bd6ba5d182acd613ad1a1560be4fd3225fdcf5c1c740", func := "furlong/furlonglaw01.NumTogether", spec := "numTogether", inPlace := ["math/bits.Add64", "math/bits.Sub64"], named := ["math/bits.divideError", "math/bits.overflowError"], apart := false, narrowed := true }
def NumTogetherUptoSaid : Prop := numTogetherUptoRow.holds Try.pinned (OpenSpec.upto numTogetherSpec)

/-- 'furlonglaw02.VecOrders', WHERE WHAT IT READS IS OF BULK AT MOST 1048576: true; the input reads as it did. -/
def vecOrdersUptoRow : OpenClaim := { program := "ytmdhcigkhapolaa", sum := "b20975cb56aa23aab643bd6ba5d182acd613ad1a1560be4fd3225fdcf5c1c740", func := "furlong/furlonglaw02.VecOrders", spec := "vecOrders", unfollowed := true, recurses := true, apart := false, narrowed := true }
def VecOrdersUptoSaid : Prop := vecOrdersUptoRow.holds Try.pinned (OpenSpec.upto vecOrdersSpec)

/-- 'furlonglaw04.ClockLens', WHERE WHAT IT READS IS OF BULK AT MOST 1048576: true; the input reads as it did. -/
def clockLensUptoRow : OpenClaim := { program := "ytmdhcigkhapolaa", sum := "b20975cb56aa23aab643bd6ba5d182acd613ad1a1560be4fd3225fdcf5c1c740", func := "furlong/furlonglaw04.ClockLens", spec := "clockLens", inPlace := ["math/bits.Add64"], named := ["math/bits.divideError", "math/bits.overflowError"], apart := false, narrowed := true }
def ClockLensUptoSaid : Prop := clockLensUptoRow.holds Try.pinned (OpenSpec.upto clockLensSpec)

/-- 'furlonglaw04.ClockWithin', WHERE WHAT IT READS IS OF BULK AT MOST 1048576: true; the input reads as it did. -/
def clockWithinUptoRow : OpenClaim := { program := "ytmdhcigkhapolaa", sum := "b20975cb56aa23aab643bd6ba5d182acd613ad1a1560be4fd3225fdcf5c1c740", func := "furlong/furlonglaw04.ClockWithin", spec := "clockWithin", inPlace := ["math/bits.Add64"], named := ["math/bits.divideError", "math/bits.overflowError"], apart := false, narrowed := true }
def ClockWithinUptoSaid : Prop := clockWithinUptoRow.holds Try.pinned (OpenSpec.upto clockWithinSpec)

/-- 'furlonglaw04.ClockSteady', WHERE WHAT IT READS IS OF BULK AT MOST 1048576: true; the input reads as it did. -/
def clockSteadyUptoRow : OpenClaim := { program := "ytmdhcigkhapolaa", sum := "b20975cb56aa23aab643bd6ba5d182acd613ad1a1560be4fd3225fdcf5c1c740", func := "furlong/furlonglaw04.ClockSteady", spec := "clockSteady", inPlace := ["math/bits.Add64"], named := ["math/bits.divideError", "math/bits.overflowError"], apart := false, narrowed := true }
def ClockSteadyUptoSaid : Prop := clockSteadyUptoRow.holds Try.pinned (OpenSpec.upto clockSteadySpec)

/-- 'furlonglaw04.ClockGreatest', WHERE WHAT IT READS IS OF BULK AT MOST 1048576: true; the input reads as it did. -/
def clockGreatestUptoRow : OpenClaim := { program := "ytmdhcigkhapolaa", sum := "b20975cb56aa23aab643bd6ba5d182acd613ad1a1560be4fd3225fdcf5c1c740", func := "furlong/furlonglaw04.ClockGreatest", spec := "clockGreatest", inPlace := ["math/bits.Add64"], named := ["math/bits.divideError", "math/bits.overflowError"], apart := false, narrowed := true }
def ClockGreatestUptoSaid : Prop := clockGreatestUptoRow.holds Try.pinned (OpenSpec.upto clockGreatestSpec)

/-- 'furlonglaw04.ClockHolds', WHERE WHAT IT READS IS OF BULK AT MOST 1048576: true; the input reads as it did. -/
def clockHoldsUptoRow : OpenClaim := { program := "ytmdhcigkhapolaa", sum := "b20975cb56aa23aab643bd6ba5d182acd613ad1a1560be4fd3225fdcf5c1c740", func := "furlong/furlonglaw04.ClockHolds", spec := "clockHolds", inPlace := ["math/bits.Add64"], named := ["math/bits.divideError", "math/bits.overflowError"], apart := false, narrowed := true }
def ClockHoldsUptoSaid : Prop := clockHoldsUptoRow.holds Try.pinned (OpenSpec.upto clockHoldsSpec)

/-- 'furlonglaw04.ClockOne', WHERE WHAT IT READS IS OF BULK AT MOST 1048576: true; the input reads as it did. -/
def clockOneUptoRow : OpenClaim := { program := "ytmdhcigkhapolaa", sum := "b20975cb56aa23aab643bd6ba5d182acd613ad1a1560be4fd3225fdcf5c1c740", func := "furlong/furlonglaw04.ClockOne", spec := "clockOne", inPlace := ["math/bits.Add64"], named := ["math/bits.divideError", "math/bits.overflowError"], apart := false, narrowed := true }
def ClockOneUptoSaid : Prop := clockOneUptoRow.holds Try.pinned (OpenSpec.upto clockOneSpec)

end Rows
end Go.Proofs.Ytmdhcigkhapolaa
