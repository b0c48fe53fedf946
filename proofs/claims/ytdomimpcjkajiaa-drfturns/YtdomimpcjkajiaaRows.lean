/-
  No cell of these rows narrows 'for every input' (looked for: loops, veiled, ifaces, maps, wideKeys, modest, calm, conditions, laid).
  DERIVED. THE GIVEN ROWS OF THIS SEAT. 9 by the template 'for every input the law returns true; each argument reads behind the call as it read before'; 0 by the template 'total and deterministic' (their statements: YtdomimpcjkajiaaTotals.lean).
  GIVEN WITH THE SEED: the statements are not yours to turn. If you find one false, say at which input.
  Laid BY PROGRAM, IN A SANDBOX (cutbox-rows.mjs): the forced cells as the released guide's own fill.sh prints them over the translation d3a67cf37c054880… (all of the seat's roots in one cut). By AI agents, Wed Nov 11 2026. No macro, syntax, notation, axiom, sorry.
-/
import Derived.Test.YtdomimpcjkajiaaChecked
import GoSem.Claim
import GoSem.ClaimJoined
import GoSem.ClaimMapViews
import Derived.JoinedTies
import Derived.KernelRfl
namespace Go.Proofs.Ytdomimpcjkajiaa
/- THE CELL 'sum', in the pinned program and in every row, IS THE sha256 OF THE DUMP (.gsa) THAT YtdomimpcjkajiaaProg.lean LOADS. Nothing in Lean hashes anything: it is a label: what it is worth is what the hold of that sum in a sandbox is worth. -/
noncomputable def Try.pinned : Pinned := { name := "ytdomimpcjkajiaa", sum := "d3a67cf37c054880ceaf46241f4b39c299a449195ffdf71ee1340910f912ec45", checked := Try.checked }
namespace Rows
def none {H : Type} : Left H := { results := [], args := [] }

/-- 'furlonglaw05.QueueSums': WHATEVER THE INPUT: true; the input reads as it did. -/
def queueSumsSpec : ChangeSpec := { name := "queueSums", fn := fun _ => fun
  | [d1, d2, d3, d4] => { results := [.lit (.bool true)], args := [d1, d2, d3, d4] }
  | _ => none }
def queueSumsRow : OpenClaim := { program := "ytdomimpcjkajiaa", sum := "d3a67cf37c054880ceaf46241f4b39c299a449195ffdf71ee1340910f912ec45", func := "furlong/furlonglaw05.QueueSums", spec := "queueSums", inPlace := ["slices.overlaps[furlong/api.Queue]"], unfollowed := true, recurses := true, apart := false }
def QueueSumsSaid : Prop := queueSumsRow.holds Try.pinned (OpenSpec.ofChange queueSumsSpec)

/-- ITS FALSE NEIGHBOUR: 'it returns false'. Refute it at one input. -/
def queueSumsWrong : ChangeSpec := { name := "queueSums", fn := fun _ => fun
  | [d1, d2, d3, d4] => { results := [.lit (.bool false)], args := [d1, d2, d3, d4] }
  | _ => none }
def QueueSumsWrongFalsely : Prop := queueSumsRow.holds Try.pinned (OpenSpec.ofChange queueSumsWrong)

/-- 'furlonglaw05.QueueTotals': WHATEVER THE INPUT: true; the input reads as it did. -/
def queueTotalsSpec : ChangeSpec := { name := "queueTotals", fn := fun _ => fun
  | [d1, d2] => { results := [.lit (.bool true)], args := [d1, d2] }
  | _ => none }
def queueTotalsRow : OpenClaim := { program := "ytdomimpcjkajiaa", sum := "d3a67cf37c054880ceaf46241f4b39c299a449195ffdf71ee1340910f912ec45", func := "furlong/furlonglaw05.QueueTotals", spec := "queueTotals", inPlace := ["slices.overlaps[furlong/api.Queue]"], unfollowed := true, recurses := true, apart := false }
def QueueTotalsSaid : Prop := queueTotalsRow.holds Try.pinned (OpenSpec.ofChange queueTotalsSpec)

/-- ITS FALSE NEIGHBOUR: 'it returns false'. Refute it at one input. -/
def queueTotalsWrong : ChangeSpec := { name := "queueTotals", fn := fun _ => fun
  | [d1, d2] => { results := [.lit (.bool false)], args := [d1, d2] }
  | _ => none }
def QueueTotalsWrongFalsely : Prop := queueTotalsRow.holds Try.pinned (OpenSpec.ofChange queueTotalsWrong)

/-- 'furlonglaw05.QueueRooms': WHATEVER THE INPUT: true; the input reads as it did. -/
def queueRoomsSpec : ChangeSpec := { name := "queueRooms", fn := fun _ => fun
  | [d1, d2, d3, d4] => { results := [.lit (.bool true)], args := [d1, d2, d3, d4] }
  | _ => none }
def queueRoomsRow : OpenClaim := { program := "ytdomimpcjkajiaa", sum := "d3a67cf37c054880ceaf46241f4b39c299a449195ffdf71ee1340910f912ec45", func := "furlong/furlonglaw05.QueueRooms", spec := "queueRooms", inPlace := ["slices.overlaps[furlong/api.Queue]"], unfollowed := true, recurses := true, apart := false }
def QueueRoomsSaid : Prop := queueRoomsRow.holds Try.pinned (OpenSpec.ofChange queueRoomsSpec)

/-- ITS FALSE NEIGHBOUR: 'it returns false'. Refute it at one input. -/
def queueRoomsWrong : ChangeSpec := { name := "queueRooms", fn := fun _ => fun
  | [d1, d2, d3, d4] => { results := [.lit (.bool false)], args := [d1, d2, d3, d4] }
  | _ => none }
def QueueRoomsWrongFalsely : Prop := queueRoomsRow.holds Try.pinned (OpenSpec.ofChange queueRoomsWrong)

/-- 'furlonglaw06.DrfChooses': WHATEVER THE INPUT: true; the input reads as it did. -/
def drfChoosesSpec : ChangeSpec := { name := "drfChooses", fn := fun _ => fun
  | [d1, d2, d3, d4] => { results := [.lit (.bool true)], args := [d1, d2, d3, d4] }
  | _ => none }
def drfChoosesRow : OpenClaim := { program := "ytdomimpcjkajiaa", sum := "d3a67cf37c054880ceaf46241f4b39c299a449195ffdf71ee1340910f912ec45", func := "furlong/furlonglaw06.DrfChooses", spec := "drfChooses", unfollowed := true, recurses := true, apart := false }
def DrfChoosesSaid : Prop := drfChoosesRow.holds Try.pinned (OpenSpec.ofChange drfChoosesSpec)

/-- ITS FALSE NEIGHBOUR: 'it returns false'. Refute it at one input. -/
def drfChoosesWrong : ChangeSpec := { name := "drfChooses", fn := fun _ => fun
  | [d1, d2, d3, d4] => { results := [.lit (.bool false)], args := [d1, d2, d3, d4] }
  | _ => none }
def DrfChoosesWrongFalsely : Prop := drfChoosesRow.holds Try.pinned (OpenSpec.ofChange drfChoosesWrong)

/-- 'furlonglaw06.DrfOrders': WHATEVER THE INPUT: true; the input reads as it did. -/
def drfOrdersSpec : ChangeSpec := { name := "drfOrders", fn := fun _ => fun
  | [d1, d2, d3, d4] => { results := [.lit (.bool true)], args := [d1, d2, d3, d4] }
  | _ => none }
def drfOrdersRow : OpenClaim := { program := "ytdomimpcjkajiaa", sum := "d3a67cf37c054880ceaf46241f4b39c299a449195ffdf71ee1340910f912ec45", func := "furlong/furlonglaw06.DrfOrders", spec := "drfOrders", unfollowed := true, recurses := true, apart := false }
def DrfOrdersSaid : Prop := drfOrdersRow.holds Try.pinned (OpenSpec.ofChange drfOrdersSpec)

/-- ITS FALSE NEIGHBOUR: 'it returns false'. Refute it at one input. -/
def drfOrdersWrong : ChangeSpec := { name := "drfOrders", fn := fun _ => fun
  | [d1, d2, d3, d4] => { results := [.lit (.bool false)], args := [d1, d2, d3, d4] }
  | _ => none }
def DrfOrdersWrongFalsely : Prop := drfOrdersRow.holds Try.pinned (OpenSpec.ofChange drfOrdersWrong)

/-- 'furlonglaw06.DrfTurns': WHATEVER THE INPUT: true; the input reads as it did. -/
def drfTurnsSpec : ChangeSpec := { name := "drfTurns", fn := fun _ => fun
  | [d1, d2, d3, d4] => { results := [.lit (.bool true)], args := [d1, d2, d3, d4] }
  | _ => none }
def drfTurnsRow : OpenClaim := { program := "ytdomimpcjkajiaa", sum := "d3a67cf37c054880ceaf46241f4b39c299a449195ffdf71ee1340910f912ec45", func := "furlong/furlonglaw06.DrfTurns", spec := "drfTurns", unfollowed := true, recurses := true, apart := false }
def DrfTurnsSaid : Prop := drfTurnsRow.holds Try.pinned (OpenSpec.ofChange drfTurnsSpec)

/-- ITS FALSE NEIGHBOUR: 'it returns false'. Refute it at one input. -/
def drfTurnsWrong : ChangeSpec := { name := "drfTurns", fn := fun _ => fun
  | [d1, d2, d3, d4] => { results := [.lit (.bool false)], args := [d1, d2, d3, d4] }
  | _ => none }
def DrfTurnsWrongFalsely : Prop := drfTurnsRow.holds Try.pinned (OpenSpec.ofChange drfTurnsWrong)

/-- 'furlonglaw06.DrfLeast': WHATEVER THE INPUT: true; the input reads as it did. -/
def drfLeastSpec : ChangeSpec := { name := "drfLeast", fn := fun _ => fun
  | [d1, d2, d3, d4] => { results := [.lit (.bool true)], args := [d1, d2, d3, d4] }
  | _ => none }
def drfLeastRow : OpenClaim := { program := "ytdomimpcjkajiaa", sum := "d3a67cf37c054880ceaf46241f4b39c299a449195ffdf71ee1340910f912ec45", func := "furlong/furlonglaw06.DrfLeast", spec := "drfLeast", unfollowed := true, recurses := true, apart := false }
def DrfLeastSaid : Prop := drfLeastRow.holds Try.pinned (OpenSpec.ofChange drfLeastSpec)

/-- ITS FALSE NEIGHBOUR: 'it returns false'. Refute it at one input. -/
def drfLeastWrong : ChangeSpec := { name := "drfLeast", fn := fun _ => fun
  | [d1, d2, d3, d4] => { results := [.lit (.bool false)], args := [d1, d2, d3, d4] }
  | _ => none }
def DrfLeastWrongFalsely : Prop := drfLeastRow.holds Try.pinned (OpenSpec.ofChange drfLeastWrong)

/-- 'furlonglaw06.DrfOne': WHATEVER THE INPUT: true; the input reads as it did. -/
def drfOneSpec : ChangeSpec := { name := "drfOne", fn := fun _ => fun
  | [d1, d2, d3, d4] => { results := [.lit (.bool true)], args := [d1, d2, d3, d4] }
  | _ => none }
def drfOneRow : OpenClaim := { program := "ytdomimpcjkajiaa", sum := "d3a67cf37c054880ceaf46241f4b39c299a449195ffdf71ee1340910f912ec45", func := "furlong/furlonglaw06.DrfOne", spec := "drfOne", unfollowed := true, recurses := true, apart := false }
def DrfOneSaid : Prop := drfOneRow.holds Try.pinned (OpenSpec.ofChange drfOneSpec)

/-- ITS FALSE NEIGHBOUR: 'it returns false'. Refute it at one input. -/
def drfOneWrong : ChangeSpec := { name := "drfOne", fn := fun _ => fun
  | [d1, d2, d3, d4] => { results := [.lit (.bool false)], args := [d1, d2, d3, d4] }
  | _ => none }
def DrfOneWrongFalsely : Prop := drfOneRow.holds Try.pinned (OpenSpec.ofChange drfOneWrong)

/-- 'furlonglaw06.DrfGrows': WHATEVER THE INPUT: true; the input reads as it did. -/
def drfGrowsSpec : ChangeSpec := { name := "drfGrows", fn := fun _ => fun
  | [d1, d2, d3, d4, d5, d6] => { results := [.lit (.bool true)], args := [d1, d2, d3, d4, d5, d6] }
  | _ => none }
def drfGrowsRow : OpenClaim := { program := "ytdomimpcjkajiaa", sum := "d3a67cf37c054880ceaf46241f4b39c299a449195ffdf71ee1340910f912ec45", func := "furlong/furlonglaw06.DrfGrows", spec := "drfGrows", unfollowed := true, recurses := true, apart := false }
def DrfGrowsSaid : Prop := drfGrowsRow.holds Try.pinned (OpenSpec.ofChange drfGrowsSpec)

/-- ITS FALSE NEIGHBOUR: 'it returns false'. Refute it at one input. -/
def drfGrowsWrong : ChangeSpec := { name := "drfGrows", fn := fun _ => fun
  | [d1, d2, d3, d4, d5, d6] => { results := [.lit (.bool false)], args := [d1, d2, d3, d4, d5, d6] }
  | _ => none }
def DrfGrowsWrongFalsely : Prop := drfGrowsRow.holds Try.pinned (OpenSpec.ofChange drfGrowsWrong)

/- THE SECOND FORM. 'bulk': how many values and letters a reading holds, each counted each time it is reached (what is shared counts as often as it is met; a slice's spare places count too). A statement '..UptoSaid' is the law's where the arguments, and the package variables that the reading takes, are together of bulk at most 1048576: NARROWER than '..Said'. Prove '..Said' where nothing that the law and all that it calls make is longer than what came in: it says more and counts as full. Else prove '..UptoSaid'. A law counts once. -/
mutual
def uptoBulk {H : Type} : DataW H → Nat
  | .lit (.string bytes) => bytes.length + 1
  | .lit _ => 1
  | .nil => 1
  | .ptr d => uptoBulk d + 1
  | .slice elems spare => uptoBulkAll elems + uptoBulkAll spare + 1
  | .agg parts => uptoBulkAll parts + 1
  | .iface _ d => uptoBulk d + 1
  | .map entries => uptoBulkEntries entries + 1
  | .held _ => 1
def uptoBulkAll {H : Type} : List (DataW H) → Nat
  | [] => 0
  | d :: r => uptoBulk d + uptoBulkAll r
def uptoBulkEntries {H : Type} : List (Lit × DataW H) → Nat
  | [] => 0
  | x :: r => uptoBulkEntry x + uptoBulkEntries r
def uptoBulkEntry {H : Type} : Lit × DataW H → Nat
  | (.string bytes, d) => bytes.length + uptoBulk d + 1
  | (_, d) => uptoBulk d + 1
 end
def uptoSmall : (H : Type) → List (DataW H) → Bool := fun _ ds => decide (uptoBulkAll ds ≤ 1048576)
def OpenSpec.upto (s : _root_.Go.ChangeSpec) : _root_.Go.OpenSpec := { _root_.Go.OpenSpec.ofChange s with cond := some uptoSmall }

/-- 'furlonglaw05.QueueSums', WHERE WHAT IT READS IS OF BULK AT MOST 1048576: true; the input reads as it did. -/
def queueSumsUptoRow : OpenClaim := { program := "ytdomimpcjkajiaa", sum := "d3a67cf37c054880ceaf46241f4b39c299a449195ffdf71ee1340910f912ec45", func := "furlong/furlonglaw05.QueueSums", spec := "queueSums", inPlace := ["slices.overlaps[furlong/api.Queue]"], unfollowed := true, recurses := true, apart := false, narrowed := true }
def QueueSumsUptoSaid : Prop := queueSumsUptoRow.holds Try.pinned (OpenSpec.upto queueSumsSpec)

/-- 'furlonglaw05.QueueTotals', WHERE WHAT IT READS IS OF BULK AT MOST 1048576: true; the input reads as it did. -/
def queueTotalsUptoRow : OpenClaim := { program := "ytdomimpcjkajiaa", sum := "d3a67cf37c054880ceaf46241f4b39c299a449195ffdf71ee1340910f912ec45", func := "furlong/furlonglaw05.QueueTotals", spec := "queueTotals", inPlace := ["slices.overlaps[furlong/api.Queue]"], unfollowed := true, recurses := true, apart := false, narrowed := true }
def QueueTotalsUptoSaid : Prop := queueTotalsUptoRow.holds Try.pinned (OpenSpec.upto queueTotalsSpec)

/-- 'furlonglaw05.QueueRooms', WHERE WHAT IT READS IS OF BULK AT MOST 1048576: true; the input reads as it did. -/
def queueRoomsUptoRow : OpenClaim := { program := "ytdomimpcjkajiaa", sum := "d3a67cf37c054880ceaf46241f4b39c299a449195ffdf71ee1340910f912ec45", func := "furlong/furlonglaw05.QueueRooms", spec := "queueRooms", inPlace := ["slices.overlaps[furlong/api.Queue]"], unfollowed := true, recurses := true, apart := false, narrowed := true }
def QueueRoomsUptoSaid : Prop := queueRoomsUptoRow.holds Try.pinned (OpenSpec.upto queueRoomsSpec)

/-- 'furlonglaw06.DrfChooses', WHERE WHAT IT READS IS OF BULK AT MOST 1048576: true; the input reads as it did. -/
def drfChoosesUptoRow : OpenClaim := { program := "ytdomimpcjkajiaa", sum := "d3a67cf37c054880ceaf46241f4b39c299a449195ffdf71ee1340910f912ec45", func := "furlong/furlonglaw06.DrfChooses", spec := "drfChooses", unfollowed := true, recurses := true, apart := false, narrowed := true }
def DrfChoosesUptoSaid : Prop := drfChoosesUptoRow.holds Try.pinned (OpenSpec.upto drfChoosesSpec)

/-- 'furlonglaw06.DrfOrders', WHERE WHAT IT READS IS OF BULK AT MOST 1048576: true; the input reads as it did. -/
def drfOrdersUptoRow : OpenClaim := { program := "ytdomimpcjkajiaa", sum := "d3a67cf37c054880ceaf46241f4b39c299a449195ffdf71ee1340910f912ec45", func := "furlong/furlonglaw06.DrfOrders", spec := "drfOrders", unfollowed := true, recurses := true, apart := false, narrowed := true }
def DrfOrdersUptoSaid : Prop := drfOrdersUptoRow.holds Try.pinned (OpenSpec.upto drfOrdersSpec)

/-- 'furlonglaw06.DrfTurns', WHERE WHAT IT READS IS OF BULK AT MOST 1048576: true; the input reads as it did. -/
def drfTurnsUptoRow : OpenClaim := { program := "ytdomimpcjkajiaa", sum := "d3a67cf37c054880ceaf46241f4b39c299a449195ffdf71ee1340910f912ec45", func := "furlong/furlonglaw06.DrfTurns", spec := "drfTurns", unfollowed := true, recurses := true, apart := false, narrowed := true }
def DrfTurnsUptoSaid : Prop := drfTurnsUptoRow.holds Try.pinned (OpenSpec.upto drfTurnsSpec)

/-- 'furlonglaw06.DrfLeast', WHERE WHAT IT READS IS OF BULK AT MOST 1048576: true; the input reads as it did. -/
def drfLeastUptoRow : OpenClaim := { program := "ytdomimpcjkajiaa", sum := "d3a67cf37c054880ceaf46241f4b39c299a449195ffdf71ee1340910f912ec45", func := "furlong/furlonglaw06.DrfLeast", spec := "drfLeast", unfollowed := true, recurses := true, apart := false, narrowed := true }
def DrfLeastUptoSaid : Prop := drfLeastUptoRow.holds Try.pinned (OpenSpec.upto drfLeastSpec)

/-- 'furlonglaw06.DrfOne', WHERE WHAT IT READS IS OF BULK AT MOST 1048576: true; the input reads as it did. -/
def drfOneUptoRow : OpenClaim := { program := "ytdomimpcjkajiaa", sum := "d3a67cf37c054880ceaf46241f4b39c299a449195ffdf71ee1340910f912ec45", func := "furlong/furlonglaw06.DrfOne", spec := "drfOne", unfollowed := true, recurses := true, apart := false, narrowed := true }
def DrfOneUptoSaid : Prop := drfOneUptoRow.holds Try.pinned (OpenSpec.upto drfOneSpec)

/-- 'furlonglaw06.DrfGrows', WHERE WHAT IT READS IS OF BULK AT MOST 1048576: true; the input reads as it did. -/
def drfGrowsUptoRow : OpenClaim := { program := "ytdomimpcjkajiaa", sum := "d3a67cf37c054880ceaf46241f4b39c299a449195ffdf71ee1340910f912ec45", func := "furlong/furlonglaw06.DrfGrows", spec := "drfGrows", unfollowed := true, recurses := true, apart := false, narrowed := true }
def DrfGrowsUptoSaid : Prop := drfGrowsUptoRow.holds Try.pinned (OpenSpec.upto drfGrowsSpec)

end Rows
end Go.Proofs.Ytdomimpcjkajiaa
