/-
  No cell of these rows narrows 'for every input' (looked for: loops, veiled, ifaces, maps, wideKeys, modest, calm, conditions, laid).
  DERIVED. THE GIVEN ROWS OF THIS SEAT. 8 by the template 'for every input the law returns true; each argument reads behind the call as it read before'; 0 by the template 'total and deterministic' (their statements: YtcfaciicljjpoaaTotals.lean).
  GIVEN WITH THE SEED: the statements are not yours to turn. If you find one false, say at which input.
  Laid BY PROGRAM, IN A SANDBOX (cutbox-rows.mjs): the forced cells as the released guide's own fill.sh prints them over the translation f1ba17fdd6340d01… (all of the seat's roots in one cut). By AI agents, Wed Nov 11 2026. No macro, syntax, notation, axiom, sorry.
-/
import Derived.Test.YtcfaciicljjpoaaChecked
import GoSem.Claim
import GoSem.ClaimJoined
import GoSem.ClaimMapViews
import Derived.JoinedTies
import Derived.KernelRfl
namespace Go.Proofs.Ytcfaciicljjpoaa
/- THE CELL 'sum', in the pinned program and in every row, IS THE sha256 OF THE DUMP (.gsa) THAT YtcfaciicljjpoaaProg.lean LOADS. Nothing in Lean hashes anything: it is a label: what it is worth is what the hold of that sum in a sandbox is worth. -/
noncomputable def Try.pinned : Pinned := { name := "ytcfaciicljjpoaa", sum := "f1ba17fdd6340d01c75892ac5ef8a594203d2c8cbf8ab50c1c33e166196dbfde", checked := Try.checked }
namespace Rows
def none {H : Type} : Left H := { results := [], args := [] }

/-- 'furlonglaw05.QueueEdits': WHATEVER THE INPUT: true; the input reads as it did. -/
def queueEditsSpec : ChangeSpec := { name := "queueEdits", fn := fun _ => fun
  | [d1, d2, d3] => { results := [.lit (.bool true)], args := [d1, d2, d3] }
  | _ => none }
def queueEditsRow : OpenClaim := { program := "ytcfaciicljjpoaa", sum := "f1ba17fdd6340d01c75892ac5ef8a594203d2c8cbf8ab50c1c33e166196dbfde", func := "furlong/furlonglaw05.QueueEdits", spec := "queueEdits", inPlace := ["slices.overlaps[furlong/api.Queue]"], unfollowed := true, recurses := true, apart := false }
def QueueEditsSaid : Prop := queueEditsRow.holds Try.pinned (OpenSpec.ofChange queueEditsSpec)

/-- ITS FALSE NEIGHBOUR: 'it returns false'. Refute it at one input. -/
def queueEditsWrong : ChangeSpec := { name := "queueEdits", fn := fun _ => fun
  | [d1, d2, d3] => { results := [.lit (.bool false)], args := [d1, d2, d3] }
  | _ => none }
def QueueEditsWrongFalsely : Prop := queueEditsRow.holds Try.pinned (OpenSpec.ofChange queueEditsWrong)

/-- 'furlonglaw05.QueueAsks': WHATEVER THE INPUT: true; the input reads as it did. -/
def queueAsksSpec : ChangeSpec := { name := "queueAsks", fn := fun _ => fun
  | [d1, d2] => { results := [.lit (.bool true)], args := [d1, d2] }
  | _ => none }
def queueAsksRow : OpenClaim := { program := "ytcfaciicljjpoaa", sum := "f1ba17fdd6340d01c75892ac5ef8a594203d2c8cbf8ab50c1c33e166196dbfde", func := "furlong/furlonglaw05.QueueAsks", spec := "queueAsks", inPlace := ["slices.overlaps[furlong/api.Queue]"], unfollowed := true, recurses := true, apart := false }
def QueueAsksSaid : Prop := queueAsksRow.holds Try.pinned (OpenSpec.ofChange queueAsksSpec)

/-- ITS FALSE NEIGHBOUR: 'it returns false'. Refute it at one input. -/
def queueAsksWrong : ChangeSpec := { name := "queueAsks", fn := fun _ => fun
  | [d1, d2] => { results := [.lit (.bool false)], args := [d1, d2] }
  | _ => none }
def QueueAsksWrongFalsely : Prop := queueAsksRow.holds Try.pinned (OpenSpec.ofChange queueAsksWrong)

/-- 'furlonglaw05.QueueSums': WHATEVER THE INPUT: true; the input reads as it did. -/
def queueSumsSpec : ChangeSpec := { name := "queueSums", fn := fun _ => fun
  | [d1, d2, d3, d4] => { results := [.lit (.bool true)], args := [d1, d2, d3, d4] }
  | _ => none }
def queueSumsRow : OpenClaim := { program := "ytcfaciicljjpoaa", sum := "f1ba17fdd6340d01c75892ac5ef8a594203d2c8cbf8ab50c1c33e166196dbfde", func := "furlong/furlonglaw05.QueueSums", spec := "queueSums", inPlace := ["slices.overlaps[furlong/api.Queue]"], unfollowed := true, recurses := true, apart := false }
def QueueSumsSaid : Prop := queueSumsRow.holds Try.pinned (OpenSpec.ofChange queueSumsSpec)

/-- ITS FALSE NEIGHBOUR: 'it returns false'. Refute it at one input. -/
def queueSumsWrong : ChangeSpec := { name := "queueSums", fn := fun _ => fun
  | [d1, d2, d3, d4] => { results := [.lit (.bool false)], args := [d1, d2, d3, d4] }
  | _ => none }
def QueueSumsWrongFalsely : Prop := queueSumsRow.holds Try.pinned (OpenSpec.ofChange queueSumsWrong)

/-- 'furlonglaw05.QueueBack': WHATEVER THE INPUT: true; the input reads as it did. -/
def queueBackSpec : ChangeSpec := { name := "queueBack", fn := fun _ => fun
  | [d1, d2] => { results := [.lit (.bool true)], args := [d1, d2] }
  | _ => none }
def queueBackRow : OpenClaim := { program := "ytcfaciicljjpoaa", sum := "f1ba17fdd6340d01c75892ac5ef8a594203d2c8cbf8ab50c1c33e166196dbfde", func := "furlong/furlonglaw05.QueueBack", spec := "queueBack", inPlace := ["slices.overlaps[furlong/api.Queue]"], unfollowed := true, recurses := true, apart := false }
def QueueBackSaid : Prop := queueBackRow.holds Try.pinned (OpenSpec.ofChange queueBackSpec)

/-- ITS FALSE NEIGHBOUR: 'it returns false'. Refute it at one input. -/
def queueBackWrong : ChangeSpec := { name := "queueBack", fn := fun _ => fun
  | [d1, d2] => { results := [.lit (.bool false)], args := [d1, d2] }
  | _ => none }
def QueueBackWrongFalsely : Prop := queueBackRow.holds Try.pinned (OpenSpec.ofChange queueBackWrong)

/-- 'furlonglaw05.QueueTrees': WHATEVER THE INPUT: true; the input reads as it did. -/
def queueTreesSpec : ChangeSpec := { name := "queueTrees", fn := fun _ => fun
  | [d1, d2] => { results := [.lit (.bool true)], args := [d1, d2] }
  | _ => none }
def queueTreesRow : OpenClaim := { program := "ytcfaciicljjpoaa", sum := "f1ba17fdd6340d01c75892ac5ef8a594203d2c8cbf8ab50c1c33e166196dbfde", func := "furlong/furlonglaw05.QueueTrees", spec := "queueTrees", inPlace := ["slices.overlaps[furlong/api.Queue]"], unfollowed := true, recurses := true, apart := false }
def QueueTreesSaid : Prop := queueTreesRow.holds Try.pinned (OpenSpec.ofChange queueTreesSpec)

/-- ITS FALSE NEIGHBOUR: 'it returns false'. Refute it at one input. -/
def queueTreesWrong : ChangeSpec := { name := "queueTrees", fn := fun _ => fun
  | [d1, d2] => { results := [.lit (.bool false)], args := [d1, d2] }
  | _ => none }
def QueueTreesWrongFalsely : Prop := queueTreesRow.holds Try.pinned (OpenSpec.ofChange queueTreesWrong)

/-- 'furlonglaw05.QueueTotals': WHATEVER THE INPUT: true; the input reads as it did. -/
def queueTotalsSpec : ChangeSpec := { name := "queueTotals", fn := fun _ => fun
  | [d1, d2] => { results := [.lit (.bool true)], args := [d1, d2] }
  | _ => none }
def queueTotalsRow : OpenClaim := { program := "ytcfaciicljjpoaa", sum := "f1ba17fdd6340d01c75892ac5ef8a594203d2c8cbf8ab50c1c33e166196dbfde", func := "furlong/furlonglaw05.QueueTotals", spec := "queueTotals", inPlace := ["slices.overlaps[furlong/api.Queue]"], unfollowed := true, recurses := true, apart := false }
def QueueTotalsSaid : Prop := queueTotalsRow.holds Try.pinned (OpenSpec.ofChange queueTotalsSpec)

/-- ITS FALSE NEIGHBOUR: 'it returns false'. Refute it at one input. -/
def queueTotalsWrong : ChangeSpec := { name := "queueTotals", fn := fun _ => fun
  | [d1, d2] => { results := [.lit (.bool false)], args := [d1, d2] }
  | _ => none }
def QueueTotalsWrongFalsely : Prop := queueTotalsRow.holds Try.pinned (OpenSpec.ofChange queueTotalsWrong)

/-- 'furlonglaw05.QueueRooms': WHATEVER THE INPUT: true; the input reads as it did. -/
def queueRoomsSpec : ChangeSpec := { name := "queueRooms", fn := fun _ => fun
  | [d1, d2, d3, d4] => { results := [.lit (.bool true)], args := [d1, d2, d3, d4] }
  | _ => none }
def queueRoomsRow : OpenClaim := { program := "ytcfaciicljjpoaa", sum := "f1ba17fdd6340d01c75892ac5ef8a594203d2c8cbf8ab50c1c33e166196dbfde", func := "furlong/furlonglaw05.QueueRooms", spec := "queueRooms", inPlace := ["slices.overlaps[furlong/api.Queue]"], unfollowed := true, recurses := true, apart := false }
def QueueRoomsSaid : Prop := queueRoomsRow.holds Try.pinned (OpenSpec.ofChange queueRoomsSpec)

/-- ITS FALSE NEIGHBOUR: 'it returns false'. Refute it at one input. -/
def queueRoomsWrong : ChangeSpec := { name := "queueRooms", fn := fun _ => fun
  | [d1, d2, d3, d4] => { results := [.lit (.bool false)], args := [d1, d2, d3, d4] }
  | _ => none }
def QueueRoomsWrongFalsely : Prop := queueRoomsRow.holds Try.pinned (OpenSpec.ofChange queueRoomsWrong)

/-- 'furlonglaw05.QueueApart': WHATEVER THE INPUT: true; the input reads as it did. -/
def queueApartSpec : ChangeSpec := { name := "queueApart", fn := fun _ => fun
  | [d1, d2, d3] => { results := [.lit (.bool true)], args := [d1, d2, d3] }
  | _ => none }
def queueApartRow : OpenClaim := { program := "ytcfaciicljjpoaa", sum := "f1ba17fdd6340d01c75892ac5ef8a594203d2c8cbf8ab50c1c33e166196dbfde", func := "furlong/furlonglaw05.QueueApart", spec := "queueApart", inPlace := ["slices.overlaps[furlong/api.Queue]"], unfollowed := true, recurses := true, apart := false }
def QueueApartSaid : Prop := queueApartRow.holds Try.pinned (OpenSpec.ofChange queueApartSpec)

/-- ITS FALSE NEIGHBOUR: 'it returns false'. Refute it at one input. -/
def queueApartWrong : ChangeSpec := { name := "queueApart", fn := fun _ => fun
  | [d1, d2, d3] => { results := [.lit (.bool false)], args := [d1, d2, d3] }
  | _ => none }
def QueueApartWrongFalsely : Prop := queueApartRow.holds Try.pinned (OpenSpec.ofChange queueApartWrong)

/- THE SECOND FORM. 'bulk': how many values and letters a reading holds, each counted each time it is reached (what is shared counts as often as it is met; a slice's spare places count too). A statement '..UptoSaid' is the law's where the arguments, and the package variables that the reading takes, are together of bulk at most 1048576: NARROWER than '..Said'. Prove '..Said' where nothing that the law and all that it calls make is longer than what came in: it says more and counts as full. Else prove '..UptoSaid'. A law counts once. -/
mutual
def uptoBulk {H : Type} : DataW H → Nat
  | .lit (.string bytes) => bytes.length + 1
  | .lit _ => 1
  | .nil => 1
  | .ptr d => uptoBulk d + 1
  | .slice elems spare => uptoBulkAll elems + uptoBulkAll spare + 1
  | .agg parts => uptoBulkAll parts + 1
  | .iface _ d => uptoBulk d + 1
  | .map entries => uptoBulkEntries entries + 1
  | .held _ => 1
def uptoBulkAll {H : Type} : List (DataW H) → Nat
  | [] => 0
  | d :: r => uptoBulk d + uptoBulkAll r
def uptoBulkEntries {H : Type} : List (Lit × DataW H) → Nat
  | [] => 0
  | x :: r => uptoBulkEntry x + uptoBulkEntries r
def uptoBulkEntry {H : Type} : Lit × DataW H → Nat
  | (.string bytes, d) => bytes.length + uptoBulk d + 1
  | (_, d) => uptoBulk d + 1
 end
def uptoSmall : (H : Type) → List (DataW H) → Bool := fun _ ds => decide (uptoBulkAll ds ≤ 1048576)
def OpenSpec.upto (s : _root_.Go.ChangeSpec) : _root_.Go.OpenSpec := { _root_.Go.OpenSpec.ofChange s with cond := some uptoSmall }

/-- 'furlonglaw05.QueueEdits', WHERE WHAT IT READS IS OF BULK AT MOST 1048576: true; the input reads as it did. -/
def queueEditsUptoRow : OpenClaim := { program := "ytcfaciicljjpoaa", sum := "f1ba17fdd6340d01c75892ac5ef8a594203d2c8cbf8ab50c1c33e166196dbfde", func := "furlong/furlonglaw05.QueueEdits", spec := "queueEdits", inPlace := ["slices.overlaps[furlong/api.Queue]"], unfollowed := true, recurses := true, apart := false, narrowed := true }
def QueueEditsUptoSaid : Prop := queueEditsUptoRow.holds Try.pinned (OpenSpec.upto queueEditsSpec)

/-- 'furlonglaw05.QueueAsks', WHERE WHAT IT READS IS OF BULK AT MOST 1048576: true; the input reads as it did. -/
def queueAsksUptoRow : OpenClaim := { program := "ytcfaciicljjpoaa", sum := "f1ba17fdd6340d01c75892ac5ef8a594203d2c8cbf8ab50c1c33e166196dbfde", func := "furlong/furlonglaw05.QueueAsks", spec := "queueAsks", inPlace := ["slices.overlaps[furlong/api.Queue]"], unfollowed := true, recurses := true, apart := false, narrowed := true }
def QueueAsksUptoSaid : Prop := queueAsksUptoRow.holds Try.pinned (OpenSpec.upto queueAsksSpec)

/-- 'furlonglaw05.QueueSums', WHERE WHAT IT READS IS OF BULK AT MOST 1048576: true; the input reads as it did. -/
def queueSumsUptoRow : OpenClaim := { program := "ytcfaciicljjpoaa", sum := "f1ba17fdd6340d01c75892ac5ef8a594203d2c8cbf8ab50c1c33e166196dbfde", func := "furlong/furlonglaw05.QueueSums", spec := "queueSums", inPlace := ["slices.overlaps[furlong/api.Queue]"], unfollowed := true, recurses := true, apart := false, narrowed := true }
def QueueSumsUptoSaid : Prop := queueSumsUptoRow.holds Try.pinned (OpenSpec.upto queueSumsSpec)

/-- 'furlonglaw05.QueueBack', WHERE WHAT IT READS IS OF BULK AT MOST 1048576: true; the input reads as it did. -/
def queueBackUptoRow : OpenClaim := { program := "ytcfaciicljjpoaa", sum := "f1ba17fdd6340d01c75892ac5ef8a594203d2c8cbf8ab50c1c33e166196dbfde", func := "furlong/furlonglaw05.QueueBack", spec := "queueBack", inPlace := ["slices.overlaps[furlong/api.Queue]"], unfollowed := true, recurses := true, apart := false, narrowed := true }
def QueueBackUptoSaid : Prop := queueBackUptoRow.holds Try.pinned (OpenSpec.upto queueBackSpec)

/-- 'furlonglaw05.QueueTrees', WHERE WHAT IT READS IS OF BULK AT MOST 1048576: true; the input reads as it did. -/
def queueTreesUptoRow : OpenClaim := { program := "ytcfaciicljjpoaa", sum := "f1ba17fdd6340d01c75892ac5ef8a594203d2c8cbf8ab50c1c33e166196dbfde", func := "furlong/furlonglaw05.QueueTrees", spec := "queueTrees", inPlace := ["slices.overlaps[furlong/api.Queue]"], unfollowed := true, recurses := true, apart := false, narrowed := true }
def QueueTreesUptoSaid : Prop := queueTreesUptoRow.holds Try.pinned (OpenSpec.upto queueTreesSpec)

/-- 'furlonglaw05.QueueTotals', WHERE WHAT IT READS IS OF BULK AT MOST 1048576: true; the input reads as it did. -/
def queueTotalsUptoRow : OpenClaim := { program := "ytcfaciicljjpoaa", sum := "f1ba17fdd6340d01c75892ac5ef8a594203d2c8cbf8ab50c1c33e166196dbfde", func := "furlong/furlonglaw05.QueueTotals", spec := "queueTotals", inPlace := ["slices.overlaps[furlong/api.Queue]"], unfollowed := true, recurses := true, apart := false, narrowed := true }
def QueueTotalsUptoSaid : Prop := queueTotalsUptoRow.holds Try.pinned (OpenSpec.upto queueTotalsSpec)

/-- 'furlonglaw05.QueueRooms', WHERE WHAT IT READS IS OF BULK AT MOST 1048576: true; the input reads as it did. -/
def queueRoomsUptoRow : OpenClaim := { program := "ytcfaciicljjpoaa", sum := "f1ba17fdd6340d01c75892ac5ef8a594203d2c8cbf8ab50c1c33e166196dbfde", func := "furlong/furlonglaw05.QueueRooms", spec := "queueRooms", inPlace := ["slices.overlaps[furlong/api.Queue]"], unfollowed := true, recurses := true, apart := false, narrowed := true }
def QueueRoomsUptoSaid : Prop := queueRoomsUptoRow.holds Try.pinned (OpenSpec.upto queueRoomsSpec)

/-- 'furlonglaw05.QueueApart', WHERE WHAT IT READS IS OF BULK AT MOST 1048576: true; the input reads as it did. -/
def queueApartUptoRow : OpenClaim := { program := "ytcfaciicljjpoaa", sum := "f1ba17fdd6340d01c75892ac5ef8a594203d2c8cbf8ab50c1c33e166196dbfde", func := "furlong/furlonglaw05.QueueApart", spec := "queueApart", inPlace := ["slices.overlaps[furlong/api.Queue]"], unfollowed := true, recurses := true, apart := false, narrowed := true }
def QueueApartUptoSaid : Prop := queueApartUptoRow.holds Try.pinned (OpenSpec.upto queueApartSpec)

end Rows
end Go.Proofs.Ytcfaciicljjpoaa
