/-
  No cell of these rows narrows 'for every input' (looked for: loops, veiled, ifaces, maps, wideKeys, modest, calm, conditions, laid).
  DERIVED. THE GIVEN ROWS OF THIS SEAT. 4 by the template 'for every input the law returns true; each argument reads behind the call as it read before'; 0 by the template 'total and deterministic' (their statements: YtmajoognpggcpabTotals.lean).
  GIVEN WITH THE SEED: the statements are not yours to turn. If you find one false, say at which input.
  Laid BY PROGRAM, IN A SANDBOX (cutbox-rows.mjs): the forced cells as the released guide's own fill.sh prints them over the translation 03d10799e1ea9bbf… (all of the seat's roots in one cut). By AI agents, Wed Nov 11 2026. No macro, syntax, notation, axiom, sorry.
-/
import Derived.Test.YtmajoognpggcpabChecked
import GoSem.Claim
import GoSem.ClaimJoined
import GoSem.ClaimMapViews
import Derived.JoinedTies
import Derived.KernelRfl
namespace Go.Proofs.Ytmajoognpggcpab
/- THE CELL 'sum', in the pinned program and in every row, IS THE sha256 OF THE DUMP (.gsa) THAT YtmajoognpggcpabProg.lean LOADS. Nothing in Lean hashes anything: it is a label: what it is worth is what the hold of that sum in a sandbox is worth. -/
noncomputable def Try.pinned : Pinned := { name := "ytmajoognpggcpab", sum := "03d10799e1ea9bbf36f7b748d4a877ac157701d68ed931d917a75eeaa5308e2a", checked := Try.checked }
namespace Rows
def none {H : Type} : Left H := { results := [], args := [] }

/-- 'furlonglaw02.VecBack': WHATEVER THE INPUT: true; the input reads as it did. -/
def vecBackSpec : ChangeSpec := { name := "vecBack", fn := fun _ => fun
  | [d1, d2] => { results := [.lit (.bool true)], args := [d1, d2] }
  | _ => none }
def vecBackRow : OpenClaim := { program := "ytmajoognpggcpab", sum := "03d10799e1ea9bbf36f7b748d4a877ac157701d68ed931d917a75eeaa5308e2a", func := "furlong/furlonglaw02.VecBack", spec := "vecBack", unfollowed := true, recurses := true, apart := false }
def VecBackSaid : Prop := vecBackRow.holds Try.pinned (OpenSpec.ofChange vecBackSpec)

/-- ITS FALSE NEIGHBOUR: 'it returns false'. Refute it at one input. -/
def vecBackWrong : ChangeSpec := { name := "vecBack", fn := fun _ => fun
  | [d1, d2] => { results := [.lit (.bool false)], args := [d1, d2] }
  | _ => none }
def VecBackWrongFalsely : Prop := vecBackRow.holds Try.pinned (OpenSpec.ofChange vecBackWrong)

/-- 'furlonglaw02.VecMost': WHATEVER THE INPUT: true; the input reads as it did. -/
def vecMostSpec : ChangeSpec := { name := "vecMost", fn := fun _ => fun
  | [d1, d2] => { results := [.lit (.bool true)], args := [d1, d2] }
  | _ => none }
def vecMostRow : OpenClaim := { program := "ytmajoognpggcpab", sum := "03d10799e1ea9bbf36f7b748d4a877ac157701d68ed931d917a75eeaa5308e2a", func := "furlong/furlonglaw02.VecMost", spec := "vecMost", unfollowed := true, recurses := true, apart := false }
def VecMostSaid : Prop := vecMostRow.holds Try.pinned (OpenSpec.ofChange vecMostSpec)

/-- ITS FALSE NEIGHBOUR: 'it returns false'. Refute it at one input. -/
def vecMostWrong : ChangeSpec := { name := "vecMost", fn := fun _ => fun
  | [d1, d2] => { results := [.lit (.bool false)], args := [d1, d2] }
  | _ => none }
def VecMostWrongFalsely : Prop := vecMostRow.holds Try.pinned (OpenSpec.ofChange vecMostWrong)

/-- 'furlonglaw02.VecTurns': WHATEVER THE INPUT: true; the input reads as it did. -/
def vecTurnsSpec : ChangeSpec := { name := "vecTurns", fn := fun _ => fun
  | [d1, d2, d3, d4, d5] => { results := [.lit (.bool true)], args := [d1, d2, d3, d4, d5] }
  | _ => none }
def vecTurnsRow : OpenClaim := { program := "ytmajoognpggcpab", sum := "03d10799e1ea9bbf36f7b748d4a877ac157701d68ed931d917a75eeaa5308e2a", func := "furlong/furlonglaw02.VecTurns", spec := "vecTurns", unfollowed := true, recurses := true, apart := false }
def VecTurnsSaid : Prop := vecTurnsRow.holds Try.pinned (OpenSpec.ofChange vecTurnsSpec)

/-- ITS FALSE NEIGHBOUR: 'it returns false'. Refute it at one input. -/
def vecTurnsWrong : ChangeSpec := { name := "vecTurns", fn := fun _ => fun
  | [d1, d2, d3, d4, d5] => { results := [.lit (.bool false)], args := [d1, d2, d3, d4, d5] }
  | _ => none }
def VecTurnsWrongFalsely : Prop := vecTurnsRow.holds Try.pinned (OpenSpec.ofChange vecTurnsWrong)

/-- 'furlonglaw02.VecAlike': WHATEVER THE INPUT: true; the input reads as it did. -/
def vecAlikeSpec : ChangeSpec := { name := "vecAlike", fn := fun _ => fun
  | [d1, d2, d3] => { results := [.lit (.bool true)], args := [d1, d2, d3] }
  | _ => none }
def vecAlikeRow : OpenClaim := { program := "ytmajoognpggcpab", sum := "03d10799e1ea9bbf36f7b748d4a877ac157701d68ed931d917a75eeaa5308e2a", func := "furlong/furlonglaw02.VecAlike", spec := "vecAlike", unfollowed := true, recurses := true, apart := false }
def VecAlikeSaid : Prop := vecAlikeRow.holds Try.pinned (OpenSpec.ofChange vecAlikeSpec)

/-- ITS FALSE NEIGHBOUR: 'it returns false'. Refute it at one input. -/
def vecAlikeWrong : ChangeSpec := { name := "vecAlike", fn := fun _ => fun
  | [d1, d2, d3] => { results := [.lit (.bool false)], args := [d1, d2, d3] }
  | _ => none }
def VecAlikeWrongFalsely : Prop := vecAlikeRow.holds Try.pinned (OpenSpec.ofChange vecAlikeWrong)

/- THE SECOND FORM. 'bulk': how many values and letters a reading holds, each counted each time it is reached (what is shared counts as often as it is met; a slice's spare places count too). A statement '..UptoSaid' is the law's where the arguments, and the package variables that the reading takes, are together of bulk at most 1048576: NARROWER than '..Said'. Prove '..Said' where nothing that the law and all that it calls make is longer than what came in: it says more and counts as full. Else prove '..UptoSaid'. A law counts once. -/
mutual
def uptoBulk {H : Type} : DataW H → Nat
  | .lit (.string bytes) => bytes.length + 1
  | .lit _ => 1
  | .nil => 1
  | .ptr d => uptoBulk d + 1
  | .slice elems spare => uptoBulkAll elems + uptoBulkAll spare + 1
  | .agg parts => uptoBulkAll parts + 1
  | .iface _ d => uptoBulk d + 1
  | .map entries => uptoBulkEntries entries + 1
  | .held _ => 1
def uptoBulkAll {H : Type} : List (DataW H) → Nat
  | [] => 0
  | d :: r => uptoBulk d + uptoBulkAll r
def uptoBulkEntries {H : Type} : List (Lit × DataW H) → Nat
  | [] => 0
  | x :: r => uptoBulkEntry x + uptoBulkEntries r
def uptoBulkEntry {H : Type} : Lit × DataW H → Nat
  | (.string bytes, d) => bytes.length + uptoBulk d + 1
  | (_, d) => uptoBulk d + 1
 end
def uptoSmall : (H : Type) → List (DataW H) → Bool := fun _ ds => decide (uptoBulkAll ds ≤ 1048576)
def OpenSpec.upto (s : _root_.Go.ChangeSpec) : _root_.Go.OpenSpec := { _root_.Go.OpenSpec.ofChange s with cond := some uptoSmall }

/-- 'furlonglaw02.VecBack', WHERE WHAT IT READS IS OF BULK AT MOST 1048576: true; the input reads as it did. -/
def vecBackUptoRow : OpenClaim := { program := "ytmajoognpggcpab", sum := "03d10799e1ea9bbf36f7b748d4a877ac157701d68ed931d917a75eeaa5308e2a", func := "furlong/furlonglaw02.VecBack", spec := "vecBack", unfollowed := true, recurses := true, apart := false, narrowed := true }
def VecBackUptoSaid : Prop := vecBackUptoRow.holds Try.pinned (OpenSpec.upto vecBackSpec)

/-- 'furlonglaw02.VecMost', WHERE WHAT IT READS IS OF BULK AT MOST 1048576: true; the input reads as it did. -/
def vecMostUptoRow : OpenClaim := { program := "ytmajoognpggcpab", sum := "03d10799e1ea9bbf36f7b748d4a877ac157701d68ed931d917a75eeaa5308e2a", func := "furlong/furlonglaw02.VecMost", spec := "vecMost", unfollowed := true, recurses := true, apart := false, narrowed := true }
def VecMostUptoSaid : Prop := vecMostUptoRow.holds Try.pinned (OpenSpec.upto vecMostSpec)

/-- 'furlonglaw02.VecTurns', WHERE WHAT IT READS IS OF BULK AT MOST 1048576: true; the input reads as it did. -/
def vecTurnsUptoRow : OpenClaim := { program := "ytmajoognpggcpab", sum := "03d10799e1ea9bbf36f7b748d4a877ac157701d68ed931d917a75eeaa5308e2a", func := "furlong/furlonglaw02.VecTurns", spec := "vecTurns", unfollowed := true, recurses := true, apart := false, narrowed := true }
def VecTurnsUptoSaid : Prop := vecTurnsUptoRow.holds Try.pinned (OpenSpec.upto vecTurnsSpec)

/-- 'furlonglaw02.VecAlike', WHERE WHAT IT READS IS OF BULK AT MOST 1048576: true; the input reads as it did. -/
def vecAlikeUptoRow : OpenClaim := { program := "ytmajoognpggcpab", sum := "03d10799e1ea9bbf36f7b748d4a877ac157701d68ed931d917a75eeaa5308e2a", func := "furlong/furlonglaw02.VecAlike", spec := "vecAlike", unfollowed := true, recurses := true, apart := false, narrowed := true }
def VecAlikeUptoSaid : Prop := vecAlikeUptoRow.holds Try.pinned (OpenSpec.upto vecAlikeSpec)

end Rows
end Go.Proofs.Ytmajoognpggcpab
