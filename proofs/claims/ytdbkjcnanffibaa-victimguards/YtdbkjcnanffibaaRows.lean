/-
  No cell of these rows narrows 'for every input' (looked for: loops, veiled, ifaces, maps, wideKeys, modest, calm, conditions, laid).
  DERIVED. THE GIVEN ROWS OF THIS SEAT. 4 by the template 'for every input the law returns true; each argument reads behind the call as it read before'; 0 by the template 'total and deterministic' (their statements: YtdbkjcnanffibaaTotals.lean).
  GIVEN WITH THE SEED: the statements are not yours to turn. If you find one false, say at which input.
  Laid BY PROGRAM, IN A SANDBOX (cutbox-rows.mjs): the forced cells as the released guide's own fill.sh prints them over the translation c48c0a6d15a9be73… (all of the seat's roots in one cut). By AI agents, Wed Nov 11 2026. No macro, syntax, notation, axiom, sorry.
-/
import Derived.Test.YtdbkjcnanffibaaChecked
import GoSem.Claim
import GoSem.ClaimJoined
import GoSem.ClaimMapViews
import Derived.JoinedTies
import Derived.KernelRfl
namespace Go.Proofs.Ytdbkjcnanffibaa
/- THE CELL 'sum', in the pinned program and in every row, IS THE sha256 OF THE DUMP (.gsa) THAT YtdbkjcnanffibaaProg.lean LOADS. Nothing in Lean hashes anything: it is a label: what it is worth is what the hold of that sum in a sandbox is worth. -/
noncomputable def Try.pinned : Pinned := { name := "ytdbkjcnanffibaa", sum := "c48c0a6d15a9be734960872c8d12cc91b40716b8cd3d27f6a7dba25e64dcbdef", checked := Try.checked }
namespace Rows
def none {H : Type} : Left H := { results := [], args := [] }

/-- 'furlonglaw08.VictimUses': WHATEVER THE INPUT: true; the input reads as it did. -/
def victimUsesSpec : ChangeSpec := { name := "victimUses", fn := fun _ => fun
  | [d] => { results := [.lit (.bool true)], args := [d] }
  | _ => none }
def victimUsesRow : OpenClaim := { program := "ytdbkjcnanffibaa", sum := "c48c0a6d15a9be734960872c8d12cc91b40716b8cd3d27f6a7dba25e64dcbdef", func := "furlong/furlonglaw08.VictimUses", spec := "victimUses", unfollowed := true, recurses := true, apart := false }
def VictimUsesSaid : Prop := victimUsesRow.holds Try.pinned (OpenSpec.ofChange victimUsesSpec)

/-- ITS FALSE NEIGHBOUR: 'it returns false'. Refute it at one input. -/
def victimUsesWrong : ChangeSpec := { name := "victimUses", fn := fun _ => fun
  | [d] => { results := [.lit (.bool false)], args := [d] }
  | _ => none }
def VictimUsesWrongFalsely : Prop := victimUsesRow.holds Try.pinned (OpenSpec.ofChange victimUsesWrong)

/-- 'furlonglaw08.VictimSpares': WHATEVER THE INPUT: true; the input reads as it did. -/
def victimSparesSpec : ChangeSpec := { name := "victimSpares", fn := fun _ => fun
  | [d1, d2, d3] => { results := [.lit (.bool true)], args := [d1, d2, d3] }
  | _ => none }
def victimSparesRow : OpenClaim := { program := "ytdbkjcnanffibaa", sum := "c48c0a6d15a9be734960872c8d12cc91b40716b8cd3d27f6a7dba25e64dcbdef", func := "furlong/furlonglaw08.VictimSpares", spec := "victimSpares", unfollowed := true, recurses := true, apart := false }
def VictimSparesSaid : Prop := victimSparesRow.holds Try.pinned (OpenSpec.ofChange victimSparesSpec)

/-- ITS FALSE NEIGHBOUR: 'it returns false'. Refute it at one input. -/
def victimSparesWrong : ChangeSpec := { name := "victimSpares", fn := fun _ => fun
  | [d1, d2, d3] => { results := [.lit (.bool false)], args := [d1, d2, d3] }
  | _ => none }
def VictimSparesWrongFalsely : Prop := victimSparesRow.holds Try.pinned (OpenSpec.ofChange victimSparesWrong)

/-- 'furlonglaw08.VictimGuards': WHATEVER THE INPUT: true; the input reads as it did. -/
def victimGuardsSpec : ChangeSpec := { name := "victimGuards", fn := fun _ => fun
  | [d1, d2, d3] => { results := [.lit (.bool true)], args := [d1, d2, d3] }
  | _ => none }
def victimGuardsRow : OpenClaim := { program := "ytdbkjcnanffibaa", sum := "c48c0a6d15a9be734960872c8d12cc91b40716b8cd3d27f6a7dba25e64dcbdef", func := "furlong/furlonglaw08.VictimGuards", spec := "victimGuards", unfollowed := true, recurses := true, apart := false }
def VictimGuardsSaid : Prop := victimGuardsRow.holds Try.pinned (OpenSpec.ofChange victimGuardsSpec)

/-- ITS FALSE NEIGHBOUR: 'it returns false'. Refute it at one input. -/
def victimGuardsWrong : ChangeSpec := { name := "victimGuards", fn := fun _ => fun
  | [d1, d2, d3] => { results := [.lit (.bool false)], args := [d1, d2, d3] }
  | _ => none }
def VictimGuardsWrongFalsely : Prop := victimGuardsRow.holds Try.pinned (OpenSpec.ofChange victimGuardsWrong)

/-- 'furlonglaw08.VictimStops': WHATEVER THE INPUT: true; the input reads as it did. -/
def victimStopsSpec : ChangeSpec := { name := "victimStops", fn := fun _ => fun
  | [d1, d2, d3] => { results := [.lit (.bool true)], args := [d1, d2, d3] }
  | _ => none }
def victimStopsRow : OpenClaim := { program := "ytdbkjcnanffibaa", sum := "c48c0a6d15a9be734960872c8d12cc91b40716b8cd3d27f6a7dba25e64dcbdef", func := "furlong/furlonglaw08.VictimStops", spec := "victimStops", unfollowed := true, recurses := true, apart := false }
def VictimStopsSaid : Prop := victimStopsRow.holds Try.pinned (OpenSpec.ofChange victimStopsSpec)

/-- ITS FALSE NEIGHBOUR: 'it returns false'. Refute it at one input. -/
def victimStopsWrong : ChangeSpec := { name := "victimStops", fn := fun _ => fun
  | [d1, d2, d3] => { results := [.lit (.bool false)], args := [d1, d2, d3] }
  | _ => none }
def VictimStopsWrongFalsely : Prop := victimStopsRow.holds Try.pinned (OpenSpec.ofChange victimStopsWrong)

/- THE SECOND FORM. 'bulk': how many values and letters a reading holds, each counted each time it is reached (what is shared counts as often as it is met; a slice's spare places count too). A statement '..UptoSaid' is the law's where the arguments, and the package variables that the reading takes, are together of bulk at most 1048576: NARROWER than '..Said'. Prove '..Said' where nothing that the law and all that it calls make is longer than what came in: it says more and counts as full. Else prove '..UptoSaid'. A law counts once. -/
mutual
def uptoBulk {H : Type} : DataW H → Nat
  | .lit (.string bytes) => bytes.length + 1
  | .lit _ => 1
  | .nil => 1
  | .ptr d => uptoBulk d + 1
  | .slice elems spare => uptoBulkAll elems + uptoBulkAll spare + 1
  | .agg parts => uptoBulkAll parts + 1
  | .iface _ d => uptoBulk d + 1
  | .map entries => uptoBulkEntries entries + 1
  | .held _ => 1
def uptoBulkAll {H : Type} : List (DataW H) → Nat
  | [] => 0
  | d :: r => uptoBulk d + uptoBulkAll r
def uptoBulkEntries {H : Type} : List (Lit × DataW H) → Nat
  | [] => 0
  | x :: r => uptoBulkEntry x + uptoBulkEntries r
def uptoBulkEntry {H : Type} : Lit × DataW H → Nat
  | (.string bytes, d) => bytes.length + uptoBulk d + 1
  | (_, d) => uptoBulk d + 1
 end
def uptoSmall : (H : Type) → List (DataW H) → Bool := fun _ ds => decide (uptoBulkAll ds ≤ 1048576)
def OpenSpec.upto (s : _root_.Go.ChangeSpec) : _root_.Go.OpenSpec := { _root_.Go.OpenSpec.ofChange s with cond := some uptoSmall }

/-- 'furlonglaw08.VictimUses', WHERE WHAT IT READS IS OF BULK AT MOST 1048576: true; the input reads as it did. -/
def victimUsesUptoRow : OpenClaim := { program := "ytdbkjcnanffibaa", sum := "c48c0a6d15a9be734960872c8d12cc91b40716b8cd3d27f6a7dba25e64dcbdef", func := "furlong/furlonglaw08.VictimUses", spec := "victimUses", unfollowed := true, recurses := true, apart := false, narrowed := true }
def VictimUsesUptoSaid : Prop := victimUsesUptoRow.holds Try.pinned (OpenSpec.upto victimUsesSpec)

/-- 'furlonglaw08.VictimSpares', WHERE WHAT IT READS IS OF BULK AT MOST 1048576: true; the input reads as it did. -/
def victimSparesUptoRow : OpenClaim := { program := "ytdbkjcnanffibaa", sum := "c48c0a6d15a9be734960872c8d12cc91b40716b8cd3d27f6a7dba25e64dcbdef", func := "furlong/furlonglaw08.VictimSpares", spec := "victimSpares", unfollowed := true, recurses := true, apart := false, narrowed := true }
def VictimSparesUptoSaid : Prop := victimSparesUptoRow.holds Try.pinned (OpenSpec.upto victimSparesSpec)

/-- 'furlonglaw08.VictimGuards', WHERE WHAT IT READS IS OF BULK AT MOST 1048576: true; the input reads as it did. -/
def victimGuardsUptoRow : OpenClaim := { program := "ytdbkjcnanffibaa", sum := "c48c0a6d15a9be734960872c8d12cc91b40716b8cd3d27f6a7dba25e64dcbdef", func := "furlong/furlonglaw08.VictimGuards", spec := "victimGuards", unfollowed := true, recurses := true, apart := false, narrowed := true }
def VictimGuardsUptoSaid : Prop := victimGuardsUptoRow.holds Try.pinned (OpenSpec.upto victimGuardsSpec)

/-- 'furlonglaw08.VictimStops', WHERE WHAT IT READS IS OF BULK AT MOST 1048576: true; the input reads as it did. -/
def victimStopsUptoRow : OpenClaim := { program := "ytdbkjcnanffibaa", sum := "c48c0a6d15a9be734960872c8d12cc91b40716b8cd3d27f6a7dba25e64dcbdef", func := "furlong/furlonglaw08.VictimStops", spec := "victimStops", unfollowed := true, recurses := true, apart := false, narrowed := true }
def VictimStopsUptoSaid : Prop := victimStopsUptoRow.holds Try.pinned (OpenSpec.upto victimStopsSpec)

end Rows
end Go.Proofs.Ytdbkjcnanffibaa
