/-
  No cell of these rows narrows 'for every input' (looked for: loops, veiled, ifaces, maps, wideKeys, modest, calm, conditions, laid).
  DERIVED. THE GIVEN ROWS OF THIS SEAT. 6 by the template 'for every input the law returns true; each argument reads behind the call as it read before'; 0 by the template 'total and deterministic' (their statements: YtdjnfikacjfkkaaTotals.lean).
  GIVEN WITH THE SEED: the statements are not yours to turn. If you find one false, say at which input.
  Laid BY PROGRAM, IN A SANDBOX (cutbox-rows.mjs): the forced cells as the released guide's own fill.sh prints them over the translation 264c81bafd544528… (all of the seat's roots in one cut). By AI agents, Wed Nov 11 2026. No macro, syntax, notation, axiom, sorry.
-/
import Derived.Test.YtdjnfikacjfkkaaChecked
import GoSem.Claim
import GoSem.ClaimJoined
import GoSem.ClaimMapViews
import Derived.JoinedTies
import Derived.KernelRfl
namespace Go.Proofs.Ytdjnfikacjfkkaa
/- THE CELL 'sum', in the pinned program and in every row, IS THE sha256 OF THE DUMP (.gsa) THAT YtdjnfikacjfkkaaProg.lean LOADS. Nothing in Lean hashes anything: it is a label: what it is worth is what the hold of that sum in a sandbox is worth. -/
noncomputable def Try.pinned : Pinned := { name := "ytdjnfikacjfkkaa", sum := "264c81bafd5445287005c3fd83f11e24245ba11040c2ae429b2d4a4e4cf583a1", checked := Try.checked }
namespace Rows
def none {H : Type} : Left H := { results := [], args := [] }

/-- 'revetmentlaw04.EntryBodies': WHATEVER THE INPUT: true; the input reads as it did. -/
def entryBodiesSpec : ChangeSpec := { name := "entryBodies", fn := fun _ => fun
  | [d1, d2, d3] => { results := [.lit (.bool true)], args := [d1, d2, d3] }
  | _ => none }
def entryBodiesRow : OpenClaim := { program := "ytdjnfikacjfkkaa", sum := "264c81bafd5445287005c3fd83f11e24245ba11040c2ae429b2d4a4e4cf583a1", func := "revetment/revetmentlaw04.EntryBodies", spec := "entryBodies", apart := false }
def EntryBodiesSaid : Prop := entryBodiesRow.holds Try.pinned (OpenSpec.ofChange entryBodiesSpec)

/-- ITS FALSE NEIGHBOUR: 'it returns false'. Refute it at one input. -/
def entryBodiesWrong : ChangeSpec := { name := "entryBodies", fn := fun _ => fun
  | [d1, d2, d3] => { results := [.lit (.bool false)], args := [d1, d2, d3] }
  | _ => none }
def EntryBodiesWrongFalsely : Prop := entryBodiesRow.holds Try.pinned (OpenSpec.ofChange entryBodiesWrong)

/-- 'revetmentlaw04.EntryFrames': WHATEVER THE INPUT: true; the input reads as it did. -/
def entryFramesSpec : ChangeSpec := { name := "entryFrames", fn := fun _ => fun
  | [d1, d2, d3, d4, d5] => { results := [.lit (.bool true)], args := [d1, d2, d3, d4, d5] }
  | _ => none }
def entryFramesRow : OpenClaim := { program := "ytdjnfikacjfkkaa", sum := "264c81bafd5445287005c3fd83f11e24245ba11040c2ae429b2d4a4e4cf583a1", func := "revetment/revetmentlaw04.EntryFrames", spec := "entryFrames", apart := false }
def EntryFramesSaid : Prop := entryFramesRow.holds Try.pinned (OpenSpec.ofChange entryFramesSpec)

/-- ITS FALSE NEIGHBOUR: 'it returns false'. Refute it at one input. -/
def entryFramesWrong : ChangeSpec := { name := "entryFrames", fn := fun _ => fun
  | [d1, d2, d3, d4, d5] => { results := [.lit (.bool false)], args := [d1, d2, d3, d4, d5] }
  | _ => none }
def EntryFramesWrongFalsely : Prop := entryFramesRow.holds Try.pinned (OpenSpec.ofChange entryFramesWrong)

/-- 'revetmentlaw04.EntryReads': WHATEVER THE INPUT: true; the input reads as it did. -/
def entryReadsSpec : ChangeSpec := { name := "entryReads", fn := fun _ => fun
  | [d] => { results := [.lit (.bool true)], args := [d] }
  | _ => none }
def entryReadsRow : OpenClaim := { program := "ytdjnfikacjfkkaa", sum := "264c81bafd5445287005c3fd83f11e24245ba11040c2ae429b2d4a4e4cf583a1", func := "revetment/revetmentlaw04.EntryReads", spec := "entryReads", apart := false }
def EntryReadsSaid : Prop := entryReadsRow.holds Try.pinned (OpenSpec.ofChange entryReadsSpec)

/-- ITS FALSE NEIGHBOUR: 'it returns false'. Refute it at one input. -/
def entryReadsWrong : ChangeSpec := { name := "entryReads", fn := fun _ => fun
  | [d] => { results := [.lit (.bool false)], args := [d] }
  | _ => none }
def EntryReadsWrongFalsely : Prop := entryReadsRow.holds Try.pinned (OpenSpec.ofChange entryReadsWrong)

/-- 'revetmentlaw04.EntryUnlike': WHATEVER THE INPUT: true; the input reads as it did. -/
def entryUnlikeSpec : ChangeSpec := { name := "entryUnlike", fn := fun _ => fun
  | [d1, d2] => { results := [.lit (.bool true)], args := [d1, d2] }
  | _ => none }
def entryUnlikeRow : OpenClaim := { program := "ytdjnfikacjfkkaa", sum := "264c81bafd5445287005c3fd83f11e24245ba11040c2ae429b2d4a4e4cf583a1", func := "revetment/revetmentlaw04.EntryUnlike", spec := "entryUnlike", apart := false }
def EntryUnlikeSaid : Prop := entryUnlikeRow.holds Try.pinned (OpenSpec.ofChange entryUnlikeSpec)

/-- ITS FALSE NEIGHBOUR: 'it returns false'. Refute it at one input. -/
def entryUnlikeWrong : ChangeSpec := { name := "entryUnlike", fn := fun _ => fun
  | [d1, d2] => { results := [.lit (.bool false)], args := [d1, d2] }
  | _ => none }
def EntryUnlikeWrongFalsely : Prop := entryUnlikeRow.holds Try.pinned (OpenSpec.ofChange entryUnlikeWrong)

/-- 'revetmentlaw04.EntryGroups': WHATEVER THE INPUT: true; the input reads as it did. -/
def entryGroupsSpec : ChangeSpec := { name := "entryGroups", fn := fun _ => fun
  | [d1, d2] => { results := [.lit (.bool true)], args := [d1, d2] }
  | _ => none }
def entryGroupsRow : OpenClaim := { program := "ytdjnfikacjfkkaa", sum := "264c81bafd5445287005c3fd83f11e24245ba11040c2ae429b2d4a4e4cf583a1", func := "revetment/revetmentlaw04.EntryGroups", spec := "entryGroups", apart := false }
def EntryGroupsSaid : Prop := entryGroupsRow.holds Try.pinned (OpenSpec.ofChange entryGroupsSpec)

/-- ITS FALSE NEIGHBOUR: 'it returns false'. Refute it at one input. -/
def entryGroupsWrong : ChangeSpec := { name := "entryGroups", fn := fun _ => fun
  | [d1, d2] => { results := [.lit (.bool false)], args := [d1, d2] }
  | _ => none }
def EntryGroupsWrongFalsely : Prop := entryGroupsRow.holds Try.pinned (OpenSpec.ofChange entryGroupsWrong)

/-- 'revetmentlaw04.EntryFills': WHATEVER THE INPUT: true; the input reads as it did. -/
def entryFillsSpec : ChangeSpec := { name := "entryFills", fn := fun _ => fun
  | [d1, d2, d3] => { results := [.lit (.bool true)], args := [d1, d2, d3] }
  | _ => none }
def entryFillsRow : OpenClaim := { program := "ytdjnfikacjfkkaa", sum := "264c81bafd5445287005c3fd83f11e24245ba11040c2ae429b2d4a4e4cf583a1", func := "revetment/revetmentlaw04.EntryFills", spec := "entryFills", apart := false }
def EntryFillsSaid : Prop := entryFillsRow.holds Try.pinned (OpenSpec.ofChange entryFillsSpec)

/-- ITS FALSE NEIGHBOUR: 'it returns false'. Refute it at one input. -/
def entryFillsWrong : ChangeSpec := { name := "entryFills", fn := fun _ => fun
  | [d1, d2, d3] => { results := [.lit (.bool false)], args := [d1, d2, d3] }
  | _ => none }
def EntryFillsWrongFalsely : Prop := entryFillsRow.holds Try.pinned (OpenSpec.ofChange entryFillsWrong)

/- THE SECOND FORM. 'bulk': how many values and letters a reading holds, each counted each time it is reached (what is shared counts as often as it is met; a slice's spare places count too). A statement '..UptoSaid' is the law's where the arguments, and the package variables that the reading takes, are together of bulk at most 1048576: NARROWER than '..Said'. Prove '..Said' where nothing that the law and all that it calls make is longer than what came in: it says more and counts as full. Else prove '..UptoSaid'. A law counts once. -/
mutual
def uptoBulk {H : Type} : DataW H → Nat
  | .lit (.string bytes) => bytes.length + 1
  | .lit _ => 1
  | .nil => 1
  | .ptr d => uptoBulk d + 1
  | .slice elems spare => uptoBulkAll elems + uptoBulkAll spare + 1
  | .agg parts => uptoBulkAll parts + 1
  | .iface _ d => uptoBulk d + 1
  | .map entries => uptoBulkEntries entries + 1
  | .held _ => 1
def uptoBulkAll {H : Type} : List (DataW H) → Nat
  | [] => 0
  | d :: r => uptoBulk d + uptoBulkAll r
def uptoBulkEntries {H : Type} : List (Lit × DataW H) → Nat
  | [] => 0
  | x :: r => uptoBulkEntry x + uptoBulkEntries r
def uptoBulkEntry {H : Type} : Lit × DataW H → Nat
  | (.string bytes, d) => bytes.length + uptoBulk d + 1
  | (_, d) => uptoBulk d + 1
 end
def uptoSmall : (H : Type) → List (DataW H) → Bool := fun _ ds => decide (uptoBulkAll ds ≤ 1048576)
def OpenSpec.upto (s : _root_.Go.ChangeSpec) : _root_.Go.OpenSpec := { _root_.Go.OpenSpec.ofChange s with cond := some uptoSmall }

/-- 'revetmentlaw04.EntryBodies', WHERE WHAT IT READS IS OF BULK AT MOST 1048576: true; the input reads as it did. -/
def entryBodiesUptoRow : OpenClaim := { program := "ytdjnfikacjfkkaa", sum := "264c81bafd5445287005c3fd83f11e24245ba11040c2ae429b2d4a4e4cf583a1", func := "revetment/revetmentlaw04.EntryBodies", spec := "entryBodies", apart := false, narrowed := true }
def EntryBodiesUptoSaid : Prop := entryBodiesUptoRow.holds Try.pinned (OpenSpec.upto entryBodiesSpec)

/-- 'revetmentlaw04.EntryFrames', WHERE WHAT IT READS IS OF BULK AT MOST 1048576: true; the input reads as it did. -/
def entryFramesUptoRow : OpenClaim := { program := "ytdjnfikacjfkkaa", sum := "264c81bafd5445287005c3fd83f11e24245ba11040c2ae429b2d4a4e4cf583a1", func := "revetment/revetmentlaw04.EntryFrames", spec := "entryFrames", apart := false, narrowed := true }
def EntryFramesUptoSaid : Prop := entryFramesUptoRow.holds Try.pinned (OpenSpec.upto entryFramesSpec)

/-- 'revetmentlaw04.EntryReads', WHERE WHAT IT READS IS OF BULK AT MOST 1048576: true; the input reads as it did. -/
def entryReadsUptoRow : OpenClaim := { program := "ytdjnfikacjfkkaa", sum := "264c81bafd5445287005c3fd83f11e24245ba11040c2ae429b2d4a4e4cf583a1", func := "revetment/revetmentlaw04.EntryReads", spec := "entryReads", apart := false, narrowed := true }
def EntryReadsUptoSaid : Prop := entryReadsUptoRow.holds Try.pinned (OpenSpec.upto entryReadsSpec)

/-- 'revetmentlaw04.EntryUnlike', WHERE WHAT IT READS IS OF BULK AT MOST 1048576: true; the input reads as it did. -/
def entryUnlikeUptoRow : OpenClaim := { program := "ytdjnfikacjfkkaa", sum := "264c81bafd5445287005c3fd83f11e24245ba11040c2ae429b2d4a4e4cf583a1", func := "revetment/revetmentlaw04.EntryUnlike", spec := "entryUnlike", apart := false, narrowed := true }
def EntryUnlikeUptoSaid : Prop := entryUnlikeUptoRow.holds Try.pinned (OpenSpec.upto entryUnlikeSpec)

/-- 'revetmentlaw04.EntryGroups', WHERE WHAT IT READS IS OF BULK AT MOST 1048576: true; the input reads as it did. -/
def entryGroupsUptoRow : OpenClaim := { program := "ytdjnfikacjfkkaa", sum := "264c81bafd5445287005c3fd83f11e24245ba11040c2ae429b2d4a4e4cf583a1", func := "revetment/revetmentlaw04.EntryGroups", spec := "entryGroups", apart := false, narrowed := true }
def EntryGroupsUptoSaid : Prop := entryGroupsUptoRow.holds Try.pinned (OpenSpec.upto entryGroupsSpec)

/-- 'revetmentlaw04.EntryFills', WHERE WHAT IT READS IS OF BULK AT MOST 1048576: true; the input reads as it did. -/
def entryFillsUptoRow : OpenClaim := { program := "ytdjnfikacjfkkaa", sum := "264c81bafd5445287005c3fd83f11e24245ba11040c2ae429b2d4a4e4cf583a1", func := "revetment/revetmentlaw04.EntryFills", spec := "entryFills", apart := false, narrowed := true }
def EntryFillsUptoSaid : Prop := entryFillsUptoRow.holds Try.pinned (OpenSpec.upto entryFillsSpec)

end Rows
end Go.Proofs.Ytdjnfikacjfkkaa
