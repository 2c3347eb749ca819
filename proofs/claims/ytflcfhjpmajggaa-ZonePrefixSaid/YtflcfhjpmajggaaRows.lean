/-
  No cell of these rows narrows 'for every input' (looked for: loops, veiled, ifaces, maps, wideKeys, modest, calm, conditions, laid).
  DERIVED. THE GIVEN ROWS OF THIS SEAT. 4 by the template 'for every input the law returns true; each argument reads behind the call as it read before'; 0 by the template 'total and deterministic' (their statements: YtflcfhjpmajggaaTotals.lean).
  GIVEN WITH THE SEED: the statements are not yours to turn. If you find one false, say at which input.
  Laid BY PROGRAM, IN A SANDBOX (cutbox-rows.mjs): the forced cells as the released guide's own fill.sh prints them over the translation ae826183842a18c9… (all of the seat's roots in one cut). By AI agents, Wed Nov 11 2026. No macro, syntax, notation, axiom, sorry.
-/
import Derived.Test.YtflcfhjpmajggaaChecked
import GoSem.Claim
import GoSem.ClaimJoined
import GoSem.ClaimMapViews
import Derived.JoinedTies
import Derived.KernelRfl
namespace Go.Proofs.Ytflcfhjpmajggaa
/- THE CELL 'sum', in the pinned program and in every row, IS THE sha256 OF THE DUMP (.gsa) THAT YtflcfhjpmajggaaProg.lean LOADS. Nothing in Lean hashes anything: it is a label: what it is worth is what the hold of that sum in a sandbox is worth. -/
noncomputable def Try.pinned : Pinned := { name := "ytflcfhjpmajggaa", sum := "ae826183842a18c9eff4b81b9be3ef50f4b0585db370f3d7b927286b6fa62545", checked := Try.checked }
namespace Rows
def none {H : Type} : Left H := { results := [], args := [] }

/-- 'revetmentlaw06.ZonePlays': WHATEVER THE INPUT: true; the input reads as it did. -/
def zonePlaysSpec : ChangeSpec := { name := "zonePlays", fn := fun _ => fun
  | [d1, d2, d3] => { results := [.lit (.bool true)], args := [d1, d2, d3] }
  | _ => none }
def zonePlaysRow : OpenClaim := { program := "ytflcfhjpmajggaa", sum := "ae826183842a18c9eff4b81b9be3ef50f4b0585db370f3d7b927286b6fa62545", func := "revetment/revetmentlaw06.ZonePlays", spec := "zonePlays", unfollowed := true, recurses := true, apart := false }
def ZonePlaysSaid : Prop := zonePlaysRow.holds Try.pinned (OpenSpec.ofChange zonePlaysSpec)

/-- ITS FALSE NEIGHBOUR: 'it returns false'. Refute it at one input. -/
def zonePlaysWrong : ChangeSpec := { name := "zonePlays", fn := fun _ => fun
  | [d1, d2, d3] => { results := [.lit (.bool false)], args := [d1, d2, d3] }
  | _ => none }
def ZonePlaysWrongFalsely : Prop := zonePlaysRow.holds Try.pinned (OpenSpec.ofChange zonePlaysWrong)

/-- 'revetmentlaw06.ZonePrefix': WHATEVER THE INPUT: true; the input reads as it did. -/
def zonePrefixSpec : ChangeSpec := { name := "zonePrefix", fn := fun _ => fun
  | [d1, d2] => { results := [.lit (.bool true)], args := [d1, d2] }
  | _ => none }
def zonePrefixRow : OpenClaim := { program := "ytflcfhjpmajggaa", sum := "ae826183842a18c9eff4b81b9be3ef50f4b0585db370f3d7b927286b6fa62545", func := "revetment/revetmentlaw06.ZonePrefix", spec := "zonePrefix", unfollowed := true, recurses := true, apart := false }
def ZonePrefixSaid : Prop := zonePrefixRow.holds Try.pinned (OpenSpec.ofChange zonePrefixSpec)

/-- ITS FALSE NEIGHBOUR: 'it returns false'. Refute it at one input. -/
def zonePrefixWrong : ChangeSpec := { name := "zonePrefix", fn := fun _ => fun
  | [d1, d2] => { results := [.lit (.bool false)], args := [d1, d2] }
  | _ => none }
def ZonePrefixWrongFalsely : Prop := zonePrefixRow.holds Try.pinned (OpenSpec.ofChange zonePrefixWrong)

/-- 'revetmentlaw06.ZoneFailed': WHATEVER THE INPUT: true; the input reads as it did. -/
def zoneFailedSpec : ChangeSpec := { name := "zoneFailed", fn := fun _ => fun
  | [d1, d2, d3, d4] => { results := [.lit (.bool true)], args := [d1, d2, d3, d4] }
  | _ => none }
def zoneFailedRow : OpenClaim := { program := "ytflcfhjpmajggaa", sum := "ae826183842a18c9eff4b81b9be3ef50f4b0585db370f3d7b927286b6fa62545", func := "revetment/revetmentlaw06.ZoneFailed", spec := "zoneFailed", unfollowed := true, recurses := true, apart := false }
def ZoneFailedSaid : Prop := zoneFailedRow.holds Try.pinned (OpenSpec.ofChange zoneFailedSpec)

/-- ITS FALSE NEIGHBOUR: 'it returns false'. Refute it at one input. -/
def zoneFailedWrong : ChangeSpec := { name := "zoneFailed", fn := fun _ => fun
  | [d1, d2, d3, d4] => { results := [.lit (.bool false)], args := [d1, d2, d3, d4] }
  | _ => none }
def ZoneFailedWrongFalsely : Prop := zoneFailedRow.holds Try.pinned (OpenSpec.ofChange zoneFailedWrong)

/-- 'revetmentlaw06.ZoneFills': WHATEVER THE INPUT: true; the input reads as it did. -/
def zoneFillsSpec : ChangeSpec := { name := "zoneFills", fn := fun _ => fun
  | [d1, d2] => { results := [.lit (.bool true)], args := [d1, d2] }
  | _ => none }
def zoneFillsRow : OpenClaim := { program := "ytflcfhjpmajggaa", sum := "ae826183842a18c9eff4b81b9be3ef50f4b0585db370f3d7b927286b6fa62545", func := "revetment/revetmentlaw06.ZoneFills", spec := "zoneFills", apart := false }
def ZoneFillsSaid : Prop := zoneFillsRow.holds Try.pinned (OpenSpec.ofChange zoneFillsSpec)

/-- ITS FALSE NEIGHBOUR: 'it returns false'. Refute it at one input. -/
def zoneFillsWrong : ChangeSpec := { name := "zoneFills", fn := fun _ => fun
  | [d1, d2] => { results := [.lit (.bool false)], args := [d1, d2] }
  | _ => none }
def ZoneFillsWrongFalsely : Prop := zoneFillsRow.holds Try.pinned (OpenSpec.ofChange zoneFillsWrong)

/- THE SECOND FORM. 'bulk': how many values and letters a reading holds, each counted each time it is reached (what is shared counts as often as it is met; a slice's spare places count too). A statement '..UptoSaid' is the law's where the arguments, and the package variables that the reading takes, are together of bulk at most 1048576: NARROWER than '..Said'. Prove '..Said' where nothing that the law and all that it calls make is longer than what came in: it says more and counts as full. Else prove '..UptoSaid'. A law counts once. -/
mutual
def uptoBulk {H : Type} : DataW H → Nat
  | .lit (.string bytes) => bytes.length + 1
  | .lit _ => 1
  | .nil => 1
  | .ptr d => uptoBulk d + 1
  | .slice elems spare => uptoBulkAll elems + uptoBulkAll spare + 1
  | .agg parts => uptoBulkAll parts + 1
  | .iface _ d => uptoBulk d + 1
  | .map entries => uptoBulkEntries entries + 1
  | .held _ => 1
def uptoBulkAll {H : Type} : List (DataW H) → Nat
  | [] => 0
  | d :: r => uptoBulk d + uptoBulkAll r
def uptoBulkEntries {H : Type} : List (Lit × DataW H) → Nat
  | [] => 0
  | x :: r => uptoBulkEntry x + uptoBulkEntries r
def uptoBulkEntry {H : Type} : Lit × DataW H → Nat
  | (.string bytes, d) => bytes.length + uptoBulk d + 1
  | (_, d) => uptoBulk d + 1
 end
def uptoSmall : (H : Type) → List (DataW H) → Bool := fun _ ds => decide (uptoBulkAll ds ≤ 1048576)
def OpenSpec.upto (s : _root_.Go.ChangeSpec) : _root_.Go.OpenSpec := { _root_.Go.OpenSpec.ofChange s with cond := some uptoSmall }

/-- 'revetmentlaw06.ZonePlays', WHERE WHAT IT READS IS OF BULK AT MOST 1048576: true; the input reads as it did. -/
def zonePlaysUptoRow : OpenClaim := { program := "ytflcfhjpmajggaa", sum := "ae826183842a18c9eff4b81b9be3ef50f4b0585db370f3d7b927286b6fa62545", func := "revetment/revetmentlaw06.ZonePlays", spec := "zonePlays", unfollowed := true, recurses := true, apart := false, narrowed := true }
def ZonePlaysUptoSaid : Prop := zonePlaysUptoRow.holds Try.pinned (OpenSpec.upto zonePlaysSpec)

/-- 'revetmentlaw06.ZonePrefix', WHERE WHAT IT READS IS OF BULK AT MOST 1048576: true; the input reads as it did. -/
def zonePrefixUptoRow : OpenClaim := { program := "ytflcfhjpmajggaa", sum := "ae826183842a18c9eff4b81b9be3ef50f4b0585db370f3d7b927286b6fa62545", func := "revetment/revetmentlaw06.ZonePrefix", spec := "zonePrefix", unfollowed := true, recurses := true, apart := false, narrowed := true }
def ZonePrefixUptoSaid : Prop := zonePrefixUptoRow.holds Try.pinned (OpenSpec.upto zonePrefixSpec)

/-- 'revetmentlaw06.ZoneFailed', WHERE WHAT IT READS IS OF BULK AT MOST 1048576: true; the input reads as it did. -/
def zoneFailedUptoRow : OpenClaim := { program := "ytflcfhjpmajggaa", sum := "ae826183842a18c9eff4b81b9be3ef50f4b0585db370f3d7b927286b6fa62545", func := "revetment/revetmentlaw06.ZoneFailed", spec := "zoneFailed", unfollowed := true, recurses := true, apart := false, narrowed := true }
def ZoneFailedUptoSaid : Prop := zoneFailedUptoRow.holds Try.pinned (OpenSpec.upto zoneFailedSpec)

/-- 'revetmentlaw06.ZoneFills', WHERE WHAT IT READS IS OF BULK AT MOST 1048576: true; the input reads as it did. -/
def zoneFillsUptoRow : OpenClaim := { program := "ytflcfhjpmajggaa", sum := "ae826183842a18c9eff4b81b9be3ef50f4b0585db370f3d7b927286b6fa62545", func := "revetment/revetmentlaw06.ZoneFills", spec := "zoneFills", apart := false, narrowed := true }
def ZoneFillsUptoSaid : Prop := zoneFillsUptoRow.holds Try.pinned (OpenSpec.upto zoneFillsSpec)

end Rows
end Go.Proofs.Ytflcfhjpmajggaa
