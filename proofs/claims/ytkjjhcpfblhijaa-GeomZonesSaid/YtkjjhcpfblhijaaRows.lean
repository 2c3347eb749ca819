/-
  No cell of these rows narrows 'for every input' (looked for: loops, veiled, ifaces, maps, wideKeys, modest, calm, conditions, laid).
  DERIVED. THE GIVEN ROWS OF THIS SEAT. 4 by the template 'for every input the law returns true; each argument reads behind the call as it read before'; 0 by the template 'total and deterministic' (their statements: YtkjjhcpfblhijaaTotals.lean).
  GIVEN WITH THE SEED: the statements are not yours to turn. If you find one false, say at which input.
  Laid BY PROGRAM, IN A SANDBOX (cutbox-rows.mjs): the forced cells as the released guide's own fill.sh prints them over the translation 5539c851f9756ea8… (all of the seat's roots in one cut). By AI agents, Wed Nov 11 2026. No macro, syntax, notation, axiom, sorry.
-/
import Derived.Test.YtkjjhcpfblhijaaChecked
import GoSem.Claim
import GoSem.ClaimJoined
import GoSem.ClaimMapViews
import Derived.JoinedTies
import Derived.KernelRfl
namespace Go.Proofs.Ytkjjhcpfblhijaa
/- THE CELL 'sum', in the pinned program and in every row, IS THE sha256 OF THE DUMP (.gsa) THAT YtkjjhcpfblhijaaProg.lean LOADS. Nothing in Lean hashes anything: it is a label: what it is worth is what the hold of that sum in a sandbox is worth. -/
noncomputable def Try.pinned : Pinned := { name := "ytkjjhcpfblhijaa", sum := "5539c851f9756ea8abc99ac157f2eef85100054d9f5e186d47d8db1ca5a27a15", checked := Try.checked }
namespace Rows
def none {H : Type} : Left H := { results := [], args := [] }

/-- 'revetmentlaw05.GeomRight': WHATEVER THE INPUT: true; the input reads as it did. -/
def geomRightSpec : ChangeSpec := { name := "geomRight", fn := fun _ => fun
  | [d] => { results := [.lit (.bool true)], args := [d] }
  | _ => none }
def geomRightRow : OpenClaim := { program := "ytkjjhcpfblhijaa", sum := "5539c851f9756ea8abc99ac157f2eef85100054d9f5e186d47d8db1ca5a27a15", func := "revetment/revetmentlaw05.GeomRight", spec := "geomRight", unfollowed := true, recurses := true, apart := false }
def GeomRightSaid : Prop := geomRightRow.holds Try.pinned (OpenSpec.ofChange geomRightSpec)

/-- ITS FALSE NEIGHBOUR: 'it returns false'. Refute it at one input. -/
def geomRightWrong : ChangeSpec := { name := "geomRight", fn := fun _ => fun
  | [d] => { results := [.lit (.bool false)], args := [d] }
  | _ => none }
def GeomRightWrongFalsely : Prop := geomRightRow.holds Try.pinned (OpenSpec.ofChange geomRightWrong)

/-- 'revetmentlaw05.GeomZones': WHATEVER THE INPUT: true; the input reads as it did. -/
def geomZonesSpec : ChangeSpec := { name := "geomZones", fn := fun _ => fun
  | [d1, d2, d3, d4] => { results := [.lit (.bool true)], args := [d1, d2, d3, d4] }
  | _ => none }
def geomZonesRow : OpenClaim := { program := "ytkjjhcpfblhijaa", sum := "5539c851f9756ea8abc99ac157f2eef85100054d9f5e186d47d8db1ca5a27a15", func := "revetment/revetmentlaw05.GeomZones", spec := "geomZones", unfollowed := true, recurses := true, apart := false }
def GeomZonesSaid : Prop := geomZonesRow.holds Try.pinned (OpenSpec.ofChange geomZonesSpec)

/-- ITS FALSE NEIGHBOUR: 'it returns false'. Refute it at one input. -/
def geomZonesWrong : ChangeSpec := { name := "geomZones", fn := fun _ => fun
  | [d1, d2, d3, d4] => { results := [.lit (.bool false)], args := [d1, d2, d3, d4] }
  | _ => none }
def GeomZonesWrongFalsely : Prop := geomZonesRow.holds Try.pinned (OpenSpec.ofChange geomZonesWrong)

/-- 'revetmentlaw05.GeomMore': WHATEVER THE INPUT: true; the input reads as it did. -/
def geomMoreSpec : ChangeSpec := { name := "geomMore", fn := fun _ => fun
  | [d1, d2, d3] => { results := [.lit (.bool true)], args := [d1, d2, d3] }
  | _ => none }
def geomMoreRow : OpenClaim := { program := "ytkjjhcpfblhijaa", sum := "5539c851f9756ea8abc99ac157f2eef85100054d9f5e186d47d8db1ca5a27a15", func := "revetment/revetmentlaw05.GeomMore", spec := "geomMore", unfollowed := true, recurses := true, apart := false }
def GeomMoreSaid : Prop := geomMoreRow.holds Try.pinned (OpenSpec.ofChange geomMoreSpec)

/-- ITS FALSE NEIGHBOUR: 'it returns false'. Refute it at one input. -/
def geomMoreWrong : ChangeSpec := { name := "geomMore", fn := fun _ => fun
  | [d1, d2, d3] => { results := [.lit (.bool false)], args := [d1, d2, d3] }
  | _ => none }
def GeomMoreWrongFalsely : Prop := geomMoreRow.holds Try.pinned (OpenSpec.ofChange geomMoreWrong)

/-- 'revetmentlaw05.GeomRooms': WHATEVER THE INPUT: true; the input reads as it did. -/
def geomRoomsSpec : ChangeSpec := { name := "geomRooms", fn := fun _ => fun
  | [d] => { results := [.lit (.bool true)], args := [d] }
  | _ => none }
def geomRoomsRow : OpenClaim := { program := "ytkjjhcpfblhijaa", sum := "5539c851f9756ea8abc99ac157f2eef85100054d9f5e186d47d8db1ca5a27a15", func := "revetment/revetmentlaw05.GeomRooms", spec := "geomRooms", unfollowed := true, recurses := true, apart := false }
def GeomRoomsSaid : Prop := geomRoomsRow.holds Try.pinned (OpenSpec.ofChange geomRoomsSpec)

/-- ITS FALSE NEIGHBOUR: 'it returns false'. Refute it at one input. -/
def geomRoomsWrong : ChangeSpec := { name := "geomRooms", fn := fun _ => fun
  | [d] => { results := [.lit (.bool false)], args := [d] }
  | _ => none }
def GeomRoomsWrongFalsely : Prop := geomRoomsRow.holds Try.pinned (OpenSpec.ofChange geomRoomsWrong)

/- THE SECOND FORM. 'bulk': how many values and letters a reading holds, each counted each time it is reached (what is shared counts as often as it is met; a slice's spare places count too). A statement '..UptoSaid' is the law's where the arguments, and the package variables that the reading takes, are together of bulk at most 1048576: NARROWER than '..Said'. Prove '..Said' where nothing that the law and all that it calls make is longer than what came in: it says more and counts as full. Else prove '..UptoSaid'. A law counts once. -/
mutual
def uptoBulk {H : Type} : DataW H → Nat
  | .lit (.string bytes) => bytes.length + 1
  | .lit _ => 1
  | .nil => 1
  | .ptr d => uptoBulk d + 1
  | .slice elems spare => uptoBulkAll elems + uptoBulkAll spare + 1
  | .agg parts => uptoBulkAll parts + 1
  | .iface _ d => uptoBulk d + 1
  | .map entries => uptoBulkEntries entries + 1
  | .held _ => 1
def uptoBulkAll {H : Type} : List (DataW H) → Nat
  | [] => 0
  | d :: r => uptoBulk d + uptoBulkAll r
def uptoBulkEntries {H : Type} : List (Lit × DataW H) → Nat
  | [] => 0
  | x :: r => uptoBulkEntry x + uptoBulkEntries r
def uptoBulkEntry {H : Type} : Lit × DataW H → Nat
  | (.string bytes, d) => bytes.length + uptoBulk d + 1
  | (_, d) => uptoBulk d + 1
 end
def uptoSmall : (H : Type) → List (DataW H) → Bool := fun _ ds => decide (uptoBulkAll ds ≤ 1048576)
def OpenSpec.upto (s : _root_.Go.ChangeSpec) : _root_.Go.OpenSpec := { _root_.Go.OpenSpec.ofChange s with cond := some uptoSmall }

/-- 'revetmentlaw05.GeomRight', WHERE WHAT IT READS IS OF BULK AT MOST 1048576: true; the input reads as it did. -/
def geomRightUptoRow : OpenClaim := { program := "ytkjjhcpfblhijaa", sum := "5539c851f9756ea8abc99ac157f2eef85100054d9f5e186d47d8db1ca5a27a15", func := "revetment/revetmentlaw05.GeomRight", spec := "geomRight", unfollowed := true, recurses := true, apart := false, narrowed := true }
def GeomRightUptoSaid : Prop := geomRightUptoRow.holds Try.pinned (OpenSpec.upto geomRightSpec)

/-- 'revetmentlaw05.GeomZones', WHERE WHAT IT READS IS OF BULK AT MOST 1048576: true; the input reads as it did. -/
def geomZonesUptoRow : OpenClaim := { program := "ytkjjhcpfblhijaa", sum := "5539c851f9756ea8abc99ac157f2eef85100054d9f5e186d47d8db1ca5a27a15", func := "revetment/revetmentlaw05.GeomZones", spec := "geomZones", unfollowed := true, recurses := true, apart := false, narrowed := true }
def GeomZonesUptoSaid : Prop := geomZonesUptoRow.holds Try.pinned (OpenSpec.upto geomZonesSpec)

/-- 'revetmentlaw05.GeomMore', WHERE WHAT IT READS IS OF BULK AT MOST 1048576: true; the input reads as it did. -/
def geomMoreUptoRow : OpenClaim := { program := "ytkjjhcpfblhijaa", sum := "5539c851f9756ea8abc99ac157f2eef85100054d9f5e186d47d8db1ca5a27a15", func := "revetment/revetmentlaw05.GeomMore", spec := "geomMore", unfollowed := true, recurses := true, apart := false, narrowed := true }
def GeomMoreUptoSaid : Prop := geomMoreUptoRow.holds Try.pinned (OpenSpec.upto geomMoreSpec)

/-- 'revetmentlaw05.GeomRooms', WHERE WHAT IT READS IS OF BULK AT MOST 1048576: true; the input reads as it did. -/
def geomRoomsUptoRow : OpenClaim := { program := "ytkjjhcpfblhijaa", sum := "5539c851f9756ea8abc99ac157f2eef85100054d9f5e186d47d8db1ca5a27a15", func := "revetment/revetmentlaw05.GeomRooms", spec := "geomRooms", unfollowed := true, recurses := true, apart := false, narrowed := true }
def GeomRoomsUptoSaid : Prop := geomRoomsUptoRow.holds Try.pinned (OpenSpec.upto geomRoomsSpec)

end Rows
end Go.Proofs.Ytkjjhcpfblhijaa
