/-
  No cell of these rows narrows 'for every input' (looked for: loops, veiled, ifaces, maps, wideKeys, modest, calm, conditions, laid).
  DERIVED. THE GIVEN ROWS OF THIS SEAT. 5 by the template 'for every input the law returns true; each argument reads behind the call as it read before'; 0 by the template 'total and deterministic' (their statements: YtlngdndamgopeaaTotals.lean).
  GIVEN WITH THE SEED: the statements are not yours to turn. If you find one false, say at which input.
  Laid BY PROGRAM, IN A SANDBOX (cutbox-rows.mjs): the forced cells as the released guide's own fill.sh prints them over the translation 06bfb9b3b5649854… (all of the seat's roots in one cut). By AI agents, Wed Nov 11 2026. No macro, syntax, notation, axiom, sorry.
-/
import Derived.Test.YtlngdndamgopeaaChecked
import GoSem.Claim
import GoSem.ClaimJoined
import GoSem.ClaimMapViews
import Derived.JoinedTies
import Derived.KernelRfl
namespace Go.Proofs.Ytlngdndamgopeaa
/- THE CELL 'sum', in the pinned program and in every row, IS THE sha256 OF THE DUMP (.gsa) THAT YtlngdndamgopeaaProg.lean LOADS. Nothing in Lean hashes anything: it is a label: what it is worth is what the hold of that sum in a sandbox is worth. -/
noncomputable def Try.pinned : Pinned := { name := "ytlngdndamgopeaa", sum := "06bfb9b3b564985487a15ea2dded78498ca540a0d0837f73959ed48dbab1913d", checked := Try.checked }
namespace Rows
def none {H : Type} : Left H := { results := [], args := [] }

/-- 'revetmentlaw07.DevicePlays': WHATEVER THE INPUT: true; the input reads as it did. -/
def devicePlaysSpec : ChangeSpec := { name := "devicePlays", fn := fun _ => fun
  | [d1, d2, d3, d4] => { results := [.lit (.bool true)], args := [d1, d2, d3, d4] }
  | _ => none }
def devicePlaysRow : OpenClaim := { program := "ytlngdndamgopeaa", sum := "06bfb9b3b564985487a15ea2dded78498ca540a0d0837f73959ed48dbab1913d", func := "revetment/revetmentlaw07.DevicePlays", spec := "devicePlays", unfollowed := true, recurses := true, apart := false }
def DevicePlaysSaid : Prop := devicePlaysRow.holds Try.pinned (OpenSpec.ofChange devicePlaysSpec)

/-- ITS FALSE NEIGHBOUR: 'it returns false'. Refute it at one input. -/
def devicePlaysWrong : ChangeSpec := { name := "devicePlays", fn := fun _ => fun
  | [d1, d2, d3, d4] => { results := [.lit (.bool false)], args := [d1, d2, d3, d4] }
  | _ => none }
def DevicePlaysWrongFalsely : Prop := devicePlaysRow.holds Try.pinned (OpenSpec.ofChange devicePlaysWrong)

/-- 'revetmentlaw07.DeviceLimit': WHATEVER THE INPUT: true; the input reads as it did. -/
def deviceLimitSpec : ChangeSpec := { name := "deviceLimit", fn := fun _ => fun
  | [d1, d2, d3, d4] => { results := [.lit (.bool true)], args := [d1, d2, d3, d4] }
  | _ => none }
def deviceLimitRow : OpenClaim := { program := "ytlngdndamgopeaa", sum := "06bfb9b3b564985487a15ea2dded78498ca540a0d0837f73959ed48dbab1913d", func := "revetment/revetmentlaw07.DeviceLimit", spec := "deviceLimit", unfollowed := true, recurses := true, apart := false }
def DeviceLimitSaid : Prop := deviceLimitRow.holds Try.pinned (OpenSpec.ofChange deviceLimitSpec)

/-- ITS FALSE NEIGHBOUR: 'it returns false'. Refute it at one input. -/
def deviceLimitWrong : ChangeSpec := { name := "deviceLimit", fn := fun _ => fun
  | [d1, d2, d3, d4] => { results := [.lit (.bool false)], args := [d1, d2, d3, d4] }
  | _ => none }
def DeviceLimitWrongFalsely : Prop := deviceLimitRow.holds Try.pinned (OpenSpec.ofChange deviceLimitWrong)

/-- 'revetmentlaw07.DeviceDown': WHATEVER THE INPUT: true; the input reads as it did. -/
def deviceDownSpec : ChangeSpec := { name := "deviceDown", fn := fun _ => fun
  | [d1, d2, d3, d4, d5] => { results := [.lit (.bool true)], args := [d1, d2, d3, d4, d5] }
  | _ => none }
def deviceDownRow : OpenClaim := { program := "ytlngdndamgopeaa", sum := "06bfb9b3b564985487a15ea2dded78498ca540a0d0837f73959ed48dbab1913d", func := "revetment/revetmentlaw07.DeviceDown", spec := "deviceDown", unfollowed := true, recurses := true, apart := false }
def DeviceDownSaid : Prop := deviceDownRow.holds Try.pinned (OpenSpec.ofChange deviceDownSpec)

/-- ITS FALSE NEIGHBOUR: 'it returns false'. Refute it at one input. -/
def deviceDownWrong : ChangeSpec := { name := "deviceDown", fn := fun _ => fun
  | [d1, d2, d3, d4, d5] => { results := [.lit (.bool false)], args := [d1, d2, d3, d4, d5] }
  | _ => none }
def DeviceDownWrongFalsely : Prop := deviceDownRow.holds Try.pinned (OpenSpec.ofChange deviceDownWrong)

/-- 'revetmentlaw07.DeviceFlushes': WHATEVER THE INPUT: true; the input reads as it did. -/
def deviceFlushesSpec : ChangeSpec := { name := "deviceFlushes", fn := fun _ => fun
  | [d1, d2, d3, d4, d5, d6] => { results := [.lit (.bool true)], args := [d1, d2, d3, d4, d5, d6] }
  | _ => none }
def deviceFlushesRow : OpenClaim := { program := "ytlngdndamgopeaa", sum := "06bfb9b3b564985487a15ea2dded78498ca540a0d0837f73959ed48dbab1913d", func := "revetment/revetmentlaw07.DeviceFlushes", spec := "deviceFlushes", unfollowed := true, recurses := true, apart := false }
def DeviceFlushesSaid : Prop := deviceFlushesRow.holds Try.pinned (OpenSpec.ofChange deviceFlushesSpec)

/-- ITS FALSE NEIGHBOUR: 'it returns false'. Refute it at one input. -/
def deviceFlushesWrong : ChangeSpec := { name := "deviceFlushes", fn := fun _ => fun
  | [d1, d2, d3, d4, d5, d6] => { results := [.lit (.bool false)], args := [d1, d2, d3, d4, d5, d6] }
  | _ => none }
def DeviceFlushesWrongFalsely : Prop := deviceFlushesRow.holds Try.pinned (OpenSpec.ofChange deviceFlushesWrong)

/-- 'revetmentlaw07.DeviceLooks': WHATEVER THE INPUT: true; the input reads as it did. -/
def deviceLooksSpec : ChangeSpec := { name := "deviceLooks", fn := fun _ => fun
  | [d1, d2, d3, d4, d5] => { results := [.lit (.bool true)], args := [d1, d2, d3, d4, d5] }
  | _ => none }
def deviceLooksRow : OpenClaim := { program := "ytlngdndamgopeaa", sum := "06bfb9b3b564985487a15ea2dded78498ca540a0d0837f73959ed48dbab1913d", func := "revetment/revetmentlaw07.DeviceLooks", spec := "deviceLooks", unfollowed := true, recurses := true, apart := false }
def DeviceLooksSaid : Prop := deviceLooksRow.holds Try.pinned (OpenSpec.ofChange deviceLooksSpec)

/-- ITS FALSE NEIGHBOUR: 'it returns false'. Refute it at one input. -/
def deviceLooksWrong : ChangeSpec := { name := "deviceLooks", fn := fun _ => fun
  | [d1, d2, d3, d4, d5] => { results := [.lit (.bool false)], args := [d1, d2, d3, d4, d5] }
  | _ => none }
def DeviceLooksWrongFalsely : Prop := deviceLooksRow.holds Try.pinned (OpenSpec.ofChange deviceLooksWrong)

/- THE SECOND FORM. 'bulk': how many values and letters a reading holds, each counted each time it is reached (what is shared counts as often as it is met; a slice's spare places count too). A statement '..UptoSaid' is the law's where the arguments, and the package variables that the reading takes, are together of bulk at most 1048576: NARROWER than '..Said'. Prove '..Said' where nothing that the law and all that it calls make is longer than what came in: it says more and counts as full. Else prove '..UptoSaid'. A law counts once. -/
mutual
def uptoBulk {H : Type} : DataW H → Nat
  | .lit (.string bytes) => bytes.length + 1
  | .lit _ => 1
  | .nil => 1
  | .ptr d => uptoBulk d + 1
  | .slice elems spare => uptoBulkAll elems + uptoBulkAll spare + 1
  | .agg parts => uptoBulkAll parts + 1
  | .iface _ d => uptoBulk d + 1
  | .map entries => uptoBulkEntries entries + 1
  | .held _ => 1
def uptoBulkAll {H : Type} : List (DataW H) → Nat
  | [] => 0
  | d :: r => uptoBulk d + uptoBulkAll r
def uptoBulkEntries {H : Type} : List (Lit × DataW H) → Nat
  | [] => 0
  | x :: r => uptoBulkEntry x + uptoBulkEntries r
def uptoBulkEntry {H : Type} : Lit × DataW H → Nat
  | (.string bytes, d) => bytes.length + uptoBulk d + 1
  | (_, d) => uptoBulk d + 1
 end
def uptoSmall : (H : Type) → List (DataW H) → Bool := fun _ ds => decide (uptoBulkAll ds ≤ 1048576)
def OpenSpec.upto (s : _root_.Go.ChangeSpec) : _root_.Go.OpenSpec := { _root_.Go.OpenSpec.ofChange s with cond := some uptoSmall }

/-- 'revetmentlaw07.DevicePlays', WHERE WHAT IT READS IS OF BULK AT MOST 1048576: true; the input reads as it did. -/
def devicePlaysUptoRow : OpenClaim := { program := "ytlngdndamgopeaa", sum := "06bfb9b3b564985487a15ea2dded78498ca540a0d0837f73959ed48dbab1913d", func := "revetment/revetmentlaw07.DevicePlays", spec := "devicePlays", unfollowed := true, recurses := true, apart := false, narrowed := true }
def DevicePlaysUptoSaid : Prop := devicePlaysUptoRow.holds Try.pinned (OpenSpec.upto devicePlaysSpec)

/-- 'revetmentlaw07.DeviceLimit', WHERE WHAT IT READS IS OF BULK AT MOST 1048576: true; the input reads as it did. -/
def deviceLimitUptoRow : OpenClaim := { program := "ytlngdndamgopeaa", sum := "06bfb9b3b564985487a15ea2dded78498ca540a0d0837f73959ed48dbab1913d", func := "revetment/revetmentlaw07.DeviceLimit", spec := "deviceLimit", unfollowed := true, recurses := true, apart := false, narrowed := true }
def DeviceLimitUptoSaid : Prop := deviceLimitUptoRow.holds Try.pinned (OpenSpec.upto deviceLimitSpec)

/-- 'revetmentlaw07.DeviceDown', WHERE WHAT IT READS IS OF BULK AT MOST 1048576: true; the input reads as it did. -/
def deviceDownUptoRow : OpenClaim := { program := "ytlngdndamgopeaa", sum := "06bfb9b3b564985487a15ea2dded78498ca540a0d0837f73959ed48dbab1913d", func := "revetment/revetmentlaw07.DeviceDown", spec := "deviceDown", unfollowed := true, recurses := true, apart := false, narrowed := true }
def DeviceDownUptoSaid : Prop := deviceDownUptoRow.holds Try.pinned (OpenSpec.upto deviceDownSpec)

/-- 'revetmentlaw07.DeviceFlushes', WHERE WHAT IT READS IS OF BULK AT MOST 1048576: true; the input reads as it did. -/
def deviceFlushesUptoRow : OpenClaim := { program := "ytlngdndamgopeaa", sum := "06bfb9b3b564985487a15ea2dded78498ca540a0d0837f73959ed48dbab1913d", func := "revetment/revetmentlaw07.DeviceFlushes", spec := "deviceFlushes", unfollowed := true, recurses := true, apart := false, narrowed := true }
def DeviceFlushesUptoSaid : Prop := deviceFlushesUptoRow.holds Try.pinned (OpenSpec.upto deviceFlushesSpec)

/-- 'revetmentlaw07.DeviceLooks', WHERE WHAT IT READS IS OF BULK AT MOST 1048576: true; the input reads as it did. -/
def deviceLooksUptoRow : OpenClaim := { program := "ytlngdndamgopeaa", sum := "06bfb9b3b564985487a15ea2dded78498ca540a0d0837f73959ed48dbab1913d", func := "revetment/revetmentlaw07.DeviceLooks", spec := "deviceLooks", unfollowed := true, recurses := true, apart := false, narrowed := true }
def DeviceLooksUptoSaid : Prop := deviceLooksUptoRow.holds Try.pinned (OpenSpec.upto deviceLooksSpec)

end Rows
end Go.Proofs.Ytlngdndamgopeaa
