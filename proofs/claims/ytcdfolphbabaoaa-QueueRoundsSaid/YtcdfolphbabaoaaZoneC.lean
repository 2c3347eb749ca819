/-
  Contracts of layer 6 (zone), at int: Safe, Finish, Flush, Fail, Crash, Change.
-/
import Derived.Test.YtcdfolphbabaoaaZoneB
import Derived.Recover
import Derived.Defers
namespace Go.Proofs.Ytcdfolphbabaoaa
open Go.RowKit
set_option linter.unusedVariables false
set_option linter.unnecessarySimpa false
set_option linter.unusedSimpArgs false

/-- What Finish, Flush, Fail, Crash leave. -/
def fnZ (z : ZoR) : ZoR := if refI z = 0 then { z with fin := true } else z
def flZ (z : ZoR) : ZoR := { z with safe := (z.xs.length : Int) }
def faZ (z : ZoR) (st : Int) : ZoR := if st = 4 ∨ st = 3 ∧ z.failed ≠ 4 then { z with failed := st } else z
def keepN (z : ZoR) (k : Int) : Nat := (z.safe + min (max k 0) ((z.xs.length : Int) - z.safe)).toNat
def crZ (z : ZoR) (k : Int) : ZoR := { z with xs := z.xs.take (keepN z k), safe := (keepN z k : Int) }
/-- The exclusive or of two ints, as the model has it. -/
def xorI (a b : Int) : Int := bits .xor .i64 a b

theorem keepN_bd {z : ZoR} (hok : ZOk z) (k : Int) : (keepN z k : Int) = z.safe + min (max k 0) ((z.xs.length : Int) - z.safe) ∧ keepN z k ≤ z.xs.length ∧ z.safe ≤ (keepN z k : Int) := by
  obtain ⟨h1, h2⟩ := hok.safe
  unfold keepN
  omega
/-- What a Change tells, and leaves. -/
def chE (z : ZoR) (off : Int) : Int := if zholB z off = true then 0 else 31
def chZ (z : ZoR) (zs : List Int) (off y : Int) : ZoR := if zholB z off = true then { z with xs := zvals (zs.set off.toNat (xorI (zs.getD off.toNat 0) y)) } else z
end Go.Proofs.Ytcdfolphbabaoaa
