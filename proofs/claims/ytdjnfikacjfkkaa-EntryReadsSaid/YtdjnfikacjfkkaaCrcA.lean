/-
  Contracts of layer 1's calls (crc): halve, goOn, New, Raw, Step, Sum.
-/
import Derived.Test.YtdjnfikacjfkkaaBaseA
import Derived.WalkKit
import Derived.WalkSpells
import Derived.WalkLawsBesides
import Derived.Lib.Hide
import Derived.Laws.BitsAllLaws
namespace Go.Proofs.Ytdjnfikacjfkkaa
open Go.RowKit CrcM
set_option linter.unusedVariables false
set_option linter.unnecessarySimpa false
set_option linter.unusedSimpArgs false

theorem ret_u32 {a b : Int} (h : a = b) : Ending.returned (.int .u32 a) = .returned (.int .u32 b) := by rw [h]

theorem and1 (r : Nat) (h : r < 4294967296) : bits BinOp.and IntKind.u32 (r : Int) 1 = ((r % 2 : Nat) : Int) := by
  have e := u32_and_nat r 1 h (by decide)
  rw [show ((1 : Nat) : Int) = 1 from rfl] at e
  rw [e, Nat.and_one_is_mod]

theorem hv_even {r : Nat} (h : r % 2 = 0) : hv r = r / 2 := by unfold hv; rw [if_neg (by omega)]

theorem hv_odd {r : Nat} (h : r % 2 = 1) : hv r = (r / 2) ^^^ poly := by unfold hv; rw [if_pos h]

theorem xor_poly (r : Nat) (h : r < 4294967296) : bits BinOp.xor IntKind.u32 ((r : Int) / 2) 2197175160 = (((r / 2) ^^^ poly : Nat) : Int) := by
  have e := u32_xor_nat (r / 2) 2197175160 (by omega) (by decide)
  rw [show ((2197175160 : Nat) : Int) = 2197175160 from rfl, show ((r / 2 : Nat) : Int) = (r : Int) / 2 from by omega] at e
  rw [e]; rfl

/-- The table's cells. -/
def TabAt (w : World) (tb : Nat) : Prop := ∀ i : Nat, i < 256 → w.cell? ⟨tb, i, none⟩ = some (.int .u32 (tw i : Nat))

theorem xor8 (t c : Nat) (hc : c < 256) : bits BinOp.xor IntKind.u8 ((t : Int) % 256) (c : Int) = (((t % 256) ^^^ c : Nat) : Int) := by
  have e := u8_xor_nat (t % 256) c (Nat.mod_lt _ (by decide)) hc
  rw [show ((t % 256 : Nat) : Int) = (t : Int) % 256 from by omega] at e
  exact e

theorem xor32 (v t : Nat) (hv : v < 4294967296) (ht : t < 4294967296) : bits BinOp.xor IntKind.u32 (v : Int) ((t : Int) / 256) = ((v ^^^ (t / 256) : Nat) : Int) := by
  have e := u32_xor_nat v (t / 256) hv (by omega)
  rw [show ((t / 256 : Nat) : Int) = (t : Int) / 256 from by omega] at e
  exact e

theorem x8_lt (t c : Nat) (hc : c < 256) : (t % 256) ^^^ c < 256 := Nat.xor_lt_two_pow (n := 8) (Nat.mod_lt _ (by decide)) hc

end Go.Proofs.Ytdjnfikacjfkkaa
