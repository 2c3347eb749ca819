/-
  The walk of CrcBursts.
-/
import Derived.Test.YtlkghdgomfcfkaaCrcE
import Derived.Deep.DeepCutAuto
namespace Go.Proofs.Ytlkghdgomfcfkaa
open Go.RowKit CrcM
set_option linter.unusedVariables false
set_option linter.unnecessarySimpa false
set_option linter.unusedSimpArgs false

theorem bit_test (word m : Nat) (hw : word < 4294967296) : (bits BinOp.and IntKind.u32 ((word : Int) / 2 ^ m) 1 == 1) = word.testBit m := by
  have e : ((word : Int) / 2 ^ m) = ((word / 2 ^ m : Nat) : Int) := by rw [Int.natCast_ediv, Int.natCast_pow]; rfl
  rw [e, and1 _ (Nat.lt_of_le_of_lt (Nat.div_le_self _ _) hw), Nat.testBit_eq_decide_div_mod_eq, Bool.eq_iff_iff]
  simp
  omega

theorem burst_lt (word at_ m : Nat) : 2 ^ at_ * (word % 2 ^ m) < 2 ^ (at_ + m) := by
  rw [Nat.pow_add]
  exact Nat.mul_lt_mul_of_pos_left (Nat.mod_lt _ (Nat.two_pow_pos m)) (Nat.two_pow_pos at_)

theorem burst_next (word at_ m : Nat) (h : word.testBit m = true) : 2 ^ at_ * (word % 2 ^ m) ^^^ 2 ^ (at_ + m) = 2 ^ at_ * (word % 2 ^ (m + 1)) := by
  have h1 := add_eq_xor (k := at_ + m) (b := 1) (burst_lt word at_ m)
  rw [Nat.mul_one] at h1
  rw [← h1, pattern_or, if_pos h, Nat.mul_add, Nat.pow_add]

theorem burst_same (word at_ m : Nat) (h : word.testBit m = false) : 2 ^ at_ * (word % 2 ^ m) = 2 ^ at_ * (word % 2 ^ (m + 1)) := by
  rw [pattern_or, if_neg (by rw [h]; simp)]

end Go.Proofs.Ytlkghdgomfcfkaa
