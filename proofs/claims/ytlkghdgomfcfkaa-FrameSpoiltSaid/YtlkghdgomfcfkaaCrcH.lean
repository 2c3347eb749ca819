/-
  The contracts of the document's Same and Bit (layer 1).
-/
import Derived.Test.YtlkghdgomfcfkaaCrcG
import Derived.Test.YtlkghdgomfcfkaaBaseB
namespace Go.Proofs.Ytlkghdgomfcfkaa
open Go.RowKit CrcM
set_option linter.unusedVariables false
set_option linter.unnecessarySimpa false
set_option linter.unusedSimpArgs false

theorem half_pow (x k : Nat) : x / 2 ^ k / 2 = x / 2 ^ (k + 1) := by rw [Nat.div_div_eq_div_mul, Nat.pow_succ]

set_option maxRecDepth 100000 in
set_option maxHeartbeats 1000000 in
theorem bit_any (a : Option Addr) (len cap : Nat) (bs : List Nat) (i : Nat) (w : World) (hr : RowB w a len cap bs) (hi : i < 8 * len) (hm : len ≤ 1000000) :
    Calls Try.prog 32 #[.slice a len cap, .int .i64 i] w fun e w' => e = .returned (.int .i64 (((num bs).testBit i).toNat : Nat)) ∧ w = w' := by
  obtain ⟨b, off, rfl, hc⟩ := hr.cells (by omega)
  have hck := hc (i / 8) (by omega)
  have hx := getD_lt hr.lt (i / 8)
  have hb := num_testBit bs (i / 8) (i % 8) (Nat.mod_lt _ (by decide)) hr.lt
  rw [show 8 * (i / 8) + i % 8 = i by omega] at hb
  have hq : (i : Int) / 8 < (len : Int) := by omega
  have hle := hr.le
  have hmx : cap ≤ 9223372036854775807 := by have := hr.max; unfold maxLen at this; omega
  generalize bs.getD (i / 8) 0 = x at *
  have Hb := Lib.hid hb
  clear hb hc hr
  go_enter Try.func32, Try.ntmps32
  go_wp2_with fail
  clear hck
  go_loop [5, 6] (fun t k => ∃ m : Nat, m ≤ i % 8 ∧ k = .int .i64 m ∧ t = .int .i64 (x / 2 ^ m : Nat)) (fun _ k => 8 - (intOf k).toNat)
  case atStart => exact ⟨0, Nat.zero_le _, rfl, by simp⟩
  case round =>
    obtain ⟨m, hm', rfl, rfl⟩ := hrel
    have hxm : x / 2 ^ m < 256 := Nat.lt_of_le_of_lt (Nat.div_le_self _ _) hx
    have hn := Lib.hid (half_pow x m)
    by_cases hlt : m < i % 8
    · have hlt' : (m : Int) < (i : Int) % 8 := by omega
      generalize x / 2 ^ m = t at *
      go_wp2_with fail
      go_round
      case rel => exact ⟨m + 1, by omega, by go_num, by rw [← hn.out]; go_num⟩
      case measure => simp [intOf]; omega
    · have hge : ¬ (m : Int) < (i : Int) % 8 := by omega
      obtain rfl : m = i % 8 := by omega
      have hv : Hid (((num bs).testBit i).toNat = x / 2 ^ (i % 8) % 2) := Lib.hid (by
        rw [Hb.out, Nat.testBit_eq_decide_div_mod_eq]
        rcases Nat.mod_two_eq_zero_or_one (x / 2 ^ (i % 8)) with h | h <;> simp [h])
      generalize x / 2 ^ (i % 8) = t at *
      go_wp2_with fail
      go_ret
      exact ⟨by rw [hv.out]; go_num, rfl⟩

end Go.Proofs.Ytlkghdgomfcfkaa
