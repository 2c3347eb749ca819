/-
  The walk of CrcTwo.
-/
import Derived.Test.YtnfiklmlmobchaaCrcE
import Derived.Deep.DeepCutAuto
namespace Go.Proofs.Ytnfiklmlmobchaa
open Go.RowKit CrcM
set_option linter.unusedVariables false
set_option linter.unnecessarySimpa false
set_option linter.unusedSimpArgs false

set_option maxRecDepth 100000 in
set_option maxHeartbeats 1000000 in
theorem walkTwo_out (n a b : Int) (w : World) (bn : -9223372036854775808 ≤ n ∧ n ≤ 9223372036854775807) (ba : -9223372036854775808 ≤ a ∧ a ≤ 9223372036854775807) (bb : -9223372036854775808 ≤ b ∧ b ≤ 9223372036854775807)
    (ho : n < 1 ∨ 500 < n ∨ a < 0 ∨ b ≤ a ∨ 8 * n ≤ b) :
    Calls Try.prog 10 #[.int .i64 n, .int .i64 a, .int .i64 b] w fun e w' => e = .returned (.bool true) ∧ Below w.heap.size w w' := by
  by_cases h0 : n < 1
  · go_enter Try.func10, Try.ntmps10
    go_wp2_with fail
    refine (anchor_any _).mono ?_
    rintro e w1 ⟨rfl, hb1⟩
    go_wp2_with fail
    go_ret
    exact ⟨rfl, hb1⟩
  · by_cases h1 : 500 < n
    · go_enter Try.func10, Try.ntmps10
      go_wp2_with fail
      refine (anchor_any _).mono ?_
      rintro e w1 ⟨rfl, hb1⟩
      go_wp2_with fail
      go_ret
      exact ⟨rfl, hb1⟩
    · by_cases h2 : a < 0
      · go_enter Try.func10, Try.ntmps10
        go_wp2_with fail
        refine (anchor_any _).mono ?_
        rintro e w1 ⟨rfl, hb1⟩
        go_wp2_with fail
        go_ret
        exact ⟨rfl, hb1⟩
      · by_cases h3 : b ≤ a
        · go_enter Try.func10, Try.ntmps10
          go_wp2_with fail
          refine (anchor_any _).mono ?_
          rintro e w1 ⟨rfl, hb1⟩
          go_wp2_with fail
          go_ret
          exact ⟨rfl, hb1⟩
        · have h4 : 8 * n ≤ b := by omega
          go_enter Try.func10, Try.ntmps10
          go_wp2_with fail
          refine (anchor_any _).mono ?_
          rintro e w1 ⟨rfl, hb1⟩
          go_wp2_with fail
          go_ret
          exact ⟨rfl, hb1⟩

set_option maxRecDepth 100000 in
set_option maxHeartbeats 1000000 in
theorem walkTwo_in (n a b : Nat) (w : World) (h0 : 1 ≤ n) (h1 : n ≤ 500) (h2 : a < b) (h3 : b < 8 * n) :
    Calls Try.prog 10 #[.int .i64 n, .int .i64 a, .int .i64 b] w fun e w' => e = .returned (.bool true) ∧ Below w.heap.size w w' := by
  go_enter Try.func10, Try.ntmps10
  go_wp2_with fail
  refine (anchor_any _).mono ?_
  rintro e w1 ⟨rfl, hb1⟩
  have hmk := fun w => make_bytes w n (by omega)
  obtain ⟨x, y, bs1, g1, g2, g3, g4, g5, g6⟩ := put_bit (zeros n) n a (zeros_length n) (zeros_lt n) (by omega) (by rw [zeros_num]; exact Nat.zero_testBit a)
  rw [zeros_num, Nat.zero_xor] at g6
  have G4 := Lib.hid g4
  have G5 := Lib.hid g5
  have G6 := Lib.hid g6
  clear g4 g5 g6
  go_upto_region 7 with (fail)
  clear g1 g2 g3 hmk
  obtain ⟨x2, y2, bs2, g1, g2, g3, g4, g5, g6⟩ := put_bit bs1 n b G4.out G5.out (by omega) (by rw [G6.out, Nat.testBit_two_pow]; simp; omega)
  rw [G6.out] at g6
  have H4 := Lib.hid g4
  have H5 := Lib.hid g5
  have H6 := Lib.hid g6
  clear g4 g5 g6 G4 G5 G6
  go_wp2_with fail
  refine (new_any _).mono ?_
  rintro e w2 ⟨rfl, hb2⟩
  clear g1 g2 g3
  have hrow := (row_bA (heap_alloc_new w1 (Obj.cells (bA bs2) 5)) H5.out (by rw [H4.out]; unfold maxLen; omega)).below hb2
  rw [H4.out] at hrow
  have Hrow := Lib.hid hrow
  clear hrow
  go_wp2_with fail
  refine (mult_any _ _ _ _ _ Hrow.out).mono ?_
  rintro e w3 ⟨rfl, hb3⟩
  have hd : decide (ovr 0 bs2 = 0) = false := by
    rw [ovr_num bs2 0 H5.out, Nat.zero_xor, H4.out, H6.out]
    exact decide_eq_false (two_bits h2 h3 h1)
  rw [hd]
  clear hd
  go_wp2_with fail
  go_ret
  exact ⟨rfl, bthen hb1 (bthen (bthen (below_alloc w1 _) hb2) hb3)⟩

theorem walkCrcTwo (n a b : Int) (w : World) (hn : (Lit.int .i64 n).wf = true) (ha : (Lit.int .i64 a).wf = true) (hb : (Lit.int .i64 b).wf = true) :
    Calls Try.prog 10 #[.int .i64 n, .int .i64 a, .int .i64 b] w fun e w' => e = .returned (.bool true) ∧ Below w.heap.size w w' := by
  by_cases ho : n < 1 ∨ 500 < n ∨ a < 0 ∨ b ≤ a ∨ 8 * n ≤ b
  · exact walkTwo_out n a b w (bounds_i64 hn) (bounds_i64 ha) (bounds_i64 hb) ho
  · obtain ⟨x, rfl⟩ := Int.eq_ofNat_of_zero_le (a := n) (by omega)
    obtain ⟨y, rfl⟩ := Int.eq_ofNat_of_zero_le (a := a) (by omega)
    obtain ⟨z, rfl⟩ := Int.eq_ofNat_of_zero_le (a := b) (by omega)
    exact walkTwo_in x y z w (by omega) (by omega) (by omega) (by omega)

end Go.Proofs.Ytnfiklmlmobchaa
