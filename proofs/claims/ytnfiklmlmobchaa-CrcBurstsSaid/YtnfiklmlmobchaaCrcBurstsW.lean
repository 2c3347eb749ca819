/-
  The walk of CrcBursts.
-/
import Derived.Test.YtnfiklmlmobchaaCrcE
import Derived.Deep.DeepCutAuto
namespace Go.Proofs.Ytnfiklmlmobchaa
open Go.RowKit CrcM
set_option linter.unusedVariables false
set_option linter.unnecessarySimpa false
set_option linter.unusedSimpArgs false

set_option maxRecDepth 100000 in
set_option maxHeartbeats 1000000 in
theorem walkBursts_out (word at_ n : Int) (w : World) (bw : 0 ≤ word ∧ word ≤ 4294967295) (ba : -9223372036854775808 ≤ at_ ∧ at_ ≤ 9223372036854775807) (bn : -9223372036854775808 ≤ n ∧ n ≤ 9223372036854775807)
    (ho : n < 5 ∨ 200 < n ∨ at_ < 0 ∨ 8 * n - 32 < at_ ∨ word = 0) :
    Calls Try.prog 6 #[.int .u32 word, .int .i64 at_, .int .i64 n] w fun e w' => e = .returned (.bool true) ∧ Below w.heap.size w w' := by
  by_cases h0 : n < 5
  · go_enter Try.func6, Try.ntmps6
    go_wp2_with fail
    refine (anchor_any _).mono ?_
    rintro e w1 ⟨rfl, hb1⟩
    go_wp2_with fail
    go_ret
    exact ⟨rfl, hb1⟩
  · by_cases h1 : 200 < n
    · go_enter Try.func6, Try.ntmps6
      go_wp2_with fail
      refine (anchor_any _).mono ?_
      rintro e w1 ⟨rfl, hb1⟩
      go_wp2_with fail
      go_ret
      exact ⟨rfl, hb1⟩
    · by_cases h2 : at_ < 0
      · go_enter Try.func6, Try.ntmps6
        go_wp2_with fail
        refine (anchor_any _).mono ?_
        rintro e w1 ⟨rfl, hb1⟩
        go_wp2_with fail
        go_ret
        exact ⟨rfl, hb1⟩
      · by_cases h3 : 8 * n - 32 < at_
        · go_enter Try.func6, Try.ntmps6
          go_wp2_with fail
          refine (anchor_any _).mono ?_
          rintro e w1 ⟨rfl, hb1⟩
          go_wp2_with fail
          go_ret
          exact ⟨rfl, hb1⟩
        · have h4 : word = 0 := by omega
          subst h4
          go_enter Try.func6, Try.ntmps6
          go_wp2_with fail
          refine (anchor_any _).mono ?_
          rintro e w1 ⟨rfl, hb1⟩
          go_wp2_with fail
          go_ret
          exact ⟨rfl, hb1⟩

theorem bit_test (word m : Nat) (hw : word < 4294967296) : (bits BinOp.and IntKind.u32 ((word : Int) / 2 ^ m) 1 == 1) = word.testBit m := by
  have e : ((word : Int) / 2 ^ m) = ((word / 2 ^ m : Nat) : Int) := by rw [Int.natCast_ediv, Int.natCast_pow]; rfl
  rw [e, and1 _ (Nat.lt_of_le_of_lt (Nat.div_le_self _ _) hw), Nat.testBit_eq_decide_div_mod_eq, Bool.eq_iff_iff]
  simp
  omega

theorem burst_lt (word at_ m : Nat) : 2 ^ at_ * (word % 2 ^ m) < 2 ^ (at_ + m) := by
  rw [Nat.pow_add]
  exact Nat.mul_lt_mul_of_pos_left (Nat.mod_lt _ (Nat.two_pow_pos m)) (Nat.two_pow_pos at_)

theorem burst_next (word at_ m : Nat) (h : word.testBit m = true) : 2 ^ at_ * (word % 2 ^ m) ^^^ 2 ^ (at_ + m) = 2 ^ at_ * (word % 2 ^ (m + 1)) := by
  have h1 := add_eq_xor (k := at_ + m) (b := 1) (burst_lt word at_ m)
  rw [Nat.mul_one] at h1
  rw [← h1, pattern_or, if_pos h, Nat.mul_add, Nat.pow_add]

theorem burst_same (word at_ m : Nat) (h : word.testBit m = false) : 2 ^ at_ * (word % 2 ^ m) = 2 ^ at_ * (word % 2 ^ (m + 1)) := by
  rw [pattern_or, if_neg (by rw [h]; simp)]

set_option maxRecDepth 100000 in
set_option maxHeartbeats 1000000 in
theorem walkBursts_in (word at_ n : Nat) (w : World) (hw : word < 4294967296) (hw0 : word ≠ 0) (h0 : 5 ≤ n) (h1 : n ≤ 200) (h2 : at_ ≤ 8 * n - 32) :
    Calls Try.prog 6 #[.int .u32 word, .int .i64 at_, .int .i64 n] w fun e w' => e = .returned (.bool true) ∧ Below w.heap.size w w' := by
  have c0 : ((word : Int) == 0) = false := by rw [beq_eq_false_iff_ne]; omega
  go_enter Try.func6, Try.ntmps6
  go_wp2_with fail
  refine (anchor_any _).mono ?_
  rintro e w1 ⟨rfl, hb1⟩
  have hmk := fun w => make_bytes w n (by omega)
  go_wp2_with fail
  clear hmk
  go_loopw [34] (fun i wr => ∃ (m : Nat) (bs : List Nat), m ≤ 32 ∧ i = .int .i64 m ∧ bs.length = n ∧ (∀ c ∈ bs, c < 256) ∧ num bs = 2 ^ at_ * (word % 2 ^ m) ∧ wr = w1.alloc (Obj.cells (bA bs) 5)) (fun i _ => 32 - (intOf i).toNat)
  case atStart => exact ⟨0, zeros n, Nat.zero_le _, rfl, zeros_length n, zeros_lt n, by rw [zeros_num, Nat.pow_zero, Nat.mod_one, Nat.mul_zero], rfl⟩
  case round =>
    obtain ⟨m, bs, hm, rfl, hl, hb, hn, rfl⟩ := hrel
    have Hl := Lib.hid hl
    have Hb := Lib.hid hb
    have Hn := Lib.hid hn
    clear hl hb hn
    by_cases hlm : m < 32
    · have ht := bit_test word m hw
      cases hbit : word.testBit m with
      | true =>
        rw [hbit] at ht
        have Hbit := Lib.hid hbit
        clear hbit
        obtain ⟨x, y, bs', g1, g2, g3, g4, g5, g6⟩ := put_bit bs n (at_ + m) Hl.out Hb.out (by omega) (by rw [Hn.out]; exact Nat.testBit_lt_two_pow (burst_lt word at_ m))
        rw [Hn.out, burst_next word at_ m Hbit.out] at g6
        have G4 := Lib.hid g4
        have G5 := Lib.hid g5
        have G6 := Lib.hid g6
        clear g4 g5 g6
        go_wp2_with fail
        go_roundw
        case rel => exact ⟨m + 1, bs', by omega, by go_num, G4.out, G5.out, G6.out, rfl⟩
        case measure => simp [intOf]; omega
      | false =>
        rw [hbit] at ht
        have Hbit := Lib.hid hbit
        clear hbit
        go_wp2_with fail
        go_roundw
        case rel => exact ⟨m + 1, bs, by omega, by go_num, Hl.out, Hb.out, by rw [Hn.out, burst_same word at_ m Hbit.out], rfl⟩
        case measure => simp [intOf]; omega
    · obtain rfl : m = 32 := by omega
      have hnum : num bs = 2 ^ at_ * word := by rw [Hn.out, Nat.mod_eq_of_lt (by simpa using hw)]
      have Hnum := Lib.hid hnum
      clear hnum
      have hrow0 := row_bA (heap_alloc_new w1 (Obj.cells (bA bs) 5)) Hb.out (by rw [Hl.out]; unfold maxLen; omega)
      rw [Hl.out] at hrow0
      have Hrow0 := Lib.hid hrow0
      clear hrow0
      go_wp2_with fail
      refine (new_any _).mono ?_
      rintro e w2 ⟨rfl, hb2⟩
      have Hrow := Lib.hid (Hrow0.out.below hb2)
      clear Hrow0
      go_wp2_with fail
      refine (mult_any _ _ _ _ _ Hrow.out).mono ?_
      rintro e w3 ⟨rfl, hb3⟩
      have hd : decide (ovr 0 bs = 0) = false := by
        rw [ovr_num bs 0 Hb.out, Nat.zero_xor, Hl.out, Hnum.out]
        exact decide_eq_false (hvs_burst hw hw0 (by omega))
      rw [hd]
      clear hd
      go_wp2_with fail
      go_ret
      exact ⟨rfl, bthen hb1 (bthen (bthen (below_alloc w1 _) hb2) hb3)⟩

theorem walkCrcBursts (word at_ n : Int) (w : World) (hw : (Lit.int .u32 word).wf = true) (ha : (Lit.int .i64 at_).wf = true) (hn : (Lit.int .i64 n).wf = true) :
    Calls Try.prog 6 #[.int .u32 word, .int .i64 at_, .int .i64 n] w fun e w' => e = .returned (.bool true) ∧ Below w.heap.size w w' := by
  have b1 := bounds_u32 hw
  by_cases ho : n < 5 ∨ 200 < n ∨ at_ < 0 ∨ 8 * n - 32 < at_ ∨ word = 0
  · exact walkBursts_out word at_ n w b1 (bounds_i64 ha) (bounds_i64 hn) ho
  · obtain ⟨x, rfl⟩ := Int.eq_ofNat_of_zero_le (a := word) (by omega)
    obtain ⟨y, rfl⟩ := Int.eq_ofNat_of_zero_le (a := at_) (by omega)
    obtain ⟨z, rfl⟩ := Int.eq_ofNat_of_zero_le (a := n) (by omega)
    exact walkBursts_in x y z w (by omega) (by omega) (by omega) (by omega) (by omega)

end Go.Proofs.Ytnfiklmlmobchaa
