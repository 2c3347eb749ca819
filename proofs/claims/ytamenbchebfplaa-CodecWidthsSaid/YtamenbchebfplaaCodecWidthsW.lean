/-
  The walk of CodecWidths.
-/
import Derived.Test.YtamenbchebfplaaCodecD
namespace Go.Proofs.Ytamenbchebfplaa
open Go.RowKit CrcM
set_option linter.unusedVariables false
set_option linter.unnecessarySimpa false
set_option linter.unusedSimpArgs false

theorem fit_more (v : Int) (h0 : 0 ≤ v) (h : v < 72057594037927936) : fitB 7 v = true := decide_eq_true ⟨by decide, by decide, h0, by simpa using h⟩

set_option maxHeartbeats 1000000 in
theorem walkCodecWidths (v : Int) (w : World) (hv : (Lit.int .i64 v).wf = true) :
    Calls Try.prog 5 #[.int .i64 v] w fun e w' => e = .returned (.bool true) ∧ Below w.heap.size w w' := by
  clear hv
  by_cases h0 : v < 0
  · have hk : Hid (∀ k, LeastW v k → (k : Int) = 8) := Lib.hid (fun k hk => by
      rcases hk with ⟨_, _, hf, _⟩ | ⟨rfl, _⟩
      · have := of_decide_eq_true hf; omega
      · rfl)
    go_enter Try.func5, Try.ntmps5
    go_wp2_with fail
    refine (anchor2_any _).mono ?_
    rintro e w1 ⟨rfl, hb1⟩
    go_wp2_with fail
    refine (width_any _ _).mono ?_
    rintro e w2 ⟨k, rfl, hl, rfl⟩
    rw [hk.out k hl]
    clear hl
    go_wp2_with fail
    go_ret
    exact ⟨rfl, hb1⟩
  · by_cases h1 : v < 72057594037927936
    · have d0 : decide (v < 0) = false := decide_eq_false h0
      have d1 : decide (72057594037927936 ≤ v) = false := decide_eq_false (by omega)
      have hf7 := Lib.hid (fit_more v (by omega) h1)
      go_enter Try.func5, Try.ntmps5
      go_wp2_with fail
      refine (anchor2_any _).mono ?_
      rintro e w1 ⟨rfl, hb1⟩
      go_wp2_with fail
      refine (width_any _ _).mono ?_
      rintro e w2 ⟨k, rfl, hl, rfl⟩
      have hl' : 1 ≤ k ∧ k ≤ 7 ∧ fitB (k : Int) v = true ∧ ∀ j : Nat, 1 ≤ j → j < k → fitB (j : Int) v = false := by
        rcases hl with h | ⟨rfl, h⟩
        · exact h
        · have := h 7 (by decide) (by decide)
          rw [show ((7 : Nat) : Int) = 7 from rfl, hf7.out] at this
          cases this
      obtain ⟨k1, k7, hf, hn⟩ := hl'
      have Hf := Lib.hid hf
      clear hl hf
      by_cases hk : k = 1
      · subst hk
        clear hn
        have Hf1 : Hid (fitB 1 v = true) := Hf
        go_wp2_with fail
        refine (rfits_any _ _ _).mono ?_; rintro e' w' ⟨rfl, rfl⟩; rw [Hf1.out]
        go_wp2_with fail
        go_ret
        exact ⟨rfl, hb1⟩
      · have Hn : Hid (fitB ((k : Int) - 1) v = false) := Lib.hid (by
          have := hn (k - 1) (by omega) (by omega)
          rwa [show ((k - 1 : Nat) : Int) = (k : Int) - 1 by omega] at this)
        have hk1 : ((k : Int) == 1) = false := by rw [beq_eq_false_iff_ne]; omega
        clear hn
        go_wp2_with fail
        refine (rfits_any _ _ _).mono ?_; rintro e' w' ⟨rfl, rfl⟩; rw [Hf.out]
        go_wp2_with fail
        refine (rfits_any _ _ _).mono ?_; rintro e' w' ⟨rfl, rfl⟩; rw [Hn.out]
        go_wp2_with fail
        go_ret
        exact ⟨rfl, hb1⟩
    · have hk : Hid (∀ k, LeastW v k → (k : Int) = 8) := Lib.hid (fun k hk => by
        rcases hk with ⟨k1, k7, hf, _⟩ | ⟨rfl, _⟩
        · have := of_decide_eq_true hf
          rw [Int.toNat_natCast, pow256] at this
          have := p256_le k k7
          omega
        · rfl)
      have d0 : decide (v < 0) = false := decide_eq_false h0
      have d1 : decide (72057594037927936 ≤ v) = true := decide_eq_true (by omega)
      go_enter Try.func5, Try.ntmps5
      go_wp2_with fail
      refine (anchor2_any _).mono ?_
      rintro e w1 ⟨rfl, hb1⟩
      go_wp2_with fail
      refine (width_any _ _).mono ?_
      rintro e w2 ⟨k, rfl, hl, rfl⟩
      rw [hk.out k hl]
      clear hl
      go_wp2_with fail
      go_ret
      exact ⟨rfl, hb1⟩

end Go.Proofs.Ytamenbchebfplaa
