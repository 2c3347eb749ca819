/-
  Contracts of layer 2 (codec), first part: widths; and of the document's own answers Power, Fits.
-/
import Derived.Test.YtamenbchebfplaaBaseA
namespace Go.Proofs.Ytamenbchebfplaa
open Go.RowKit CrcM
set_option linter.unusedVariables false
set_option linter.unnecessarySimpa false
set_option linter.unusedSimpArgs false

/-- Is it a width? -/
def widB (wd : Int) : Bool := decide (1 ≤ wd ∧ wd ≤ 7)
/-- Is it a number in so many bytes? -/
def fitB (wd v : Int) : Bool := decide (1 ≤ wd ∧ wd ≤ 7 ∧ 0 ≤ v ∧ v < 256 ^ wd.toNat)

theorem isWidth_any (wd : Int) (w : World) :
    Calls Try.prog 26 #[.int .i64 wd] w fun e w' => e = .returned (.bool (widB wd)) ∧ w = w' := by
  by_cases h1 : 1 ≤ wd
  · by_cases h7 : wd ≤ 7
    · have e := Lib.hid (show widB wd = true from decide_eq_true ⟨h1, h7⟩)
      go_enter Try.func26, Try.ntmps26
      go_wp2_with fail
      go_ret
      exact ⟨ret_bool (by rw [e.out]), rfl⟩
    · have e := Lib.hid (show widB wd = false from decide_eq_false (fun h => h7 h.2))
      have d : decide (wd ≤ 7) = false := decide_eq_false h7
      go_enter Try.func26, Try.ntmps26
      go_wp2_with fail
      go_ret
      exact ⟨ret_bool (by rw [e.out]), rfl⟩
  · have e := Lib.hid (show widB wd = false from decide_eq_false (fun h => h1 h.1))
    have d : decide (1 ≤ wd) = false := decide_eq_false h1
    go_enter Try.func26, Try.ntmps26
    go_wp2_with fail
    go_ret
    exact ⟨ret_bool (by rw [e.out]), rfl⟩

theorem pow256 (k : Nat) : (256 : Int) ^ k = ((256 ^ k : Nat) : Int) := by rw [Int.natCast_pow]; rfl
theorem pow256' (k : Nat) : 256 ^ k = 2 ^ (8 * k) := by rw [Nat.pow_mul]

theorem fit_div (k x : Nat) (h1 : 1 ≤ k) (h7 : k ≤ 7) : fitB (k : Int) (x : Int) = (((x : Int) / 2 ^ (8 * k)) == 0) := by
  have hp : 0 < 2 ^ (8 * k) := Nat.pow_pos (by decide)
  have e : ((x : Int) / 2 ^ (8 * k)) = ((x / 2 ^ (8 * k) : Nat) : Int) := by rw [Int.natCast_ediv, Int.natCast_pow]; rfl
  rw [e, Bool.eq_iff_iff]
  unfold fitB
  rw [decide_eq_true_iff, beq_iff_eq, Int.toNat_natCast, pow256, pow256']
  constructor
  · intro h
    have : x < 2 ^ (8 * k) := by omega
    rw [Nat.div_eq_of_lt this]; rfl
  · intro h
    have h' : x / 2 ^ (8 * k) = 0 := by omega
    have := (Nat.div_eq_zero_iff).1 h'
    omega

set_option maxHeartbeats 400000 in
theorem fits_any (wd v : Int) (w : World) :
    Calls Try.prog 22 #[.int .i64 wd, .int .i64 v] w fun e w' => e = .returned (.bool (fitB wd v)) ∧ w = w' := by
  by_cases hw : 1 ≤ wd ∧ wd ≤ 7
  · have e := Lib.hid (show widB wd = true from decide_eq_true hw)
    by_cases h0 : 0 ≤ v
    · obtain ⟨k, rfl⟩ : ∃ k : Nat, wd = k := ⟨wd.toNat, by omega⟩
      obtain ⟨x, rfl⟩ : ∃ x : Nat, v = x := ⟨v.toNat, by omega⟩
      have hk1 : 1 ≤ k := by omega
      have hk7 : k ≤ 7 := by omega
      have hf := Lib.hid (fit_div k x hk1 hk7)
      clear hw
      go_enter Try.func22, Try.ntmps22
      go_wp2_with (go_at_call 26; refine (isWidth_any _ _).mono ?_; rintro e' w' ⟨rfl, rfl⟩; rw [e.out])
      go_ret
      exact ⟨ret_bool (by rw [hf.out]), rfl⟩
    · have hf := Lib.hid (show fitB wd v = false from decide_eq_false (fun h => h0 h.2.2.1))
      have d : decide (0 ≤ v) = false := decide_eq_false h0
      clear hw
      go_enter Try.func22, Try.ntmps22
      go_wp2_with (go_at_call 26; refine (isWidth_any _ _).mono ?_; rintro e' w' ⟨rfl, rfl⟩; rw [e.out])
      go_ret
      exact ⟨ret_bool (by rw [hf.out]), rfl⟩
  · have e := Lib.hid (show widB wd = false from decide_eq_false hw)
    have hf := Lib.hid (show fitB wd v = false from decide_eq_false (fun h => hw ⟨h.1, h.2.1⟩))
    clear hw
    go_enter Try.func22, Try.ntmps22
    go_wp2_with (go_at_call 26; refine (isWidth_any _ _).mono ?_; rintro e' w' ⟨rfl, rfl⟩; rw [e.out])
    go_ret
    exact ⟨ret_bool (by rw [hf.out]), rfl⟩

theorem p256_le (k : Nat) (h : k ≤ 7) : 256 ^ k ≤ 72057594037927936 := Nat.le_trans (Nat.pow_le_pow_right (by decide) h) (by decide)

set_option maxHeartbeats 400000 in
theorem power_any (n : Nat) (w : World) (h : n ≤ 7) :
    Calls Try.prog 23 #[.int .i64 n] w fun e w' => e = .returned (.int .i64 (256 ^ n : Nat)) ∧ w = w' := by
  go_enter Try.func23, Try.ntmps23
  go_wp2_with fail
  go_loop [3, 4] (fun p i => ∃ k : Nat, k ≤ n ∧ i = .int .i64 k ∧ p = .int .i64 (256 ^ k : Nat)) (fun _ i => n - (intOf i).toNat)
  case atStart => exact ⟨0, Nat.zero_le _, rfl, rfl⟩
  case round =>
    obtain ⟨k, hk, rfl, rfl⟩ := hrel
    by_cases hlt : k < n
    · have hp := p256_le k (by omega)
      have hp1 := p256_le (k + 1) (by omega)
      have hs := Lib.hid (Nat.pow_succ 256 k)
      rw [hs.out] at hp1
      generalize 256 ^ k = x at *
      go_wp2_with fail
      go_round
      case rel => exact ⟨k + 1, by omega, by go_num, by rw [hs.out]; go_num⟩
      case measure => simp [intOf]; omega
    · obtain rfl : k = n := by omega
      obtain ⟨x, hx⟩ : ∃ x, x = 256 ^ k := ⟨_, rfl⟩
      rw [← hx]
      have Hx := Lib.hid hx
      clear hx
      go_wp2_with fail
      go_ret
      exact ⟨ret_int (by rw [Hx.out]; exact (pow256 k).symm), rfl⟩

theorem fit_pow (k x : Nat) (h1 : 1 ≤ k) (h7 : k ≤ 7) : fitB (k : Int) (x : Int) = decide ((x : Int) ≤ ((256 ^ k : Nat) : Int) - 1) := by
  unfold fitB
  rw [Bool.eq_iff_iff, decide_eq_true_iff, decide_eq_true_iff, Int.toNat_natCast, pow256]
  omega

set_option maxHeartbeats 400000 in
theorem rfits_any (wd v : Int) (w : World) :
    Calls Try.prog 11 #[.int .i64 wd, .int .i64 v] w fun e w' => e = .returned (.bool (fitB wd v)) ∧ w = w' := by
  by_cases h1 : 1 ≤ wd
  · by_cases h7 : wd ≤ 7
    · by_cases h0 : 0 ≤ v
      · obtain ⟨k, rfl⟩ : ∃ k : Nat, wd = k := ⟨wd.toNat, by omega⟩
        obtain ⟨x, rfl⟩ : ∃ x : Nat, v = x := ⟨v.toNat, by omega⟩
        have hk1 : 1 ≤ k := by omega
        have hk7 : k ≤ 7 := by omega
        have hf := Lib.hid (fit_pow k x hk1 hk7)
        have hp := p256_le k hk7
        have hC := Lib.hid (fun w' => power_any k w' hk7)
        generalize 256 ^ k = y at *
        go_enter Try.func11, Try.ntmps11
        go_wp2_with (go_at_call 23; refine (hC.out _).mono ?_; rintro e' w' ⟨rfl, rfl⟩)
        go_ret
        exact ⟨ret_bool (by rw [hf.out]), rfl⟩
      · have hf := Lib.hid (show fitB wd v = false from decide_eq_false (fun h => h0 h.2.2.1))
        have d : decide (0 ≤ v) = false := decide_eq_false h0
        go_enter Try.func11, Try.ntmps11
        go_wp2_with fail
        go_ret
        exact ⟨ret_bool (by rw [hf.out]), rfl⟩
    · have hf := Lib.hid (show fitB wd v = false from decide_eq_false (fun h => h7 h.2.1))
      have d : decide (wd ≤ 7) = false := decide_eq_false h7
      go_enter Try.func11, Try.ntmps11
      go_wp2_with fail
      go_ret
      exact ⟨ret_bool (by rw [hf.out]), rfl⟩
  · have hf := Lib.hid (show fitB wd v = false from decide_eq_false (fun h => h1 h.1))
    have d : decide (1 ≤ wd) = false := decide_eq_false h1
    go_enter Try.func11, Try.ntmps11
    go_wp2_with fail
    go_ret
    exact ⟨ret_bool (by rw [hf.out]), rfl⟩

/-- The least width: k bytes. -/
def LeastW (v : Int) (k : Nat) : Prop := (1 ≤ k ∧ k ≤ 7 ∧ fitB (k : Int) v = true ∧ ∀ j : Nat, 1 ≤ j → j < k → fitB (j : Int) v = false) ∨ (k = 8 ∧ ∀ j : Nat, 1 ≤ j → j < 8 → fitB (j : Int) v = false)
/-- What Width tells. -/
def WidthPost (v : Int) (w : World) (e : Ending) (w' : World) : Prop := ∃ k : Nat, e = .returned (.int .i64 (k : Nat)) ∧ LeastW v k ∧ w = w'

set_option maxHeartbeats 400000 in
theorem width_any (v : Int) (w : World) :
    Calls Try.prog 21 #[.int .i64 v] w (WidthPost v w) := by
  go_enter Try.func21, Try.ntmps21
  go_wp2_with fail
  go_loop [4] (fun i => ∃ k : Nat, k ≤ 7 ∧ i = .int .i64 k ∧ ∀ j : Nat, 1 ≤ j → j < k + 1 → fitB (j : Int) v = false) (fun i => 7 - (intOf i).toNat)
  case atStart => exact ⟨0, Nat.zero_le _, rfl, fun j h1 h2 => by omega⟩
  case round =>
    obtain ⟨k, hk, rfl, hn⟩ := hrel
    have Hn := Lib.hid hn
    clear hn
    by_cases hlt : k < 7
    · have hd : decide ((k : Int) < 7) = true := decide_eq_true (by omega)
      cases hf : fitB ((k : Int) + 1) v with
      | true =>
        have Hf := Lib.hid hf
        clear hf
        go_wp2_with (go_at_call 22; refine (fits_any _ _ _).mono ?_; rintro e' w' ⟨rfl, rfl⟩; rw [Hf.out])
        go_ret
        exact ⟨k + 1, ret_int (by omega), .inl ⟨by omega, by omega, by exact_mod_cast Hf.out, Hn.out⟩, rfl⟩
      | false =>
        have Hf := Lib.hid hf
        clear hf
        go_wp2_with (go_at_call 22; refine (fits_any _ _ _).mono ?_; rintro e' w' ⟨rfl, rfl⟩; rw [Hf.out])
        go_round
        case rel =>
          refine ⟨k + 1, by omega, by go_num, fun j h1 h2 => ?_⟩
          by_cases hj : j < k + 1
          · exact Hn.out j h1 hj
          · obtain rfl : j = k + 1 := by omega
            exact_mod_cast Hf.out
        case measure => simp [intOf]; omega
    · obtain rfl : k = 7 := by omega
      go_wp2_with fail
      go_ret
      exact ⟨8, rfl, .inr ⟨rfl, Hn.out⟩, rfl⟩

end Go.Proofs.Ytamenbchebfplaa
