/-
  Contracts of layer 2 (codec), first part: widths; and of the document's own answers Power, Fits.
-/
import Derived.Test.YtdjnfikacjfkkaaBaseA
namespace Go.Proofs.Ytdjnfikacjfkkaa
open Go.RowKit CrcM
set_option linter.unusedVariables false
set_option linter.unnecessarySimpa false
set_option linter.unusedSimpArgs false

/-- Is it a width? -/
def widB (wd : Int) : Bool := decide (1 ≤ wd ∧ wd ≤ 7)
/-- Is it a number in so many bytes? -/
def fitB (wd v : Int) : Bool := decide (1 ≤ wd ∧ wd ≤ 7 ∧ 0 ≤ v ∧ v < 256 ^ wd.toNat)

theorem isWidth_any (wd : Int) (w : World) :
    Calls Try.prog 38 #[.int .i64 wd] w fun e w' => e = .returned (.bool (widB wd)) ∧ w = w' := by
  by_cases h1 : 1 ≤ wd
  · by_cases h7 : wd ≤ 7
    · have e := Lib.hid (show widB wd = true from decide_eq_true ⟨h1, h7⟩)
      go_enter Try.func38, Try.ntmps38
      go_wp2_with fail
      go_ret
      exact ⟨ret_bool (by rw [e.out]), rfl⟩
    · have e := Lib.hid (show widB wd = false from decide_eq_false (fun h => h7 h.2))
      have d : decide (wd ≤ 7) = false := decide_eq_false h7
      go_enter Try.func38, Try.ntmps38
      go_wp2_with fail
      go_ret
      exact ⟨ret_bool (by rw [e.out]), rfl⟩
  · have e := Lib.hid (show widB wd = false from decide_eq_false (fun h => h1 h.1))
    have d : decide (1 ≤ wd) = false := decide_eq_false h1
    go_enter Try.func38, Try.ntmps38
    go_wp2_with fail
    go_ret
    exact ⟨ret_bool (by rw [e.out]), rfl⟩

theorem pow256 (k : Nat) : (256 : Int) ^ k = ((256 ^ k : Nat) : Int) := by rw [Int.natCast_pow]; rfl
theorem pow256' (k : Nat) : 256 ^ k = 2 ^ (8 * k) := by rw [Nat.pow_mul]

theorem fit_div (k x : Nat) (h1 : 1 ≤ k) (h7 : k ≤ 7) : fitB (k : Int) (x : Int) = (((x : Int) / 2 ^ (8 * k)) == 0) := by
  have hp : 0 < 2 ^ (8 * k) := Nat.pow_pos (by decide)
  have e : ((x : Int) / 2 ^ (8 * k)) = ((x / 2 ^ (8 * k) : Nat) : Int) := by rw [Int.natCast_ediv, Int.natCast_pow]; rfl
  rw [e, Bool.eq_iff_iff]
  unfold fitB
  rw [decide_eq_true_iff, beq_iff_eq, Int.toNat_natCast, pow256, pow256']
  constructor
  · intro h
    have : x < 2 ^ (8 * k) := by omega
    rw [Nat.div_eq_of_lt this]; rfl
  · intro h
    have h' : x / 2 ^ (8 * k) = 0 := by omega
    have := (Nat.div_eq_zero_iff).1 h'
    omega

set_option maxHeartbeats 400000 in
theorem fits_any (wd v : Int) (w : World) :
    Calls Try.prog 36 #[.int .i64 wd, .int .i64 v] w fun e w' => e = .returned (.bool (fitB wd v)) ∧ w = w' := by
  by_cases hw : 1 ≤ wd ∧ wd ≤ 7
  · have e := Lib.hid (show widB wd = true from decide_eq_true hw)
    by_cases h0 : 0 ≤ v
    · obtain ⟨k, rfl⟩ : ∃ k : Nat, wd = k := ⟨wd.toNat, by omega⟩
      obtain ⟨x, rfl⟩ : ∃ x : Nat, v = x := ⟨v.toNat, by omega⟩
      have hk1 : 1 ≤ k := by omega
      have hk7 : k ≤ 7 := by omega
      have hf := Lib.hid (fit_div k x hk1 hk7)
      clear hw
      go_enter Try.func36, Try.ntmps36
      go_wp2_with (go_at_call 38; refine (isWidth_any _ _).mono ?_; rintro e' w' ⟨rfl, rfl⟩; rw [e.out])
      go_ret
      exact ⟨ret_bool (by rw [hf.out]), rfl⟩
    · have hf := Lib.hid (show fitB wd v = false from decide_eq_false (fun h => h0 h.2.2.1))
      have d : decide (0 ≤ v) = false := decide_eq_false h0
      clear hw
      go_enter Try.func36, Try.ntmps36
      go_wp2_with (go_at_call 38; refine (isWidth_any _ _).mono ?_; rintro e' w' ⟨rfl, rfl⟩; rw [e.out])
      go_ret
      exact ⟨ret_bool (by rw [hf.out]), rfl⟩
  · have e := Lib.hid (show widB wd = false from decide_eq_false hw)
    have hf := Lib.hid (show fitB wd v = false from decide_eq_false (fun h => hw ⟨h.1, h.2.1⟩))
    clear hw
    go_enter Try.func36, Try.ntmps36
    go_wp2_with (go_at_call 38; refine (isWidth_any _ _).mono ?_; rintro e' w' ⟨rfl, rfl⟩; rw [e.out])
    go_ret
    exact ⟨ret_bool (by rw [hf.out]), rfl⟩

theorem p256_le (k : Nat) (h : k ≤ 7) : 256 ^ k ≤ 72057594037927936 := Nat.le_trans (Nat.pow_le_pow_right (by decide) h) (by decide)

theorem fit_pow (k x : Nat) (h1 : 1 ≤ k) (h7 : k ≤ 7) : fitB (k : Int) (x : Int) = decide ((x : Int) ≤ ((256 ^ k : Nat) : Int) - 1) := by
  unfold fitB
  rw [Bool.eq_iff_iff, decide_eq_true_iff, decide_eq_true_iff, Int.toNat_natCast, pow256]
  omega

/-- The least width: k bytes. -/
def LeastW (v : Int) (k : Nat) : Prop := (1 ≤ k ∧ k ≤ 7 ∧ fitB (k : Int) v = true ∧ ∀ j : Nat, 1 ≤ j → j < k → fitB (j : Int) v = false) ∨ (k = 8 ∧ ∀ j : Nat, 1 ≤ j → j < 8 → fitB (j : Int) v = false)
/-- What Width tells. -/
def WidthPost (v : Int) (w : World) (e : Ending) (w' : World) : Prop := ∃ k : Nat, e = .returned (.int .i64 (k : Nat)) ∧ LeastW v k ∧ w = w'

end Go.Proofs.Ytdjnfikacjfkkaa
