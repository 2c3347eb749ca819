/-
  Contracts of the document's own answers of layer 1 (step, Over, Sum, Same, Bit), of word, and of the anchor.
-/
import Derived.Test.YtlkghdgomfcfkaaCrcB
import Derived.Deep.QuietTactic
import Derived.BigQuiet
import Derived.Lib.SlBytesConst
namespace Go.Proofs.Ytlkghdgomfcfkaa
open Go.RowKit CrcM
set_option linter.unusedVariables false
set_option linter.unnecessarySimpa false
set_option linter.unusedSimpArgs false

theorem xor32n (a b : Nat) (ha : a < 4294967296) (hb : b < 4294967296) : bits BinOp.xor IntKind.u32 (a : Int) (b : Int) = ((a ^^^ b : Nat) : Int) := u32_xor_nat a b ha hb

theorem xor_half (r : Nat) (h : r < 4294967296) (ho : r % 2 = 1) : bits BinOp.xor IntKind.u32 ((r : Int) / 2) 2197175160 = ((hv r : Nat) : Int) := by
  rw [xor_poly r h, hv_odd ho]

set_option maxHeartbeats 400000 in
theorem rstep_any (r c : Nat) (w : World) (hr : r < 4294967296) (hc : c < 256) :
    Calls Try.prog 45 #[.int .u32 r, .int .u8 c] w fun e w' => e = .returned (.int .u32 (stp r c : Nat)) ∧ w = w' := by
  have hx := xor32n r c hr (by omega)
  have hlt0 : r ^^^ c < 4294967296 := Nat.xor_lt_two_pow (n := 32) hr (by omega)
  have hs0 := Lib.hid (show stp r c = hvs 8 (r ^^^ c) from rfl)
  generalize r ^^^ c = y at *
  generalize stp r c = z at *
  go_enter Try.func45, Try.ntmps45
  go_wp2_with fail
  clear hx
  go_loop [0, 5] (fun t i => ∃ m : Nat, m ≤ 8 ∧ i = .int .i64 m ∧ t = .int .u32 (hvs m y : Nat)) (fun _ i => 8 - (intOf i).toNat)
  case atStart => exact ⟨0, Nat.zero_le _, rfl, rfl⟩
  case round =>
    obtain ⟨m, hm, rfl, rfl⟩ := hrel
    by_cases hlm : m < 8
    · have hx0 : hvs m y < 4294967296 := hvs_lt32 m hlt0
      have hs : Hid (hvs (m + 1) y = hv (hvs m y)) := Lib.hid (hvs_succ m y)
      generalize hvs m y = x at *
      rcases Nat.mod_two_eq_zero_or_one x with h0 | h1
      · have ht : ((x : Int) % 2 == 1) = false := by rw [beq_eq_false_iff_ne]; omega
        have hh := Lib.hid (hv_even h0)
        clear h0
        go_wp2_with fail
        go_round
        case rel => exact ⟨m + 1, by omega, by go_num, by rw [hs.out, hh.out]; go_num⟩
        case measure => simp [intOf]; omega
      · have ht : ((x : Int) % 2 == 1) = true := by rw [beq_iff_eq]; omega
        have hh := Lib.hid (xor_half x hx0 h1)
        clear h1
        go_wp2_with fail
        go_round
        case rel => exact ⟨m + 1, by omega, by go_num, by rw [hs.out, hh.out]⟩
        case measure => simp [intOf]; omega
    · obtain rfl : m = 8 := by omega
      go_wp2_with fail
      go_ret
      exact ⟨ret_u32 (by rw [hs0.out]), rfl⟩

set_option maxHeartbeats 400000 in
theorem over_zero (r : Nat) (a : Option Addr) (cap : Nat) (w : World) :
    Calls Try.prog 39 #[.int .u32 r, .slice a 0 cap] w fun e w' => e = .returned (.int .u32 r) ∧ w = w' := by
  go_enter Try.func39, Try.ntmps39
  go_wp2_with fail
  refine wp_loop_rounds 1 ?_
  rw [rounds_succ]
  go_wp2_with fail
  go_ret
  exact ⟨rfl, rfl⟩

set_option maxRecDepth 100000 in
set_option maxHeartbeats 400000 in
theorem over_some (r : Nat) (b off len cap : Nat) (bs : List Nat) (w : World) (hr : r < 4294967296) (hl : bs.length = len) (hc : len ≤ cap) (hm : cap ≤ 9223372036854775807)
    (hb : ∀ c ∈ bs, c < 256) (hcell : ∀ i, i < len → w.cell? ⟨b, off + i, none⟩ = some (.int .u8 (bs.getD i 0 : Nat))) :
    Calls Try.prog 39 #[.int .u32 r, .slice (some ⟨b, off, none⟩) len cap] w fun e w' => e = .returned (.int .u32 (ovr r bs : Nat)) ∧ w = w' := by
  have Hl := Lib.hid hl
  have Hcell := Lib.hid hcell
  have Hb := Lib.hid hb
  clear hl hcell hb
  go_enter Try.func39, Try.ntmps39
  go_wp2_with fail
  go_loop [0, 5] (fun t i => ∃ k : Nat, k ≤ len ∧ i = .int .i64 k ∧ t = .int .u32 (ovr r (bs.take k) : Nat)) (fun _ i => len - (intOf i).toNat)
  case atStart => exact ⟨0, Nat.zero_le _, rfl, rfl⟩
  case round =>
    obtain ⟨k, hk, rfl, rfl⟩ := hrel
    by_cases hlt : k < len
    · have hck := Hcell.out k hlt
      have hT0 : ovr r (bs.take k) < 4294967296 := ovr_lt _ hr (fun c hc => Hb.out c (List.mem_of_mem_take hc))
      have hC0 : bs.getD k 0 < 256 := getD_lt Hb.out k
      have hN : Hid (ovr r (bs.take (k + 1)) = stp (ovr r (bs.take k)) (bs.getD k 0)) := Lib.hid (by
        rw [take_snoc_nat bs k (by rw [Hl.out]; exact hlt), ovr_snoc])
      generalize ovr r (bs.take k) = t at *
      generalize bs.getD k 0 = c at *
      go_wp2_with fail
      refine (rstep_any t c _ hT0 hC0).mono ?_
      rintro e w' ⟨rfl, rfl⟩
      go_wp2_with fail
      go_round
      case rel => exact ⟨k + 1, by omega, by go_num, by rw [hN.out]⟩
      case measure => simp [intOf]; omega
    · go_wp2_with fail
      go_ret
      exact ⟨ret_u32 (by rw [List.take_of_length_le (by rw [Hl.out]; omega)]), rfl⟩

theorem over_any (R : Int) (r : Nat) (hR : R = (r : Int)) (a : Option Addr) (len cap : Nat) (bs : List Nat) (w : World) (hr : r < 4294967296) (hb : RowB w a len cap bs) :
    Calls Try.prog 39 #[.int .u32 R, .slice a len cap] w fun e w' => e = .returned (.int .u32 (ovr r bs : Nat)) ∧ w = w' := by
  subst hR
  obtain ⟨hl, hc, hm, hbs, hcell, _⟩ := hb
  by_cases h0 : len = 0
  · subst h0
    have : bs = [] := List.length_eq_zero_iff.1 hl
    subst this
    exact over_zero r a cap w
  · obtain ⟨b, off, rfl, hcell'⟩ := hcell (by omega)
    exact over_some r b off len cap bs w hr hl hc (by unfold maxLen at hm; omega) hbs hcell'

set_option maxHeartbeats 400000 in
theorem rsum_any (a : Option Addr) (len cap : Nat) (bs : List Nat) (w : World) (hb : RowB w a len cap bs) :
    Calls Try.prog 28 #[.slice a len cap] w fun e w' => e = .returned (.int .u32 (sm bs : Nat)) ∧ w = w' := by
  have hlt : ovr 4294967295 bs < 4294967296 := ovr_lt bs (by decide) hb.lt
  have hs := Lib.hid (show sm bs = 4294967295 - ovr 4294967295 bs from not32 hlt)
  go_enter Try.func28, Try.ntmps28
  go_wp2_with fail
  refine (over_any _ 4294967295 rfl _ _ _ bs _ (by decide) hb).mono ?_
  rintro e w' ⟨rfl, rfl⟩
  generalize ovr 4294967295 bs = x at *
  go_wp2_with fail
  go_ret
  exact ⟨ret_u32 (by rw [hs.out]; omega), rfl⟩

theorem anchor_sum : sm [49, 50, 51, 52, 53, 54, 55, 56, 57] = 3808858755 := by decide +kernel

end Go.Proofs.Ytlkghdgomfcfkaa
