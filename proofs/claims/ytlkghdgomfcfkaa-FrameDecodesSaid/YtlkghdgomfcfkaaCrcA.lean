/-
  Contracts of layer 1's calls (crc): halve, goOn, New, Raw, Step, Sum.
-/
import Derived.Test.YtlkghdgomfcfkaaBaseA
import Derived.WalkKit
import Derived.WalkSpells
import Derived.WalkLawsBesides
import Derived.Lib.Hide
import Derived.Laws.BitsAllLaws
namespace Go.Proofs.Ytlkghdgomfcfkaa
open Go.RowKit CrcM
set_option linter.unusedVariables false
set_option linter.unnecessarySimpa false
set_option linter.unusedSimpArgs false

theorem ret_u32 {a b : Int} (h : a = b) : Ending.returned (.int .u32 a) = .returned (.int .u32 b) := by rw [h]

theorem and1 (r : Nat) (h : r < 4294967296) : bits BinOp.and IntKind.u32 (r : Int) 1 = ((r % 2 : Nat) : Int) := by
  have e := u32_and_nat r 1 h (by decide)
  rw [show ((1 : Nat) : Int) = 1 from rfl] at e
  rw [e, Nat.and_one_is_mod]

theorem hv_even {r : Nat} (h : r % 2 = 0) : hv r = r / 2 := by unfold hv; rw [if_neg (by omega)]

theorem hv_odd {r : Nat} (h : r % 2 = 1) : hv r = (r / 2) ^^^ poly := by unfold hv; rw [if_pos h]

theorem xor_poly (r : Nat) (h : r < 4294967296) : bits BinOp.xor IntKind.u32 ((r : Int) / 2) 2197175160 = (((r / 2) ^^^ poly : Nat) : Int) := by
  have e := u32_xor_nat (r / 2) 2197175160 (by omega) (by decide)
  rw [show ((2197175160 : Nat) : Int) = 2197175160 from rfl, show ((r / 2 : Nat) : Int) = (r : Int) / 2 from by omega] at e
  rw [e]; rfl

set_option maxHeartbeats 400000 in
theorem halve_any (r : Nat) (w : World) (h : r < 4294967296) :
    Calls Try.prog 21 #[.int .u32 r] w fun e w' => e = .returned (.int .u32 (hv r : Nat)) ∧ w = w' := by
  rcases Nat.mod_two_eq_zero_or_one r with h0 | h1
  · have ht : (bits BinOp.and IntKind.u32 (r : Int) 1 == 1) = false := by rw [and1 r h, h0]; rfl
    have hr := Lib.hid (hv_even h0)
    clear h0
    go_enter Try.func21, Try.ntmps21
    go_wp2_with fail
    go_ret
    exact ⟨ret_u32 (by rw [hr.out]; omega), rfl⟩
  · have ht : (bits BinOp.and IntKind.u32 (r : Int) 1 == 1) = true := by rw [and1 r h, h1]; rfl
    have hr := Lib.hid (hv_odd h1)
    clear h1
    go_enter Try.func21, Try.ntmps21
    go_wp2_with fail
    go_ret
    exact ⟨ret_u32 (by rw [hr.out]; exact xor_poly r h), rfl⟩

/-- The table's cells. -/
def TabAt (w : World) (tb : Nat) : Prop := ∀ i : Nat, i < 256 → w.cell? ⟨tb, i, none⟩ = some (.int .u32 (tw i : Nat))

theorem xor8 (t c : Nat) (hc : c < 256) : bits BinOp.xor IntKind.u8 ((t : Int) % 256) (c : Int) = (((t % 256) ^^^ c : Nat) : Int) := by
  have e := u8_xor_nat (t % 256) c (Nat.mod_lt _ (by decide)) hc
  rw [show ((t % 256 : Nat) : Int) = (t : Int) % 256 from by omega] at e
  exact e

theorem xor32 (v t : Nat) (hv : v < 4294967296) (ht : t < 4294967296) : bits BinOp.xor IntKind.u32 (v : Int) ((t : Int) / 256) = ((v ^^^ (t / 256) : Nat) : Int) := by
  have e := u32_xor_nat v (t / 256) hv (by omega)
  rw [show ((t / 256 : Nat) : Int) = (t : Int) / 256 from by omega] at e
  exact e

theorem x8_lt (t c : Nat) (hc : c < 256) : (t % 256) ^^^ c < 256 := Nat.xor_lt_two_pow (n := 8) (Nat.mod_lt _ (by decide)) hc

theorem go_zero (tb : Nat) (r : Nat) (a : Option Addr) (cap : Nat) (w : World) :
    Calls Try.prog 44 #[.pointer (some ⟨tb, 0, none⟩), .int .u32 r, .slice a 0 cap] w fun e w' => e = .returned (.int .u32 r) ∧ w = w' := by
  go_enter Try.func44, Try.ntmps44
  go_wp2_with fail
  refine wp_loop_rounds 1 ?_
  rw [rounds_succ]
  go_wp2_with fail
  go_ret
  exact ⟨rfl, rfl⟩

set_option maxRecDepth 100000 in
set_option maxHeartbeats 400000 in
theorem go_some (tb : Nat) (r : Nat) (b off len cap : Nat) (bs : List Nat) (w : World) (hr : r < 4294967296) (hl : bs.length = len) (hc : len ≤ cap) (hm : cap ≤ 9223372036854775807)
    (hb : ∀ c ∈ bs, c < 256) (hcell : ∀ i, i < len → w.cell? ⟨b, off + i, none⟩ = some (.int .u8 (bs.getD i 0 : Nat))) (ht : ∀ i : Nat, i < 256 → w.cell? ⟨tb, i, none⟩ = some (.int .u32 (tw i : Nat))) :
    Calls Try.prog 44 #[.pointer (some ⟨tb, 0, none⟩), .int .u32 r, .slice (some ⟨b, off, none⟩) len cap] w fun e w' => e = .returned (.int .u32 (ovr r bs : Nat)) ∧ w = w' := by
  have Hl := Lib.hid hl
  have Ht := Lib.hid ht
  have Hcell := Lib.hid hcell
  have Hb := Lib.hid hb
  clear hl ht hcell hb
  go_enter Try.func44, Try.ntmps44
  go_wp2_with fail
  go_loop [1, 8, 11] (fun t u i => ∃ k : Nat, k ≤ len ∧ i = .int .i64 k ∧ t = .int .u32 (ovr r (bs.take k) : Nat)) (fun _ _ i => len - (intOf i).toNat)
  case atStart => exact ⟨0, Nat.zero_le _, rfl, rfl⟩
  case round =>
    obtain ⟨k, hk, rfl, rfl⟩ := hrel
    by_cases hlt : k < len
    · have hck := Hcell.out k hlt
      have hT0 : ovr r (bs.take k) < 4294967296 := ovr_lt _ hr (fun c hc => Hb.out c (List.mem_of_mem_take hc))
      have hC0 : bs.getD k 0 < 256 := getD_lt Hb.out k
      have hN : Hid (ovr r (bs.take (k + 1)) = gst (ovr r (bs.take k)) (bs.getD k 0)) := Lib.hid (by
        rw [take_snoc_nat bs k (by rw [Hl.out]; exact hlt), ovr_snoc, gst_stp])
      generalize hT : ovr r (bs.take k) = t at *
      generalize hC : bs.getD k 0 = c at *
      have HT := Lib.hid hT
      have HC := Lib.hid hC
      clear hT hC
      obtain ⟨j, hj⟩ : ∃ j, j = (t % 256) ^^^ c := ⟨_, rfl⟩
      have hj256 : j < 256 := by rw [hj]; exact x8_lt t c hC0
      have hx : bits BinOp.xor IntKind.u8 ((t : Int) % 256) (c : Int) = (j : Int) := by rw [hj]; exact xor8 t c hC0
      have hcj := Ht.out j hj256
      have hv0 : tw j < 4294967296 := tw_lt hj256
      have Hj := Lib.hid hj
      clear hj
      generalize hV : tw j = v at *
      have HV := Lib.hid hV
      clear hV
      go_wp2_with fail
      go_round
      case rel =>
        refine ⟨k + 1, by omega, by go_num, ?_⟩
        rw [hN.out, xor32 v t hv0 hT0]
        unfold gst
        rw [← Hj.out, HV.out]
      case measure => simp [intOf]; omega
    · go_wp2_with fail
      go_ret
      exact ⟨ret_u32 (by rw [List.take_of_length_le (by rw [Hl.out]; omega)]), rfl⟩

theorem go_any (tb : Nat) (r : Nat) (a : Option Addr) (len cap : Nat) (bs : List Nat) (w : World) (hr : r < 4294967296) (hb : RowB w a len cap bs) (ht : TabAt w tb) :
    Calls Try.prog 44 #[.pointer (some ⟨tb, 0, none⟩), .int .u32 r, .slice a len cap] w fun e w' => e = .returned (.int .u32 (ovr r bs : Nat)) ∧ w = w' := by
  obtain ⟨hl, hc, hm, hbs, hcell, _⟩ := hb
  by_cases h0 : len = 0
  · subst h0
    have : bs = [] := List.length_eq_zero_iff.1 hl
    subst this
    exact go_zero tb r a cap w
  · obtain ⟨b, off, rfl, hcell'⟩ := hcell (by omega)
    exact go_some tb r b off len cap bs w hr hl hc (by unfold maxLen at hm; omega) hbs hcell' ht

end Go.Proofs.Ytlkghdgomfcfkaa
