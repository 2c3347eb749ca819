/-
  The walk of EntryFills.
-/
import Derived.Test.YtdjnfikacjfkkaaEntryK
namespace Go.Proofs.Ytdjnfikacjfkkaa
open Go.RowKit CrcM
set_option linter.unusedVariables false
set_option linter.unnecessarySimpa false
set_option linter.unusedSimpArgs false

theorem fillL_at (x j : Nat) (h : j < 32) : (fillL x).getD j 0 = x := by unfold fillL; rw [List.getD, List.getElem?_replicate, if_pos h]; rfl
theorem ebod_at (e : EnR) (j : Nat) (h : e.y.length = 32) (hj : j < 32) : (ebod e).getD (12 + j) 0 = e.y.getD j 0 := by
  have hy := ebod_y e h
  rw [← hy]
  simp [List.getD, List.getElem?_take_of_lt hj, List.getElem?_drop]
theorem zeros_at (n j : Nat) : (zeros n).getD j 0 = 0 := by unfold zeros; rw [List.getD, List.getElem?_replicate]; split <;> rfl
theorem run_slice_44_12 (w : World) (g : Nat) :
    (Instr.sliceAt 26 (.pointer (some ⟨g, 0, none⟩)) (some (.int .i64 12)) none none).run Try.prog w = .ok (.slice (some ⟨g, 12, none⟩) 32 32) w := by
  obtain ⟨i0, hi, hz0, hz1, hz2⟩ := info_parts Try.infoByte
  simp [Instr.sliceAt, Instr.sureAddr, Instr.sliceBounds, Instr.sliceBound, run_underlying Try.underlying26, asIntOf, sizeOf, typeInfo, hi, hz1, Addr.add]

/-- The law's entry. -/
def enT (b m : Int) : EnR := ⟨2, 0, 1, b, m, 0, zeros 32⟩
theorem enT_len (b m : Int) : (enT b m).y.length = 32 := zeros_length 32
theorem enT_lt (b m : Int) : ∀ c ∈ (enT b m).y, c < 256 := zeros_lt 32
theorem enT_right (b m : Int) : rB (enT b m) = true ↔ (0 ≤ b ∧ b ≤ 255) ∧ 1 ≤ m ∧ m ≤ 256 - b := by
  rw [rB_iff]
  show ((0 : Int) ≤ 0 ∧ (0 : Int) ≤ 281474976710655) ∧ (0 ≤ b ∧ b ≤ 255) ∧ ((0 : Int) ≤ 0 ∧ (0 : Int) ≤ 65535) ∧ (((2 : Int) = 1 ∧ ((1 : Int) ≤ 1 ∧ (1 : Int) ≤ 4) ∧ m = 0) ∨ ((2 : Int) = 2 ∧ (1 : Int) = 1 ∧ (1 ≤ m ∧ m ≤ 256 - b) ∧ zeros 32 = zeros 32) ∨ ((2 : Int) = 3 ∧ (1 : Int) = 1 ∧ m = 0)) ↔ _
  constructor
  · rintro ⟨_, h, _, h2 | h2 | h2⟩
    · omega
    · exact ⟨h, h2.2.2.1⟩
    · omega
  · rintro ⟨h, h2⟩
    exact ⟨by omega, h, by omega, .inr (.inl ⟨rfl, rfl, h2, rfl⟩)⟩

set_option maxRecDepth 100000 in
set_option maxHeartbeats 4000000 in
theorem walkFills_nat (x : Nat) (b m : Int) (w : World) (hx : x < 256) (hb1 : -9223372036854775808 ≤ b) (hb2 : b ≤ 9223372036854775807) :
    Calls Try.prog 8 #[.int .u8 (x : Nat), .int .i64 b, .int .i64 m] w fun en w' => en = .returned (.bool true) ∧ Below w.heap.size w w' := by
  have hz := zero_block
  have hz2 := zero_44
  go_enter Try.func8, Try.ntmps8
  go_wp2_with fail
  refine (anchor4_any _).mono ?_
  rintro en w1 ⟨rfl, hb1'⟩
  go_wp2_with fail
  refine (efill_any x _ hx).mono ?_
  rintro en w2 ⟨rfl, hb2'⟩
  have HN : Hid (Blk (w2.alloc (Obj.cells (bA (fillL x)) 23)) w2.heap.size 23 (bA (fillL x))) := Lib.hid (Blk.new _ _ _)
  have HB3 : Hid (Below w.heap.size w (w2.alloc (Obj.cells (bA (fillL x)) 23))) := Lib.hid (bthen (bthen hb1' hb2') (below_alloc _ _))
  clear hb1' hb2'
  go_wp2_with (first | (refine wpl_store_new rfl _ _ rfl (bA (fillL x)) w2 23 (bA (zeros 32)) rfl rfl rfl (info_block (fillL_len x)) ((bA_size _).trans ((zeros_length 32).trans ((bA_size _).trans (fillL_len x)).symm)) (bA_one _) ?_; go_frame) | (refine wpl_load rfl _ rfl (w2.heap.size) rfl _ _ _ HN.out Try.underlying23 rfl (info_block (fillL_len x)) ?_; go_frame))
  clear hz HN
  generalize w2.alloc (Obj.cells (bA (fillL x)) 23) = w3 at *
  go_loopw [9, 19] (fun _ i wr => ∃ j : Nat, j ≤ 32 ∧ i = .int .i64 j ∧ Below w3.heap.size w3 wr) (fun _ i _ => 32 - (intOf i).toNat)
  case atStart => exact ⟨0, Nat.zero_le _, rfl, Below.refl _ _⟩
  case round =>
    obtain ⟨j, hj, rfl, hbw⟩ := hrel
    have HBw := Lib.hid hbw
    clear hbw
    by_cases hlt : j < 32
    · have hi := fun w => run_index_bl w (fillL x) j hlt (fillL_len x)
      simp only [fillL_at x j hlt] at hi
      go_wp2_with fail
      go_roundw
      case rel => exact ⟨j + 1, by omega, by go_num, HBw.out⟩
      case measure => simp [intOf]; omega
    · obtain rfl : j = 32 := by omega
      have HB3' := Lib.hid (bthen HB3.out HBw.out)
      clear HB3 HBw
      go_wp2_with (first | (refine wpl_build (by kernel_rfl) 25 _ rfl (.agg (enA (enT b m))) (fun _ => by kernel_rfl) ?_; go_frame))
      refine (body_any (enT b m) _ (enT_len b m) (enT_lt b m)).mono ?_
      rintro en w4 ⟨rfl, hb4⟩
      have HB4 := Lib.hid (bthen HB3'.out hb4)
      clear hb4 HB3'
      by_cases h1 : b < 0
      · have d1 : decide (b < 0) = true := decide_eq_true h1
        have hrf : rB (enT b m) = false := by rw [Bool.eq_false_iff]; intro h; rw [enT_right] at h; omega
        rw [bodV_bad hrf, bodE_bad hrf]
        clear hrf
        go_wp2_with (first | (refine wpl_store_new rfl _ _ rfl (bA (zeros 44)) w4 26 (bA (zeros 44)) rfl rfl rfl (info_44 (zeros_length 44)) ((bA_size _).trans ((zeros_length 44).trans ((bA_size _).trans (zeros_length 44)).symm)) (bA_one _) ?_; go_frame))
        go_ret
        exact ⟨rfl, bthen HB4.out (below_alloc _ _)⟩
      by_cases h2 : 255 < b
      · have d1 : decide (b < 0) = false := decide_eq_false h1
        have d2 : decide (255 < b) = true := decide_eq_true h2
        have hrf : rB (enT b m) = false := by rw [Bool.eq_false_iff]; intro h; rw [enT_right] at h; omega
        rw [bodV_bad hrf, bodE_bad hrf]
        clear hrf
        go_wp2_with (first | (refine wpl_store_new rfl _ _ rfl (bA (zeros 44)) w4 26 (bA (zeros 44)) rfl rfl rfl (info_44 (zeros_length 44)) ((bA_size _).trans ((zeros_length 44).trans ((bA_size _).trans (zeros_length 44)).symm)) (bA_one _) ?_; go_frame))
        go_ret
        exact ⟨rfl, bthen HB4.out (below_alloc _ _)⟩
      by_cases h3 : m < 1
      · have d1 : decide (b < 0) = false := decide_eq_false h1
        have d2 : decide (255 < b) = false := decide_eq_false h2
        have d3 : decide (m < 1) = true := decide_eq_true h3
        have hrf : rB (enT b m) = false := by rw [Bool.eq_false_iff]; intro h; rw [enT_right] at h; omega
        rw [bodV_bad hrf, bodE_bad hrf]
        clear hrf
        go_wp2_with (first | (refine wpl_store_new rfl _ _ rfl (bA (zeros 44)) w4 26 (bA (zeros 44)) rfl rfl rfl (info_44 (zeros_length 44)) ((bA_size _).trans ((zeros_length 44).trans ((bA_size _).trans (zeros_length 44)).symm)) (bA_one _) ?_; go_frame))
        go_ret
        exact ⟨rfl, bthen HB4.out (below_alloc _ _)⟩
      have hwr : IntKind.i64.wrap (256 - b) = 256 - b := by rw [IntKind.wrap_i64]; omega
      by_cases h4 : 256 - b < m
      · have d1 : decide (b < 0) = false := decide_eq_false h1
        have d2 : decide (255 < b) = false := decide_eq_false h2
        have d3 : decide (m < 1) = false := decide_eq_false h3
        have d4 : decide (256 - b < m) = true := decide_eq_true h4
        have hrf : rB (enT b m) = false := by rw [Bool.eq_false_iff]; intro h; rw [enT_right] at h; omega
        rw [bodV_bad hrf, bodE_bad hrf]
        clear hrf
        go_wp2_with (first | (refine wpl_store_new rfl _ _ rfl (bA (zeros 44)) w4 26 (bA (zeros 44)) rfl rfl rfl (info_44 (zeros_length 44)) ((bA_size _).trans ((zeros_length 44).trans ((bA_size _).trans (zeros_length 44)).symm)) (bA_one _) ?_; go_frame))
        go_ret
        exact ⟨rfl, bthen HB4.out (below_alloc _ _)⟩
      have hrt : rB (enT b m) = true := by rw [enT_right]; omega
      rw [bodV_ok hrt, bodE_ok hrt]
      have d1 : decide (b < 0) = false := decide_eq_false h1
      have d2 : decide (255 < b) = false := decide_eq_false h2
      have d3 : decide (m < 1) = false := decide_eq_false h3
      have d4 : decide (256 - b < m) = false := decide_eq_false h4
      clear hrt h1 h2 h3 h4
      have HLe : Hid ((ebod (enT b m)).length = 44) := Lib.hid (ebod_length (enT_len b m))
      have HZe : Hid (∀ j, j < 32 → (ebod (enT b m)).getD (12 + j) 0 = 0) := Lib.hid (fun j hj => (ebod_at _ j (enT_len b m) hj).trans (zeros_at 32 j))
      generalize ebod (enT b m) = B at *
      have HN5 : Hid (Blk (w4.alloc (Obj.cells (bA B) 26)) w4.heap.size 26 (bA B)) := Lib.hid (Blk.new _ _ _)
      have HB5 : Hid (Below w.heap.size w (w4.alloc (Obj.cells (bA B) 26))) := Lib.hid (bthen HB4.out (below_alloc _ _))
      have s1 := run_slice_44_12
      go_wp2_with (first | (refine wpl_store_new rfl _ _ rfl (bA (B)) w4 26 (bA (zeros 44)) rfl rfl rfl (info_44 HLe.out) ((bA_size _).trans ((zeros_length 44).trans ((bA_size _).trans HLe.out).symm)) (bA_one _) ?_; go_frame))
      clear s1 hwr d1 d2 d3 d4 hz2
      generalize w4.alloc (Obj.cells (bA B) 26) = w5 at *
      go_loopw [13, 53] (fun _ i wr => ∃ j : Nat, j ≤ 32 ∧ i = .int .i64 j ∧ Below w5.heap.size w5 wr) (fun _ i _ => 32 - (intOf i).toNat)
      case atStart => exact ⟨0, Nat.zero_le _, rfl, Below.refl _ _⟩
      case round =>
        obtain ⟨j, hj, rfl, hbw⟩ := hrel
        have HBw := Lib.hid hbw
        clear hbw
        by_cases hlt : j < 32
        · have cb := ((HN5.out.below HBw.out HN5.out.lt).cell (12 + j)).trans (bA_at B (12 + j) (by rw [HLe.out]; omega))
          rw [HZe.out j hlt] at cb
          go_wp2_with fail
          go_roundw
          case rel => exact ⟨j + 1, by omega, by go_num, HBw.out⟩
          case measure => simp [intOf]; omega
        · obtain rfl : j = 32 := by omega
          go_wp2_with fail
          go_ret
          exact ⟨rfl, bthen HB5.out HBw.out⟩

theorem walkEntryFills (x b m : Int) (w : World) (h0 : (Lit.int .u8 x).wf = true) (h1 : (Lit.int .i64 b).wf = true) (h2 : (Lit.int .i64 m).wf = true) :
    Calls Try.prog 8 #[.int .u8 x, .int .i64 b, .int .i64 m] w fun en w' => en = .returned (.bool true) ∧ Below w.heap.size w w' := by
  have hx := bounds_u8 h0
  have hb := bounds_i64 h1
  obtain ⟨n, rfl⟩ : ∃ n : Nat, x = n := ⟨x.toNat, by omega⟩
  exact walkFills_nat n b m w (by omega) hb.1 hb.2

end Go.Proofs.Ytdjnfikacjfkkaa
