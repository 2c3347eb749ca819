/-
  Layer 4 (entry), tenth part: the laws' anchor.
-/
import Derived.Test.YtdjnfikacjfkkaaEntryJ
namespace Go.Proofs.Ytdjnfikacjfkkaa
open Go.RowKit CrcM
set_option linter.unusedVariables false
set_option linter.unnecessarySimpa false
set_option linter.unusedSimpArgs false

theorem run_index_bl (w : World) (ys : List Nat) (k : Nat) (hk : k < 32) (hy : ys.length = 32) :
    (Instr.index 23 (.agg (bA ys)) (.int .i64 k)).run Try.prog w = .ok (.int .u8 (ys.getD k 0 : Nat)) w := by
  obtain ⟨i, hi⟩ := info_of_underlying (P := Try.prog) Try.underlying5
  have hs := run_sizeOf (P := Try.prog) w hi
  rw [Try.cellsByte] at hs
  have p1 := run_part_int (P := Try.prog) w Try.underlying5 (bA_at ys k (by omega))
  have hb : (0 : Int) ≤ k ∧ (k : Int) < (32 : Nat) := by omega
  simp only [Instr.index, asIntOf, Sem.run_bind, Sem.run_pure, Result.andThen_ok, run_underlying Try.underlying23, if_pos hb, hs, Int.toNat_natCast, Nat.mul_one, p1]

/-- The anchor's entry. -/
def enM : EnR := ⟨2, 5, 1, 9, 1, 0, zeros 32⟩
theorem enM_len : enM.y.length = 32 := zeros_length 32
theorem enM_lt : ∀ c ∈ enM.y, c < 256 := zeros_lt 32
theorem enM_right : rB enM = true := by decide +kernel
theorem enM_frame : frmB enM 3 4 1 5 = true := by decide +kernel

theorem run_index_seven : ∀ w : World, (Instr.index 23 (.agg (bA (fillL 7))) (.int .i64 31)).run Try.prog w = .ok (.int .u8 7) w := fun w => by kernel_rfl

set_option maxRecDepth 100000 in
set_option maxHeartbeats 4000000 in
theorem anchor4_any (w : World) :
    Calls Try.prog 9 #[] w fun en w' => en = .returned (.bool true) ∧ Below w.heap.size w w' := by
  have hz := zero_en
  have hz2 := zero_fr
  have HE0 : Hid (Blk (w.alloc (Obj.cells (enA enM) 25)) w.heap.size 25 (enA enM)) := Lib.hid (Blk.new _ _ _)
  have HB0 : Hid (Below w.heap.size w (w.alloc (Obj.cells (enA enM) 25))) := Lib.hid (below_alloc _ _)
  go_enter Try.func9, Try.ntmps9
  go_wp2_with (first | (refine wpl_build (by rfl) 25 _ rfl (.agg (enA enM)) (fun _ => by kernel_rfl) ?_; go_frame) | (refine wpl_store_new rfl _ _ rfl (enA enM) w 25 (enA en0) rfl rfl rfl (info_enA enM_len) ((enA_size en0_len).trans (enA_size enM_len).symm) enA_one ?_; go_frame) | (refine wpl_load rfl _ rfl (w.heap.size) rfl _ _ _ HE0.out Try.underlying25 rfl (info_enA enM_len) ?_; go_frame))
  clear hz
  generalize w.alloc (Obj.cells (enA enM) 25) = w0 at *
  refine (eframe_any enM 3 4 1 5 _ enM_len enM_lt (by decide)).mono ?_
  rintro en w1 ⟨rfl, hb1⟩
  rw [frmE_ok enM_frame]
  obtain ⟨f, hf⟩ : ∃ f, frmV enM 3 4 1 5 = f := ⟨_, rfl⟩
  have hfl : f.b.length = 44 := hf ▸ frmV_len enM_len
  have hfk : f.k = 2 := by rw [← hf, frmV_ok enM_frame]; rfl
  have hfs : f.s = 5 := by rw [← hf, frmV_ok enM_frame]
  rw [hf]
  clear hf
  have HL := Lib.hid hfl
  have HE1 := Lib.hid (HE0.out.below hb1 HE0.out.lt)
  have HB1 := Lib.hid (bthen HB0.out hb1)
  clear hb1 HB0 HE0
  have HF2 : Hid (Blk (w1.alloc (Obj.cells (frA f) 41)) w1.heap.size 41 (frA f)) := Lib.hid (Blk.new _ _ _)
  have HE2 := Lib.hid (HE1.out.alloc (Obj.cells (frA f) 41))
  have HB2 := Lib.hid (bthen HB1.out (below_alloc w1 (Obj.cells (frA f) 41)))
  clear HB1 HE1
  have c0 := (HF2.out.cell 0).trans (frA_at0 f)
  rw [hfk] at c0
  have c4 := (HF2.out.cell 4).trans (frA_at4 f)
  rw [hfs] at c4
  clear hfl hfk hfs
  go_wp2_with (first | (refine wpl_store_new rfl _ _ rfl (frA (f)) w1 41 (frA fr0) rfl rfl rfl (info_frA HL.out) ((frA_size fr0_len).trans (frA_size HL.out).symm) frA_one ?_; go_frame) | (refine wpl_load_g (by rfl) _ rfl (w.heap.size) rfl _ _ _ HE2.out Try.underlying25 rfl (info_enA enM_len) ?_; go_frame))
  clear c0 c4
  generalize w1.alloc (Obj.cells (frA f) 41) = w2 at *
  refine (eright_any enM _ enM_len).mono ?_
  rintro en w3 ⟨rfl, hb3⟩
  rw [enM_right]
  have HB3 := Lib.hid (bthen HB2.out hb3)
  clear hb3 HB2 
  have HIX := Lib.hid run_index_seven
  go_wp2_with fail
  refine (efill_any 7 _ (by decide)).mono ?_
  rintro en w4 ⟨rfl, hb4⟩
  have HB4 := Lib.hid (bthen HB3.out hb4)
  clear hb4 HB3 
  have hix := HIX.out
  go_wp2_with fail
  go_ret
  exact ⟨rfl, HB4.out⟩

end Go.Proofs.Ytdjnfikacjfkkaa
