/-
  The walk of EntryFrames.
-/
import Derived.Test.YtdjnfikacjfkkaaEntryL
namespace Go.Proofs.Ytdjnfikacjfkkaa
open Go.RowKit CrcM
set_option linter.unusedVariables false
set_option linter.unnecessarySimpa false
set_option linter.unusedSimpArgs false

set_option maxRecDepth 100000 in
set_option maxHeartbeats 4000000 in
theorem walkFrames_r (e : EnR) (z o ep sq : Int) (w : World) (hl : e.y.length = 32) (hb : ∀ c ∈ e.y, c < 256) (hs : sq ≤ 9223372036854775807) (hr : rB e = false) :
    Calls Try.prog 4 #[.agg (enA e), .int .i64 z, .int .i64 o, .int .i64 ep, .int .i64 sq] w fun en w' => en = .returned (.bool true) ∧ Below w.heap.size w w' := by
  have HL := Lib.hid hl
  have Hb := Lib.hid hb
  have Hs := Lib.hid hs
  have hz0 := zero_fr
  have hz1 := zero_rf
  have hz2 := zero_en
  have HX0 : Hid (Blk (w.alloc (Obj.cells (enA e) 25)) w.heap.size 25 (enA e)) := Lib.hid (Blk.new w 25 (enA e))
  have HB0 : Hid (Below w.heap.size w (w.alloc (Obj.cells (enA e) 25))) := Lib.hid (below_alloc _ _)
  have hh : frmB e z o ep sq = false := by unfold frmB; rw [hr]; rfl
  have Hv := Lib.hid (frmV_bad hh)
  have He := Lib.hid (frmE_bad hh)
  have Hr := Lib.hid hr
  clear hl hb hs hr hh
  go_enter Try.func4, Try.ntmps4
  go_wp2_with fail
  refine (anchor4_any _).mono ?_
  rintro en w1 ⟨rfl, hb1⟩
  have HX1 := Lib.hid (HX0.out.below hb1 HX0.out.lt)
  have HB1 := Lib.hid (bthen HB0.out hb1)
  clear hb1 HB0 HX0
  go_wp2_with (first | (refine wpl_load rfl _ rfl (w.heap.size) rfl _ _ _ HX1.out Try.underlying25 rfl (info_enA HL.out) ?_; go_frame))
  refine (eframe_any e z o ep sq _ HL.out Hb.out Hs.out).mono ?_
  rintro en w2 ⟨rfl, hb2⟩
  rw [Hv.out, He.out]
  have HX2 := Lib.hid (HX1.out.below hb2 HX1.out.lt)
  have HB2 := Lib.hid (bthen HB1.out hb2)
  clear hb2 HB1 HX1
  have HN3 : Hid (Blk (w2.alloc (Obj.cells (frA (fr0)) 41)) w2.heap.size 41 (frA (fr0))) := Lib.hid (Blk.new _ _ _)
  have HX3 := Lib.hid (HX2.out.alloc (Obj.cells (frA (fr0)) 41))
  have HB3 := Lib.hid (bthen HB2.out (below_alloc w2 (Obj.cells (frA (fr0)) 41)))
  clear HB2 HX2
  have HZ3 : Hid ((w2.alloc (Obj.cells (frA (fr0)) 41)).heap.size = w2.heap.size + 1) := Lib.hid (by simp)
  have c0 := (HX3.out.cell 0).trans (enA_at0 e)
  have HX4 := Lib.hid (HX3.out.alloc (Obj.cells (frA ⟨e.k, z, o, ep, sq, zeros 44⟩) 44))
  have HN4 := Lib.hid (HN3.out.alloc (Obj.cells (frA ⟨e.k, z, o, ep, sq, zeros 44⟩) 44))
  have HM4 : Hid (Blk ((w2.alloc (Obj.cells (frA (fr0)) 41)).alloc (Obj.cells (frA ⟨e.k, z, o, ep, sq, zeros 44⟩) 44)) (w2.heap.size + 1) 44 (frA ⟨e.k, z, o, ep, sq, zeros 44⟩)) := Lib.hid (by
    have h := Blk.new (w2.alloc (Obj.cells (frA (fr0)) 41)) 44 (frA ⟨e.k, z, o, ep, sq, zeros 44⟩); rwa [HZ3.out] at h)
  have HB4 := Lib.hid (bthen HB3.out (below_alloc (w2.alloc (Obj.cells (frA (fr0)) 41)) (Obj.cells (frA ⟨e.k, z, o, ep, sq, zeros 44⟩) 44)))
  go_wp2_with (first | (refine wpl_store_new rfl _ _ rfl (frA (fr0)) w2 41 (frA fr0) rfl rfl rfl (info_frA fr0_len) ((frA_size fr0_len).trans (frA_size fr0_len).symm) frA_one ?_; go_frame) | (refine wpl_build (by kernel_rfl) 44 _ rfl (.agg (frA ⟨e.k, z, o, ep, sq, zeros 44⟩)) (fun _ => by kernel_rfl) ?_; go_frame) | (refine wpl_store_new rfl _ _ rfl (frA ⟨e.k, z, o, ep, sq, zeros 44⟩) (w2.alloc (Obj.cells (frA (fr0)) 41)) 44 (frA fr0) rfl (by rw [HZ3.out]; rfl) rfl (info_rfA (zeros_length 44)) ((frA_size fr0_len).trans (frA_size (zeros_length 44)).symm) frA_one ?_; go_frame) | (refine wpl_load rfl _ rfl (w.heap.size) rfl _ _ _ HX4.out Try.underlying25 rfl (info_enA HL.out) ?_; go_frame))
  clear c0 hz1 HX3 HN3 HB3
  generalize (w2.alloc (Obj.cells (frA (fr0)) 41)).alloc (Obj.cells (frA ⟨e.k, z, o, ep, sq, zeros 44⟩) 44) = w4 at *
  refine (of_any e _ HL.out).mono ?_
  rintro en w5 ⟨rfl, hb5⟩
  have HX5 := Lib.hid (HX4.out.below hb5 HX4.out.lt)
  have HN5 := Lib.hid (HN4.out.below hb5 HN4.out.lt)
  have HM5 := Lib.hid (HM4.out.below hb5 HM4.out.lt)
  have HB5 := Lib.hid (bthen HB4.out hb5)
  clear hb5 HB4 HX4 HN4 HM4
  go_wp2_with fail
  refine (rright4_any e _ HL.out).mono ?_
  rintro en w6 ⟨rfl, hb6⟩
  rw [Hr.out]
  have HX6 := Lib.hid (HX5.out.below hb6 HX5.out.lt)
  have HN6 := Lib.hid (HN5.out.below hb6 HN5.out.lt)
  have HM6 := Lib.hid (HM5.out.below hb6 HM5.out.lt)
  have HB6 := Lib.hid (bthen HB5.out hb6)
  clear hb6 HB5 HX5 HN5 HM5
  go_wp2_with (first | (refine wpl_load_g (by rfl) _ rfl (w2.heap.size) rfl _ _ _ HN6.out Try.underlying41 rfl (info_frA fr0_len) ?_; go_frame) | (refine wpl_build (by rfl) 41 _ rfl (.agg (frA fr0)) (fun _ => by kernel_rfl) ?_; go_frame) | (refine wpl_run (by rfl) (.bool true) (exec_eql_frame tyFr _ _ _ rfl (fr0) (fr0) rfl rfl fr0_len fr0_len true (eq_self _)) ?_; go_frame))
  go_ret
  exact ⟨rfl, HB6.out⟩

set_option maxRecDepth 100000 in
set_option maxHeartbeats 4000000 in
theorem walkFrames_f (e : EnR) (z o ep sq : Int) (w : World) (hl : e.y.length = 32) (hb : ∀ c ∈ e.y, c < 256) (hs : sq ≤ 9223372036854775807) (hr : rB e = true) (hf : rightB ⟨e.k, z, o, ep, sq, ebod e⟩ = false) :
    Calls Try.prog 4 #[.agg (enA e), .int .i64 z, .int .i64 o, .int .i64 ep, .int .i64 sq] w fun en w' => en = .returned (.bool true) ∧ Below w.heap.size w w' := by
  have HL := Lib.hid hl
  have Hb := Lib.hid hb
  have Hs := Lib.hid hs
  have hz0 := zero_fr
  have hz1 := zero_rf
  have hz2 := zero_en
  have HX0 : Hid (Blk (w.alloc (Obj.cells (enA e) 25)) w.heap.size 25 (enA e)) := Lib.hid (Blk.new w 25 (enA e))
  have HB0 : Hid (Below w.heap.size w (w.alloc (Obj.cells (enA e) 25))) := Lib.hid (below_alloc _ _)
  have hh : frmB e z o ep sq = false := by unfold frmB; rw [hf]; simp
  have Hv := Lib.hid (frmV_bad hh)
  have He := Lib.hid (frmE_bad hh)
  have Hr := Lib.hid hr
  have Hf : Hid (∀ xs : List Nat, rightB ⟨e.k, z, o, ep, sq, xs⟩ = false) := Lib.hid (fun _ => hf)
  clear hl hb hs hr hh hf
  go_enter Try.func4, Try.ntmps4
  go_wp2_with fail
  refine (anchor4_any _).mono ?_
  rintro en w1 ⟨rfl, hb1⟩
  have HX1 := Lib.hid (HX0.out.below hb1 HX0.out.lt)
  have HB1 := Lib.hid (bthen HB0.out hb1)
  clear hb1 HB0 HX0
  go_wp2_with (first | (refine wpl_load rfl _ rfl (w.heap.size) rfl _ _ _ HX1.out Try.underlying25 rfl (info_enA HL.out) ?_; go_frame))
  refine (eframe_any e z o ep sq _ HL.out Hb.out Hs.out).mono ?_
  rintro en w2 ⟨rfl, hb2⟩
  rw [Hv.out, He.out]
  have HX2 := Lib.hid (HX1.out.below hb2 HX1.out.lt)
  have HB2 := Lib.hid (bthen HB1.out hb2)
  clear hb2 HB1 HX1
  have HN3 : Hid (Blk (w2.alloc (Obj.cells (frA (fr0)) 41)) w2.heap.size 41 (frA (fr0))) := Lib.hid (Blk.new _ _ _)
  have HX3 := Lib.hid (HX2.out.alloc (Obj.cells (frA (fr0)) 41))
  have HB3 := Lib.hid (bthen HB2.out (below_alloc w2 (Obj.cells (frA (fr0)) 41)))
  clear HB2 HX2
  have HZ3 : Hid ((w2.alloc (Obj.cells (frA (fr0)) 41)).heap.size = w2.heap.size + 1) := Lib.hid (by simp)
  have c0 := (HX3.out.cell 0).trans (enA_at0 e)
  have HX4 := Lib.hid (HX3.out.alloc (Obj.cells (frA ⟨e.k, z, o, ep, sq, zeros 44⟩) 44))
  have HN4 := Lib.hid (HN3.out.alloc (Obj.cells (frA ⟨e.k, z, o, ep, sq, zeros 44⟩) 44))
  have HM4 : Hid (Blk ((w2.alloc (Obj.cells (frA (fr0)) 41)).alloc (Obj.cells (frA ⟨e.k, z, o, ep, sq, zeros 44⟩) 44)) (w2.heap.size + 1) 44 (frA ⟨e.k, z, o, ep, sq, zeros 44⟩)) := Lib.hid (by
    have h := Blk.new (w2.alloc (Obj.cells (frA (fr0)) 41)) 44 (frA ⟨e.k, z, o, ep, sq, zeros 44⟩); rwa [HZ3.out] at h)
  have HB4 := Lib.hid (bthen HB3.out (below_alloc (w2.alloc (Obj.cells (frA (fr0)) 41)) (Obj.cells (frA ⟨e.k, z, o, ep, sq, zeros 44⟩) 44)))
  go_wp2_with (first | (refine wpl_store_new rfl _ _ rfl (frA (fr0)) w2 41 (frA fr0) rfl rfl rfl (info_frA fr0_len) ((frA_size fr0_len).trans (frA_size fr0_len).symm) frA_one ?_; go_frame) | (refine wpl_build (by kernel_rfl) 44 _ rfl (.agg (frA ⟨e.k, z, o, ep, sq, zeros 44⟩)) (fun _ => by kernel_rfl) ?_; go_frame) | (refine wpl_store_new rfl _ _ rfl (frA ⟨e.k, z, o, ep, sq, zeros 44⟩) (w2.alloc (Obj.cells (frA (fr0)) 41)) 44 (frA fr0) rfl (by rw [HZ3.out]; rfl) rfl (info_rfA (zeros_length 44)) ((frA_size fr0_len).trans (frA_size (zeros_length 44)).symm) frA_one ?_; go_frame) | (refine wpl_load rfl _ rfl (w.heap.size) rfl _ _ _ HX4.out Try.underlying25 rfl (info_enA HL.out) ?_; go_frame))
  clear c0 hz1 HX3 HN3 HB3
  generalize (w2.alloc (Obj.cells (frA (fr0)) 41)).alloc (Obj.cells (frA ⟨e.k, z, o, ep, sq, zeros 44⟩) 44) = w4 at *
  refine (of_any e _ HL.out).mono ?_
  rintro en w5 ⟨rfl, hb5⟩
  have HX5 := Lib.hid (HX4.out.below hb5 HX4.out.lt)
  have HN5 := Lib.hid (HN4.out.below hb5 HN4.out.lt)
  have HM5 := Lib.hid (HM4.out.below hb5 HM4.out.lt)
  have HB5 := Lib.hid (bthen HB4.out hb5)
  clear hb5 HB4 HX4 HN4 HM4
  go_wp2_with fail
  refine (rright4_any e _ HL.out).mono ?_
  rintro en w6 ⟨rfl, hb6⟩
  rw [Hr.out]
  have HX6 := Lib.hid (HX5.out.below hb6 HX5.out.lt)
  have HN6 := Lib.hid (HN5.out.below hb6 HN5.out.lt)
  have HM6 := Lib.hid (HM5.out.below hb6 HM5.out.lt)
  have HB6 := Lib.hid (bthen HB5.out hb6)
  clear hb6 HB5 HX5 HN5 HM5
  go_wp2_with (first | (refine wpl_load_g (by rfl) _ rfl (w2.heap.size + 1) rfl _ _ _ HM6.out Try.underlying44 rfl (info_rfA (zeros_length 44)) ?_; go_frame))
  refine (rright_any ⟨e.k, z, o, ep, sq, zeros 44⟩ _).mono ?_
  rintro en w7 ⟨rfl, hb7⟩
  rw [Hf.out _]
  have HX7 := Lib.hid (HX6.out.below hb7 HX6.out.lt)
  have HN7 := Lib.hid (HN6.out.below hb7 HN6.out.lt)
  have HM7 := Lib.hid (HM6.out.below hb7 HM6.out.lt)
  have HB7 := Lib.hid (bthen HB6.out hb7)
  clear hb7 HB6 HX6 HN6 HM6
  go_wp2_with (first | (refine wpl_load_g (by rfl) _ rfl (w2.heap.size) rfl _ _ _ HN7.out Try.underlying41 rfl (info_frA fr0_len) ?_; go_frame) | (refine wpl_build (by rfl) 41 _ rfl (.agg (frA fr0)) (fun _ => by kernel_rfl) ?_; go_frame) | (refine wpl_run (by rfl) (.bool true) (exec_eql_frame tyFr _ _ _ rfl (fr0) (fr0) rfl rfl fr0_len fr0_len true (eq_self _)) ?_; go_frame))
  go_ret
  exact ⟨rfl, HB7.out⟩

set_option maxRecDepth 100000 in
set_option maxHeartbeats 4000000 in
theorem walkFrames_lo (e : EnR) (z o ep sq : Int) (w : World) (hl : e.y.length = 32) (hb : ∀ c ∈ e.y, c < 256) (hs : sq ≤ 9223372036854775807) (hr : rB e = true) (hf : rightB ⟨e.k, z, o, ep, sq, ebod e⟩ = true) (h1 : ¬ e.f ≤ sq) :
    Calls Try.prog 4 #[.agg (enA e), .int .i64 z, .int .i64 o, .int .i64 ep, .int .i64 sq] w fun en w' => en = .returned (.bool true) ∧ Below w.heap.size w w' := by
  have HL := Lib.hid hl
  have Hb := Lib.hid hb
  have Hs := Lib.hid hs
  have hz0 := zero_fr
  have hz1 := zero_rf
  have hz2 := zero_en
  have HX0 : Hid (Blk (w.alloc (Obj.cells (enA e) 25)) w.heap.size 25 (enA e)) := Lib.hid (Blk.new w 25 (enA e))
  have HB0 : Hid (Below w.heap.size w (w.alloc (Obj.cells (enA e) 25))) := Lib.hid (below_alloc _ _)
  have hh : frmB e z o ep sq = false := by unfold frmB amB; rw [decide_eq_false h1]; simp
  have Hv := Lib.hid (frmV_bad hh)
  have He := Lib.hid (frmE_bad hh)
  have Hr := Lib.hid hr
  have Hf : Hid (∀ xs : List Nat, rightB ⟨e.k, z, o, ep, sq, xs⟩ = true) := Lib.hid (fun _ => hf)
  have D1 : Hid (decide (e.f ≤ sq) = false) := Lib.hid (decide_eq_false h1)
  clear hl hb hs hr hh hf h1
  go_enter Try.func4, Try.ntmps4
  go_wp2_with fail
  refine (anchor4_any _).mono ?_
  rintro en w1 ⟨rfl, hb1⟩
  have HX1 := Lib.hid (HX0.out.below hb1 HX0.out.lt)
  have HB1 := Lib.hid (bthen HB0.out hb1)
  clear hb1 HB0 HX0
  go_wp2_with (first | (refine wpl_load rfl _ rfl (w.heap.size) rfl _ _ _ HX1.out Try.underlying25 rfl (info_enA HL.out) ?_; go_frame))
  refine (eframe_any e z o ep sq _ HL.out Hb.out Hs.out).mono ?_
  rintro en w2 ⟨rfl, hb2⟩
  rw [Hv.out, He.out]
  have HX2 := Lib.hid (HX1.out.below hb2 HX1.out.lt)
  have HB2 := Lib.hid (bthen HB1.out hb2)
  clear hb2 HB1 HX1
  have HN3 : Hid (Blk (w2.alloc (Obj.cells (frA (fr0)) 41)) w2.heap.size 41 (frA (fr0))) := Lib.hid (Blk.new _ _ _)
  have HX3 := Lib.hid (HX2.out.alloc (Obj.cells (frA (fr0)) 41))
  have HB3 := Lib.hid (bthen HB2.out (below_alloc w2 (Obj.cells (frA (fr0)) 41)))
  clear HB2 HX2
  have HZ3 : Hid ((w2.alloc (Obj.cells (frA (fr0)) 41)).heap.size = w2.heap.size + 1) := Lib.hid (by simp)
  have c0 := (HX3.out.cell 0).trans (enA_at0 e)
  have HX4 := Lib.hid (HX3.out.alloc (Obj.cells (frA ⟨e.k, z, o, ep, sq, zeros 44⟩) 44))
  have HN4 := Lib.hid (HN3.out.alloc (Obj.cells (frA ⟨e.k, z, o, ep, sq, zeros 44⟩) 44))
  have HM4 : Hid (Blk ((w2.alloc (Obj.cells (frA (fr0)) 41)).alloc (Obj.cells (frA ⟨e.k, z, o, ep, sq, zeros 44⟩) 44)) (w2.heap.size + 1) 44 (frA ⟨e.k, z, o, ep, sq, zeros 44⟩)) := Lib.hid (by
    have h := Blk.new (w2.alloc (Obj.cells (frA (fr0)) 41)) 44 (frA ⟨e.k, z, o, ep, sq, zeros 44⟩); rwa [HZ3.out] at h)
  have HB4 := Lib.hid (bthen HB3.out (below_alloc (w2.alloc (Obj.cells (frA (fr0)) 41)) (Obj.cells (frA ⟨e.k, z, o, ep, sq, zeros 44⟩) 44)))
  go_wp2_with (first | (refine wpl_store_new rfl _ _ rfl (frA (fr0)) w2 41 (frA fr0) rfl rfl rfl (info_frA fr0_len) ((frA_size fr0_len).trans (frA_size fr0_len).symm) frA_one ?_; go_frame) | (refine wpl_build (by kernel_rfl) 44 _ rfl (.agg (frA ⟨e.k, z, o, ep, sq, zeros 44⟩)) (fun _ => by kernel_rfl) ?_; go_frame) | (refine wpl_store_new rfl _ _ rfl (frA ⟨e.k, z, o, ep, sq, zeros 44⟩) (w2.alloc (Obj.cells (frA (fr0)) 41)) 44 (frA fr0) rfl (by rw [HZ3.out]; rfl) rfl (info_rfA (zeros_length 44)) ((frA_size fr0_len).trans (frA_size (zeros_length 44)).symm) frA_one ?_; go_frame) | (refine wpl_load rfl _ rfl (w.heap.size) rfl _ _ _ HX4.out Try.underlying25 rfl (info_enA HL.out) ?_; go_frame))
  clear c0 hz1 HX3 HN3 HB3
  generalize (w2.alloc (Obj.cells (frA (fr0)) 41)).alloc (Obj.cells (frA ⟨e.k, z, o, ep, sq, zeros 44⟩) 44) = w4 at *
  refine (of_any e _ HL.out).mono ?_
  rintro en w5 ⟨rfl, hb5⟩
  have HX5 := Lib.hid (HX4.out.below hb5 HX4.out.lt)
  have HN5 := Lib.hid (HN4.out.below hb5 HN4.out.lt)
  have HM5 := Lib.hid (HM4.out.below hb5 HM4.out.lt)
  have HB5 := Lib.hid (bthen HB4.out hb5)
  clear hb5 HB4 HX4 HN4 HM4
  go_wp2_with fail
  refine (rright4_any e _ HL.out).mono ?_
  rintro en w6 ⟨rfl, hb6⟩
  rw [Hr.out]
  have HX6 := Lib.hid (HX5.out.below hb6 HX5.out.lt)
  have HN6 := Lib.hid (HN5.out.below hb6 HN5.out.lt)
  have HM6 := Lib.hid (HM5.out.below hb6 HM5.out.lt)
  have HB6 := Lib.hid (bthen HB5.out hb6)
  clear hb6 HB5 HX5 HN5 HM5
  go_wp2_with (first | (refine wpl_load_g (by rfl) _ rfl (w2.heap.size + 1) rfl _ _ _ HM6.out Try.underlying44 rfl (info_rfA (zeros_length 44)) ?_; go_frame))
  refine (rright_any ⟨e.k, z, o, ep, sq, zeros 44⟩ _).mono ?_
  rintro en w7 ⟨rfl, hb7⟩
  rw [Hf.out _]
  have HX7 := Lib.hid (HX6.out.below hb7 HX6.out.lt)
  have HN7 := Lib.hid (HN6.out.below hb7 HN6.out.lt)
  have HM7 := Lib.hid (HM6.out.below hb7 HM6.out.lt)
  have HB7 := Lib.hid (bthen HB6.out hb7)
  clear hb7 HB6 HX6 HN6 HM6
  have c1 := (HX7.out.cell 1).trans (enA_at1 e)
  have c2 := (HX7.out.cell 2).trans (enA_at2 e)
  have d1 := D1.out
  go_wp2_with (first | (refine wpl_load_g (by rfl) _ rfl (w2.heap.size) rfl _ _ _ HN7.out Try.underlying41 rfl (info_frA fr0_len) ?_; go_frame) | (refine wpl_build (by rfl) 41 _ rfl (.agg (frA fr0)) (fun _ => by kernel_rfl) ?_; go_frame) | (refine wpl_run (by rfl) (.bool true) (exec_eql_frame tyFr _ _ _ rfl (fr0) (fr0) rfl rfl fr0_len fr0_len true (eq_self _)) ?_; go_frame))
  go_ret
  exact ⟨rfl, HB7.out⟩

set_option maxRecDepth 100000 in
set_option maxHeartbeats 4000000 in
theorem walkFrames_hi (e : EnR) (z o ep sq : Int) (w : World) (hl : e.y.length = 32) (hb : ∀ c ∈ e.y, c < 256) (hs : sq ≤ 9223372036854775807) (hr : rB e = true) (hf : rightB ⟨e.k, z, o, ep, sq, ebod e⟩ = true) (h1 : e.f ≤ sq) (h2 : ¬ sq < e.f + e.c) :
    Calls Try.prog 4 #[.agg (enA e), .int .i64 z, .int .i64 o, .int .i64 ep, .int .i64 sq] w fun en w' => en = .returned (.bool true) ∧ Below w.heap.size w w' := by
  have HL := Lib.hid hl
  have Hb := Lib.hid hb
  have Hs := Lib.hid hs
  have hz0 := zero_fr
  have hz1 := zero_rf
  have hz2 := zero_en
  have HX0 : Hid (Blk (w.alloc (Obj.cells (enA e) 25)) w.heap.size 25 (enA e)) := Lib.hid (Blk.new w 25 (enA e))
  have HB0 : Hid (Below w.heap.size w (w.alloc (Obj.cells (enA e) 25))) := Lib.hid (below_alloc _ _)
  have hh : frmB e z o ep sq = false := by unfold frmB amB; rw [decide_eq_false (show ¬ sq - e.f < e.c by omega)]; simp
  have Hv := Lib.hid (frmV_bad hh)
  have He := Lib.hid (frmE_bad hh)
  have Hr := Lib.hid hr
  have Hf : Hid (∀ xs : List Nat, rightB ⟨e.k, z, o, ep, sq, xs⟩ = true) := Lib.hid (fun _ => hf)
  have D1 : Hid (decide (e.f ≤ sq) = true) := Lib.hid (decide_eq_true h1)
  have D2 : Hid (decide (sq < e.f + e.c) = false) := Lib.hid (decide_eq_false h2)
  have hrr := rB_ranges hr
  have hwr : IntKind.i64.wrap (e.f + e.c) = e.f + e.c := by rw [IntKind.wrap_i64]; omega
  have HW := Lib.hid hwr
  clear hl hb hs hr hh hf h1 h2 hrr hwr
  go_enter Try.func4, Try.ntmps4
  go_wp2_with fail
  refine (anchor4_any _).mono ?_
  rintro en w1 ⟨rfl, hb1⟩
  have HX1 := Lib.hid (HX0.out.below hb1 HX0.out.lt)
  have HB1 := Lib.hid (bthen HB0.out hb1)
  clear hb1 HB0 HX0
  go_wp2_with (first | (refine wpl_load rfl _ rfl (w.heap.size) rfl _ _ _ HX1.out Try.underlying25 rfl (info_enA HL.out) ?_; go_frame))
  refine (eframe_any e z o ep sq _ HL.out Hb.out Hs.out).mono ?_
  rintro en w2 ⟨rfl, hb2⟩
  rw [Hv.out, He.out]
  have HX2 := Lib.hid (HX1.out.below hb2 HX1.out.lt)
  have HB2 := Lib.hid (bthen HB1.out hb2)
  clear hb2 HB1 HX1
  have HN3 : Hid (Blk (w2.alloc (Obj.cells (frA (fr0)) 41)) w2.heap.size 41 (frA (fr0))) := Lib.hid (Blk.new _ _ _)
  have HX3 := Lib.hid (HX2.out.alloc (Obj.cells (frA (fr0)) 41))
  have HB3 := Lib.hid (bthen HB2.out (below_alloc w2 (Obj.cells (frA (fr0)) 41)))
  clear HB2 HX2
  have HZ3 : Hid ((w2.alloc (Obj.cells (frA (fr0)) 41)).heap.size = w2.heap.size + 1) := Lib.hid (by simp)
  have c0 := (HX3.out.cell 0).trans (enA_at0 e)
  have HX4 := Lib.hid (HX3.out.alloc (Obj.cells (frA ⟨e.k, z, o, ep, sq, zeros 44⟩) 44))
  have HN4 := Lib.hid (HN3.out.alloc (Obj.cells (frA ⟨e.k, z, o, ep, sq, zeros 44⟩) 44))
  have HM4 : Hid (Blk ((w2.alloc (Obj.cells (frA (fr0)) 41)).alloc (Obj.cells (frA ⟨e.k, z, o, ep, sq, zeros 44⟩) 44)) (w2.heap.size + 1) 44 (frA ⟨e.k, z, o, ep, sq, zeros 44⟩)) := Lib.hid (by
    have h := Blk.new (w2.alloc (Obj.cells (frA (fr0)) 41)) 44 (frA ⟨e.k, z, o, ep, sq, zeros 44⟩); rwa [HZ3.out] at h)
  have HB4 := Lib.hid (bthen HB3.out (below_alloc (w2.alloc (Obj.cells (frA (fr0)) 41)) (Obj.cells (frA ⟨e.k, z, o, ep, sq, zeros 44⟩) 44)))
  go_wp2_with (first | (refine wpl_store_new rfl _ _ rfl (frA (fr0)) w2 41 (frA fr0) rfl rfl rfl (info_frA fr0_len) ((frA_size fr0_len).trans (frA_size fr0_len).symm) frA_one ?_; go_frame) | (refine wpl_build (by kernel_rfl) 44 _ rfl (.agg (frA ⟨e.k, z, o, ep, sq, zeros 44⟩)) (fun _ => by kernel_rfl) ?_; go_frame) | (refine wpl_store_new rfl _ _ rfl (frA ⟨e.k, z, o, ep, sq, zeros 44⟩) (w2.alloc (Obj.cells (frA (fr0)) 41)) 44 (frA fr0) rfl (by rw [HZ3.out]; rfl) rfl (info_rfA (zeros_length 44)) ((frA_size fr0_len).trans (frA_size (zeros_length 44)).symm) frA_one ?_; go_frame) | (refine wpl_load rfl _ rfl (w.heap.size) rfl _ _ _ HX4.out Try.underlying25 rfl (info_enA HL.out) ?_; go_frame))
  clear c0 hz1 HX3 HN3 HB3
  generalize (w2.alloc (Obj.cells (frA (fr0)) 41)).alloc (Obj.cells (frA ⟨e.k, z, o, ep, sq, zeros 44⟩) 44) = w4 at *
  refine (of_any e _ HL.out).mono ?_
  rintro en w5 ⟨rfl, hb5⟩
  have HX5 := Lib.hid (HX4.out.below hb5 HX4.out.lt)
  have HN5 := Lib.hid (HN4.out.below hb5 HN4.out.lt)
  have HM5 := Lib.hid (HM4.out.below hb5 HM4.out.lt)
  have HB5 := Lib.hid (bthen HB4.out hb5)
  clear hb5 HB4 HX4 HN4 HM4
  go_wp2_with fail
  refine (rright4_any e _ HL.out).mono ?_
  rintro en w6 ⟨rfl, hb6⟩
  rw [Hr.out]
  have HX6 := Lib.hid (HX5.out.below hb6 HX5.out.lt)
  have HN6 := Lib.hid (HN5.out.below hb6 HN5.out.lt)
  have HM6 := Lib.hid (HM5.out.below hb6 HM5.out.lt)
  have HB6 := Lib.hid (bthen HB5.out hb6)
  clear hb6 HB5 HX5 HN5 HM5
  go_wp2_with (first | (refine wpl_load_g (by rfl) _ rfl (w2.heap.size + 1) rfl _ _ _ HM6.out Try.underlying44 rfl (info_rfA (zeros_length 44)) ?_; go_frame))
  refine (rright_any ⟨e.k, z, o, ep, sq, zeros 44⟩ _).mono ?_
  rintro en w7 ⟨rfl, hb7⟩
  rw [Hf.out _]
  have HX7 := Lib.hid (HX6.out.below hb7 HX6.out.lt)
  have HN7 := Lib.hid (HN6.out.below hb7 HN6.out.lt)
  have HM7 := Lib.hid (HM6.out.below hb7 HM6.out.lt)
  have HB7 := Lib.hid (bthen HB6.out hb7)
  clear hb7 HB6 HX6 HN6 HM6
  have c1 := (HX7.out.cell 1).trans (enA_at1 e)
  have c2 := (HX7.out.cell 2).trans (enA_at2 e)
  have d1 := D1.out
  have d2 := D2.out
  have d3 := HW.out
  go_wp2_with (first | (refine wpl_load_g (by rfl) _ rfl (w2.heap.size) rfl _ _ _ HN7.out Try.underlying41 rfl (info_frA fr0_len) ?_; go_frame) | (refine wpl_build (by rfl) 41 _ rfl (.agg (frA fr0)) (fun _ => by kernel_rfl) ?_; go_frame) | (refine wpl_run (by rfl) (.bool true) (exec_eql_frame tyFr _ _ _ rfl (fr0) (fr0) rfl rfl fr0_len fr0_len true (eq_self _)) ?_; go_frame))
  go_ret
  exact ⟨rfl, HB7.out⟩

set_option maxRecDepth 100000 in
set_option maxHeartbeats 4000000 in
theorem walkFrames_ok (e : EnR) (z o ep sq : Int) (w : World) (hl : e.y.length = 32) (hb : ∀ c ∈ e.y, c < 256) (hs : sq ≤ 9223372036854775807) (hr : rB e = true) (hf : rightB ⟨e.k, z, o, ep, sq, ebod e⟩ = true) (h1 : e.f ≤ sq) (h2 : sq < e.f + e.c) :
    Calls Try.prog 4 #[.agg (enA e), .int .i64 z, .int .i64 o, .int .i64 ep, .int .i64 sq] w fun en w' => en = .returned (.bool true) ∧ Below w.heap.size w w' := by
  have HL := Lib.hid hl
  have Hb := Lib.hid hb
  have Hs := Lib.hid hs
  have hz0 := zero_fr
  have hz1 := zero_rf
  have hz2 := zero_en
  have HX0 : Hid (Blk (w.alloc (Obj.cells (enA e) 25)) w.heap.size 25 (enA e)) := Lib.hid (Blk.new w 25 (enA e))
  have HB0 : Hid (Below w.heap.size w (w.alloc (Obj.cells (enA e) 25))) := Lib.hid (below_alloc _ _)
  have hh : frmB e z o ep sq = true := by unfold frmB amB; rw [hr, hf, decide_eq_true h1, decide_eq_true (show sq - e.f < e.c by omega)]; rfl
  have hrd := rd_frm hh hl hb
  rw [frmV_ok hh] at hrd
  have hv := frmV_ok hh
  have hbl := ebod_length hl
  have hbt := ebod_lt hb
  obtain ⟨B, hB⟩ : ∃ B, ebod e = B := ⟨_, rfl⟩
  rw [hB] at hrd hv hbl hbt
  have Hv := Lib.hid hv
  have He := Lib.hid (frmE_ok hh)
  have HBe := Lib.hid hB
  have HBl := Lib.hid hbl
  have HBt := Lib.hid hbt
  have Hrv := Lib.hid hrd.2
  have Hre := Lib.hid (rdE_ok hrd.1)
  have Hr := Lib.hid hr
  have Hf : Hid (∀ xs : List Nat, rightB ⟨e.k, z, o, ep, sq, xs⟩ = true) := Lib.hid (fun _ => hf)
  have D1 : Hid (decide (e.f ≤ sq) = true) := Lib.hid (decide_eq_true h1)
  have D2 : Hid (decide (sq < e.f + e.c) = true) := Lib.hid (decide_eq_true h2)
  have hrr := rB_ranges hr
  have hwr : IntKind.i64.wrap (e.f + e.c) = e.f + e.c := by rw [IntKind.wrap_i64]; omega
  have HW := Lib.hid hwr
  clear hl hb hs hr hh hf h1 h2 hrr hwr hrd hv hbl hbt hB
  go_enter Try.func4, Try.ntmps4
  go_wp2_with fail
  refine (anchor4_any _).mono ?_
  rintro en w1 ⟨rfl, hb1⟩
  have HX1 := Lib.hid (HX0.out.below hb1 HX0.out.lt)
  have HB1 := Lib.hid (bthen HB0.out hb1)
  clear hb1 HB0 HX0
  go_wp2_with (first | (refine wpl_load rfl _ rfl (w.heap.size) rfl _ _ _ HX1.out Try.underlying25 rfl (info_enA HL.out) ?_; go_frame))
  refine (eframe_any e z o ep sq _ HL.out Hb.out Hs.out).mono ?_
  rintro en w2 ⟨rfl, hb2⟩
  rw [Hv.out, He.out]
  have HX2 := Lib.hid (HX1.out.below hb2 HX1.out.lt)
  have HB2 := Lib.hid (bthen HB1.out hb2)
  clear hb2 HB1 HX1
  have HN3 : Hid (Blk (w2.alloc (Obj.cells (frA (⟨e.k, z, o, ep, sq, B⟩)) 41)) w2.heap.size 41 (frA (⟨e.k, z, o, ep, sq, B⟩))) := Lib.hid (Blk.new _ _ _)
  have HZa : Hid (w.heap.size < w2.heap.size) := Lib.hid HX2.out.lt
  have HX3 := Lib.hid (HX2.out.alloc (Obj.cells (frA (⟨e.k, z, o, ep, sq, B⟩)) 41))
  have HB3 := Lib.hid (bthen HB2.out (below_alloc w2 (Obj.cells (frA (⟨e.k, z, o, ep, sq, B⟩)) 41)))
  clear HB2 HX2
  have HZ3 : Hid ((w2.alloc (Obj.cells (frA (⟨e.k, z, o, ep, sq, B⟩)) 41)).heap.size = w2.heap.size + 1) := Lib.hid (by simp)
  have c0 := (HX3.out.cell 0).trans (enA_at0 e)
  have HX4 := Lib.hid (HX3.out.alloc (Obj.cells (frA ⟨e.k, z, o, ep, sq, zeros 44⟩) 44))
  have HN4 := Lib.hid (HN3.out.alloc (Obj.cells (frA ⟨e.k, z, o, ep, sq, zeros 44⟩) 44))
  have HM4 : Hid (Blk ((w2.alloc (Obj.cells (frA (⟨e.k, z, o, ep, sq, B⟩)) 41)).alloc (Obj.cells (frA ⟨e.k, z, o, ep, sq, zeros 44⟩) 44)) (w2.heap.size + 1) 44 (frA ⟨e.k, z, o, ep, sq, zeros 44⟩)) := Lib.hid (by
    have h := Blk.new (w2.alloc (Obj.cells (frA (⟨e.k, z, o, ep, sq, B⟩)) 41)) 44 (frA ⟨e.k, z, o, ep, sq, zeros 44⟩); rwa [HZ3.out] at h)
  have HB4 := Lib.hid (bthen HB3.out (below_alloc (w2.alloc (Obj.cells (frA (⟨e.k, z, o, ep, sq, B⟩)) 41)) (Obj.cells (frA ⟨e.k, z, o, ep, sq, zeros 44⟩) 44)))
  go_wp2_with (first | (refine wpl_store_new rfl _ _ rfl (frA (⟨e.k, z, o, ep, sq, B⟩)) w2 41 (frA fr0) rfl rfl rfl (info_frA HBl.out) ((frA_size fr0_len).trans (frA_size HBl.out).symm) frA_one ?_; go_frame) | (refine wpl_build (by kernel_rfl) 44 _ rfl (.agg (frA ⟨e.k, z, o, ep, sq, zeros 44⟩)) (fun _ => by kernel_rfl) ?_; go_frame) | (refine wpl_store_new rfl _ _ rfl (frA ⟨e.k, z, o, ep, sq, zeros 44⟩) (w2.alloc (Obj.cells (frA (⟨e.k, z, o, ep, sq, B⟩)) 41)) 44 (frA fr0) rfl (by rw [HZ3.out]; rfl) rfl (info_rfA (zeros_length 44)) ((frA_size fr0_len).trans (frA_size (zeros_length 44)).symm) frA_one ?_; go_frame) | (refine wpl_load rfl _ rfl (w.heap.size) rfl _ _ _ HX4.out Try.underlying25 rfl (info_enA HL.out) ?_; go_frame))
  clear c0 hz1 HX3 HN3 HB3
  generalize (w2.alloc (Obj.cells (frA (⟨e.k, z, o, ep, sq, B⟩)) 41)).alloc (Obj.cells (frA ⟨e.k, z, o, ep, sq, zeros 44⟩) 44) = w4 at *
  refine (of_any e _ HL.out).mono ?_
  rintro en w5 ⟨rfl, hb5⟩
  have HX5 := Lib.hid (HX4.out.below hb5 HX4.out.lt)
  have HN5 := Lib.hid (HN4.out.below hb5 HN4.out.lt)
  have HM5 := Lib.hid (HM4.out.below hb5 HM4.out.lt)
  have HB5 := Lib.hid (bthen HB4.out hb5)
  clear hb5 HB4 HX4 HN4 HM4
  go_wp2_with fail
  refine (rright4_any e _ HL.out).mono ?_
  rintro en w6 ⟨rfl, hb6⟩
  rw [Hr.out]
  have HX6 := Lib.hid (HX5.out.below hb6 HX5.out.lt)
  have HN6 := Lib.hid (HN5.out.below hb6 HN5.out.lt)
  have HM6 := Lib.hid (HM5.out.below hb6 HM5.out.lt)
  have HB6 := Lib.hid (bthen HB5.out hb6)
  clear hb6 HB5 HX5 HN5 HM5
  go_wp2_with (first | (refine wpl_load_g (by rfl) _ rfl (w2.heap.size + 1) rfl _ _ _ HM6.out Try.underlying44 rfl (info_rfA (zeros_length 44)) ?_; go_frame))
  refine (rright_any ⟨e.k, z, o, ep, sq, zeros 44⟩ _).mono ?_
  rintro en w7 ⟨rfl, hb7⟩
  rw [Hf.out _]
  have HX7 := Lib.hid (HX6.out.below hb7 HX6.out.lt)
  have HN7 := Lib.hid (HN6.out.below hb7 HN6.out.lt)
  have HM7 := Lib.hid (HM6.out.below hb7 HM6.out.lt)
  have HB7 := Lib.hid (bthen HB6.out hb7)
  clear hb7 HB6 HX6 HN6 HM6
  have c1 := (HX7.out.cell 1).trans (enA_at1 e)
  have c2 := (HX7.out.cell 2).trans (enA_at2 e)
  have d1 := D1.out
  have d2 := D2.out
  have d3 := HW.out
  go_wp2_with (first | (refine wpl_load rfl _ rfl (w.heap.size) rfl _ _ _ HX7.out Try.underlying25 rfl (info_enA HL.out) ?_; go_frame))
  clear c1 c2 d1 d2 d3
  refine (of_any e _ HL.out).mono ?_
  rintro en w8 ⟨rfl, hb8⟩
  have HX8 := Lib.hid (HX7.out.below hb8 HX7.out.lt)
  have HN8 := Lib.hid (HN7.out.below hb8 HN7.out.lt)
  have HM8 := Lib.hid (HM7.out.below hb8 HM7.out.lt)
  have HB8 := Lib.hid (bthen HB7.out hb8)
  clear hb8 HB7 HX7 HN7 HM7
  go_wp2_with fail
  refine (rbody4_any e _ HL.out Hb.out Hr.out).mono ?_
  rintro en w9 ⟨rfl, hb9⟩
  rw [HBe.out]
  have HX9 := Lib.hid (HX8.out.below hb9 HX8.out.lt)
  have HN9 := Lib.hid (HN8.out.below hb9 HN8.out.lt)
  have HM9 := Lib.hid (HM8.out.below hb9 HM8.out.lt)
  have HB9 := Lib.hid (bthen HB8.out hb9)
  clear hb9 HB8 HX8 HN8 HM8
  have HZ9 : Hid (w.heap.size < w2.heap.size) := HZa
  go_wp2_with (first | (refine wpl_store_mid rfl 26 _ _ rfl (w2.heap.size + 1) 5 B rfl rfl 44 (frL ⟨e.k, z, o, ep, sq, zeros 44⟩) HM9.out (by rw [frL_length (zeros_length 44), HBl.out]; decide) (info_44 HBl.out) ?_; intro w10 hM hK; rw [frL_body ⟨e.k, z, o, ep, sq, zeros 44⟩ B (zeros_length 44) HBl.out] at hM; have HM10 := Lib.hid hM; have HX10 := Lib.hid (HX9.out.kept hK (by have := HZ9.out; omega)); have HN10 := Lib.hid (HN9.out.kept hK (by omega)); have HB10 := Lib.hid (bkept HB9.out (Nat.le_refl _) hK (fun i hi h => by have := HZ9.out; omega)); clear hM hK HM9 HX9 HN9 HB9; go_frame) | (refine wpl_load rfl _ rfl (w2.heap.size) rfl _ _ _ HN10.out Try.underlying41 rfl (info_frA HBl.out) ?_; go_frame))
  refine (eread_any ⟨e.k, z, o, ep, sq, B⟩ _ HBl.out HBt.out Hs.out).mono ?_
  rintro en w11 ⟨rfl, hb11⟩
  rw [Hrv.out, Hre.out]
  have HX11 := Lib.hid (HX10.out.below hb11 HX10.out.lt)
  have HN11 := Lib.hid (HN10.out.below hb11 HN10.out.lt)
  have HM11 := Lib.hid (HM10.out.below hb11 HM10.out.lt)
  have HB11 := Lib.hid (bthen HB10.out hb11)
  clear hb11 HB10 HX10 HN10 HM10
  have HR12 : Hid (Blk (w11.alloc (Obj.cells (enA e) 25)) w11.heap.size 25 (enA e)) := Lib.hid (Blk.new _ _ _)
  have HX12 := Lib.hid (HX11.out.alloc (Obj.cells (enA e) 25))
  have HN12 := Lib.hid (HN11.out.alloc (Obj.cells (enA e) 25))
  have HM12 := Lib.hid (HM11.out.alloc (Obj.cells (enA e) 25))
  have HB12 := Lib.hid (bthen HB11.out (below_alloc w11 (Obj.cells (enA e) 25)))
  clear HB11 HX11 HN11 HM11
  go_wp2_with (first | (refine wpl_store_new rfl _ _ rfl (enA e) w11 25 (enA en0) rfl rfl rfl (info_enA HL.out) ((enA_size en0_len).trans (enA_size HL.out).symm) enA_one ?_; go_frame) | (refine wpl_load_g (by rfl) _ rfl (w2.heap.size) rfl _ _ _ HN12.out Try.underlying41 rfl (info_frA HBl.out) ?_; go_frame) | (refine wpl_load_g (by rfl) _ rfl (w2.heap.size + 1) rfl _ _ _ HM12.out Try.underlying44 rfl (info_rfA HBl.out) ?_; go_frame) | (refine wpl_run (by rfl) (.bool true) (exec_eql_frame tyRF _ _ _ rfl (⟨e.k, z, o, ep, sq, B⟩) (⟨e.k, z, o, ep, sq, B⟩) rfl rfl HBl.out HBl.out true (eq_self _)) ?_; go_frame) | (refine wpl_load_g (by rfl) _ rfl (w11.heap.size) rfl _ _ _ HR12.out Try.underlying25 rfl (info_enA HL.out) ?_; go_frame) | (refine wpl_load_g (by rfl) _ rfl (w.heap.size) rfl _ _ _ HX12.out Try.underlying25 rfl (info_enA HL.out) ?_; go_frame) | (refine wpl_run (by rfl) (.bool true) (exec_eql_entry tyEn _ _ _ rfl (e) (e) rfl rfl HL.out HL.out true (decide_eq_true rfl)) ?_; go_frame))
  go_ret
  exact ⟨rfl, HB12.out⟩

theorem walkEntryFrames (e : EnR) (z o ep sq : Int) (w : World) (he : EnOk e) (h0 : (Lit.int .i64 z).wf = true) (h1 : (Lit.int .i64 o).wf = true) (h2 : (Lit.int .i64 ep).wf = true) (h3 : (Lit.int .i64 sq).wf = true) :
    Calls Try.prog 4 #[.agg (enA e), .int .i64 z, .int .i64 o, .int .i64 ep, .int .i64 sq] w fun en w' => en = .returned (.bool true) ∧ Below w.heap.size w w' := by
  have hs := (bounds_i64 h3).2
  cases hr : rB e with
  | false => exact walkFrames_r e z o ep sq w he.len he.lt hs hr
  | true =>
    cases hf : rightB ⟨e.k, z, o, ep, sq, ebod e⟩ with
    | false => exact walkFrames_f e z o ep sq w he.len he.lt hs hr hf
    | true =>
      by_cases h4 : e.f ≤ sq
      · by_cases h5 : sq < e.f + e.c
        · exact walkFrames_ok e z o ep sq w he.len he.lt hs hr hf h4 h5
        · exact walkFrames_hi e z o ep sq w he.len he.lt hs hr hf h4 h5
      · exact walkFrames_lo e z o ep sq w he.len he.lt hs hr hf h4

end Go.Proofs.Ytdjnfikacjfkkaa
