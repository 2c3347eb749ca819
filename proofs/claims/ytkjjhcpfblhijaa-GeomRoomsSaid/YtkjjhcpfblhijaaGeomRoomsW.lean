/-
  The walk of GeomRooms.
-/
import Derived.Test.YtkjjhcpfblhijaaGeomH
namespace Go.Proofs.Ytkjjhcpfblhijaa
open Go.RowKit Go.Shelf
set_option linter.unusedVariables false
set_option linter.unnecessarySimpa false
set_option linter.unusedSimpArgs false

theorem room_math {g : GeR} (h : gB g = true) : segI g ≥ 1 ∧ g.z > g.p + 2 := by
  obtain ⟨hL, h1, h2⟩ := (gB_iff g).1 h
  have hs := hL.s
  have hb := hL.b
  have hseg : 1 ≤ segI g := by
    by_cases hc : 1 ≤ segI g
    · exact hc
    · have h0 : segI g ≤ 0 := by omega
      have := Int.mul_le_mul_of_nonneg_left h0 (show (0 : Int) ≤ g.s by omega)
      rw [Int.mul_zero] at this
      omega
  refine ⟨hseg, ?_⟩
  have hf := fai_bd hL
  have hu : 4 ≤ useI g := by unfold segI at hseg; omega
  have h1 : 4 ≤ us1 g := by unfold useI at hu; split at hu <;> omega
  have hr := res_bd hL
  have hm : 1 ≤ (g.d - 1) * safI g := by unfold us1 at h1; omega
  by_cases hc : g.z > g.p + 2
  · exact hc
  · have h0 : safI g ≤ 0 := by unfold safI; omega
    have := Int.mul_le_mul_of_nonneg_left h0 (show (0 : Int) ≤ g.d - 1 by have := hL.d; omega)
    rw [Int.mul_zero] at this
    omega

set_option maxRecDepth 100000 in
set_option maxHeartbeats 2000000 in
theorem walkRooms_n (g : GeR) (w : World) (hr : gB g = false) :
    Calls Try.prog 6 #[.agg (geA g)] w fun e w' => e = .returned (.bool true) ∧ Below w.heap.size w w' := by
  have Hr := Lib.hid hr
  clear hr
  have HF := Lib.hid (Blk.new w 23 (geA g))
  have HB := Lib.hid (below_alloc w (Obj.cells (geA g) 23))
  go_enter Try.func6, Try.ntmps6
  go_wp2_with fail
  refine (anchor5_any _).mono ?_
  rintro e w1 ⟨rfl, hb1⟩
  have HF1 := Lib.hid (HF.out.below hb1 HF.out.lt)
  have HB1 := Lib.hid (bthen HB.out hb1)
  clear HF HB hb1
  go_wp2_with (first | (refine wpl_load_g (by rfl) _ rfl (w.heap.size) rfl _ _ _ HF1.out Try.underlying23 rfl (info_geA g) ?_; go_frame))
  refine (right_any g _).mono ?_
  rintro e w2 ⟨rfl, hb⟩
  rw [Hr.out]
  have HF2 := Lib.hid (HF1.out.below hb HF1.out.lt)
  have HB2 := Lib.hid (bthen HB1.out hb)
  clear hb HB1 HF1
  go_wp2_with fail
  go_ret
  exact ⟨rfl, HB2.out⟩

set_option maxRecDepth 100000 in
set_option maxHeartbeats 2000000 in
theorem walkRooms_t (g : GeR) (w : World) (hr : gB g = true) :
    Calls Try.prog 6 #[.agg (geA g)] w fun e w' => e = .returned (.bool true) ∧ Below w.heap.size w w' := by
  have Hr := Lib.hid hr
  have K1 := Lib.hid ((gB_iff g).1 hr)
  have K2 := Lib.hid (room_math hr)
  have H := Lib.hid (gB_lim hr)
  have K3 := Lib.hid (pas_bd H.out).1
  obtain ⟨a0, a1⟩ := H.out.s
  obtain ⟨a2, a3⟩ := H.out.b
  obtain ⟨a4, a5⟩ := H.out.p
  obtain ⟨a6, a7⟩ := sseg_bd H.out
  obtain ⟨a8, a9⟩ := com_bd H.out
  clear hr
  have HF := Lib.hid (Blk.new w 23 (geA g))
  have HB := Lib.hid (below_alloc w (Obj.cells (geA g) 23))
  go_enter Try.func6, Try.ntmps6
  go_wp2_with fail
  refine (anchor5_any _).mono ?_
  rintro e w1 ⟨rfl, hb1⟩
  have HF1 := Lib.hid (HF.out.below hb1 HF.out.lt)
  have HB1 := Lib.hid (bthen HB.out hb1)
  clear HF HB hb1
  go_upto_region 5 with (refine wpl_load_g (by rfl) _ rfl (w.heap.size) rfl _ _ _ HF1.out Try.underlying23 rfl (info_geA g) ?_; go_frame)
  refine (right_any g _).mono ?_
  rintro e u ⟨rfl, hb⟩
  rw [Hr.out]
  have HF2 := Lib.hid (HF1.out.below hb HF1.out.lt)
  have HB2 := Lib.hid (bthen HB1.out hb)
  clear hb HB1 HF1
  go_upto_region 5 with fail
  refine wp_region_held (S := fun w' => Below u.heap.size u w') (by kernel_rfl) ?_
  change wpAnyH _ _ _ _ _ _ _ _ (World.drew _)
  have hS : Below u.heap.size u u.drew := (Below.refl _ _).drew
  refine takeH hS (i := 0) (d := 8) (v := .pointer (some ⟨w.heap.size, 3, none⟩)) rfl rfl (by kernel_rfl) (by kernel_rfl) (by kernel_rfl) (fun _ _ _ h => h) (Or.inl ⟨by kernel_rfl, fun w' hw' => by kernel_rfl⟩) ?_
  refine takeH hS (i := 1) (d := 9) (v := .int .i64 (g.b)) rfl rfl (by kernel_rfl) (by kernel_rfl) (by kernel_rfl) (fun _ _ _ h => h) (Or.inl ⟨by kernel_rfl, fun w' hw' => by exact exec_cell _ rfl ⟨w.heap.size, 3, none⟩ rfl _ Try.underlying3 (((HF2.out.below hw' HF2.out.lt).cell 3).trans (geA_at3 g))⟩) ?_
  refine takeH hS (i := 2) (d := 10) (v := .int .i64 ((2) * (g.b))) rfl rfl (by kernel_rfl) (by kernel_rfl) (by kernel_rfl) (fun _ _ _ h => h) (Or.inl ⟨by kernel_rfl, fun w' hw' => by exact exec_mul _ _ rfl (2) (g.b) ((2) * (g.b)) rfl rfl (rfl) (by omega)⟩) ?_
  refine takeH hS (i := 3) (d := 11) (v := .pointer (some ⟨w.heap.size, 2, none⟩)) rfl rfl (by kernel_rfl) (by kernel_rfl) (by kernel_rfl) (fun _ _ _ h => h) (Or.inl ⟨by kernel_rfl, fun w' hw' => by kernel_rfl⟩) ?_
  try go_frame
  refine takeH hS (i := 4) (d := 12) (v := .int .i64 (g.s)) rfl rfl (by kernel_rfl) (by kernel_rfl) (by kernel_rfl) (fun _ _ _ h => h) (Or.inl ⟨by kernel_rfl, fun w' hw' => by exact exec_cell _ rfl ⟨w.heap.size, 2, none⟩ rfl _ Try.underlying3 (((HF2.out.below hw' HF2.out.lt).cell 2).trans (geA_at2 g))⟩) ?_
  refine takeH hS (i := 5) (d := 13) (v := .agg (geA g)) rfl rfl (by kernel_rfl) (by kernel_rfl) (by kernel_rfl) (fun _ _ _ h => h) (Or.inl ⟨by kernel_rfl, fun w' hw' => by exact exec_load _ rfl (w.heap.size) rfl (HF2.out.below hw' HF2.out.lt) Try.underlying23 rfl (info_geA g)⟩) ?_
  try go_frame
  refine nextH (i := 6) rfl (by kernel_rfl) (by kernel_rfl) (fun K' hK => ?_)
  go_wp2_with fail
  refine (segments_any g _ H.out).mono ?_
  rintro en uc1 ⟨rfl, hb⟩
  have hS1 : Below u.heap.size u uc1 := bel_next hS hb
  refine hK.out _ _ ⟨hS1, ?_⟩
  clear hK K' hb hS
  refine takeH hS1 (i := 7) (d := 15) (v := .int .i64 ((g.s) * (segI g))) rfl rfl (by kernel_rfl) (by kernel_rfl) (by kernel_rfl) (fun _ _ _ h => h) (Or.inl ⟨by kernel_rfl, fun w' hw' => by exact exec_mul _ _ rfl (g.s) (segI g) ((g.s) * (segI g)) rfl rfl (rfl) (by omega)⟩) ?_
  refine takeH hS1 (i := 8) (d := 16) (v := .bool true) rfl rfl (by kernel_rfl) (by kernel_rfl) (by kernel_rfl) (fun _ _ _ h => h) (Or.inl ⟨by kernel_rfl, fun w' hw' => by exact exec_leq _ _ rfl ((2) * (g.b)) ((g.s) * (segI g)) rfl rfl true (decide_eq_true K1.out.2.2) rfl⟩) ?_
  refine takeH hS1 (i := 9) (d := 17) (v := .bool true) rfl rfl (by kernel_rfl) (by kernel_rfl) (by kernel_rfl) (fun _ _ _ h => h) (Or.inl ⟨by kernel_rfl, fun w' hw' => by kernel_rfl⟩) ?_
  refine takeH hS1 (i := 10) (d := 18) (v := .agg (geA g)) rfl rfl (by kernel_rfl) (by kernel_rfl) (by kernel_rfl) (fun _ _ _ h => h) (Or.inl ⟨by kernel_rfl, fun w' hw' => by exact exec_load _ rfl (w.heap.size) rfl (HF2.out.below hw' HF2.out.lt) Try.underlying23 rfl (info_geA g)⟩) ?_
  try go_frame
  refine takeH hS1 (i := 12) (d := 20) (v := .pointer (some ⟨w.heap.size, 2, none⟩)) rfl rfl (by kernel_rfl) (by kernel_rfl) (by kernel_rfl) (fun _ _ _ h => h) (Or.inl ⟨by kernel_rfl, fun w' hw' => by kernel_rfl⟩) ?_
  refine takeH hS1 (i := 13) (d := 21) (v := .int .i64 (g.s)) rfl rfl (by kernel_rfl) (by kernel_rfl) (by kernel_rfl) (fun _ _ _ h => h) (Or.inl ⟨by kernel_rfl, fun w' hw' => by exact exec_cell _ rfl ⟨w.heap.size, 2, none⟩ rfl _ Try.underlying3 (((HF2.out.below hw' HF2.out.lt).cell 2).trans (geA_at2 g))⟩) ?_
  try go_frame
  refine nextH (i := 11) rfl (by kernel_rfl) (by kernel_rfl) (fun K' hK => ?_)
  go_wp2_with fail
  refine (parts_any g _ H.out).mono ?_
  rintro en uc2 ⟨rfl, hb⟩
  have hS2 : Below u.heap.size u uc2 := bel_next hS1 hb
  refine hK.out _ _ ⟨hS2, ?_⟩
  clear hK K' hb hS1
  refine takeH hS2 (i := 14) (d := 22) (v := .bool true) rfl rfl (by kernel_rfl) (by kernel_rfl) (by kernel_rfl) (fun _ _ _ h => h) (Or.inl ⟨by kernel_rfl, fun w' hw' => by exact exec_leq _ _ rfl (parI g) (g.s) rfl rfl true (decide_eq_true K1.out.2.1) rfl⟩) ?_
  refine takeH hS2 (i := 15) (d := 23) (v := .bool true) rfl rfl (by kernel_rfl) (by kernel_rfl) (by kernel_rfl) (fun _ _ _ h => h) (Or.inl ⟨by kernel_rfl, fun w' hw' => by kernel_rfl⟩) ?_
  refine takeH hS2 (i := 16) (d := 24) (v := .bool true) rfl rfl (by kernel_rfl) (by kernel_rfl) (by kernel_rfl) (fun _ _ _ h => h) (Or.inl ⟨by kernel_rfl, fun w' hw' => by kernel_rfl⟩) ?_
  refine takeH hS2 (i := 17) (d := 25) (v := .pointer (some ⟨w.heap.size, 1, none⟩)) rfl rfl (by kernel_rfl) (by kernel_rfl) (by kernel_rfl) (fun _ _ _ h => h) (Or.inl ⟨by kernel_rfl, fun w' hw' => by kernel_rfl⟩) ?_
  try go_frame
  refine takeH hS2 (i := 18) (d := 26) (v := .int .i64 (g.z)) rfl rfl (by kernel_rfl) (by kernel_rfl) (by kernel_rfl) (fun _ _ _ h => h) (Or.inl ⟨by kernel_rfl, fun w' hw' => by exact exec_cell _ rfl ⟨w.heap.size, 1, none⟩ rfl _ Try.underlying3 (((HF2.out.below hw' HF2.out.lt).cell 1).trans (geA_at1 g))⟩) ?_
  refine takeH hS2 (i := 19) (d := 27) (v := .pointer (some ⟨w.heap.size, 4, none⟩)) rfl rfl (by kernel_rfl) (by kernel_rfl) (by kernel_rfl) (fun _ _ _ h => h) (Or.inl ⟨by kernel_rfl, fun w' hw' => by kernel_rfl⟩) ?_
  refine takeH hS2 (i := 20) (d := 28) (v := .int .i64 (g.p)) rfl rfl (by kernel_rfl) (by kernel_rfl) (by kernel_rfl) (fun _ _ _ h => h) (Or.inl ⟨by kernel_rfl, fun w' hw' => by exact exec_cell _ rfl ⟨w.heap.size, 4, none⟩ rfl _ Try.underlying3 (((HF2.out.below hw' HF2.out.lt).cell 4).trans (geA_at4 g))⟩) ?_
  refine takeH hS2 (i := 21) (d := 29) (v := .int .i64 ((g.p) + (2))) rfl rfl (by kernel_rfl) (by kernel_rfl) (by kernel_rfl) (fun _ _ _ h => h) (Or.inl ⟨by kernel_rfl, fun w' hw' => by exact exec_add _ _ rfl (g.p) (2) ((g.p) + (2)) rfl rfl (rfl) (by omega)⟩) ?_
  try go_frame
  refine takeH hS2 (i := 22) (d := 30) (v := .bool true) rfl rfl (by kernel_rfl) (by kernel_rfl) (by kernel_rfl) (fun _ _ _ h => h) (Or.inl ⟨by kernel_rfl, fun w' hw' => by exact exec_gtr _ _ rfl (g.z) ((g.p) + (2)) rfl rfl true (decide_eq_true K2.out.2) rfl⟩) ?_
  refine takeH hS2 (i := 23) (d := 31) (v := .bool true) rfl rfl (by kernel_rfl) (by kernel_rfl) (by kernel_rfl) (fun _ _ _ h => h) (Or.inl ⟨by kernel_rfl, fun w' hw' => by kernel_rfl⟩) ?_
  refine takeH hS2 (i := 24) (d := 32) (v := .bool true) rfl rfl (by kernel_rfl) (by kernel_rfl) (by kernel_rfl) (fun _ _ _ h => h) (Or.inl ⟨by kernel_rfl, fun w' hw' => by kernel_rfl⟩) ?_
  refine takeH hS2 (i := 25) (d := 33) (v := .agg (geA g)) rfl rfl (by kernel_rfl) (by kernel_rfl) (by kernel_rfl) (fun _ _ _ h => h) (Or.inl ⟨by kernel_rfl, fun w' hw' => by exact exec_load _ rfl (w.heap.size) rfl (HF2.out.below hw' HF2.out.lt) Try.underlying23 rfl (info_geA g)⟩) ?_
  try go_frame
  refine nextH (i := 26) rfl (by kernel_rfl) (by kernel_rfl) (fun K' hK => ?_)
  go_wp2_with fail
  refine (segments_any g _ H.out).mono ?_
  rintro en uc3 ⟨rfl, hb⟩
  have hS3 : Below u.heap.size u uc3 := bel_next hS2 hb
  refine hK.out _ _ ⟨hS3, ?_⟩
  clear hK K' hb hS2
  refine takeH hS3 (i := 27) (d := 35) (v := .bool true) rfl rfl (by kernel_rfl) (by kernel_rfl) (by kernel_rfl) (fun _ _ _ h => h) (Or.inl ⟨by kernel_rfl, fun w' hw' => by exact exec_geq _ _ rfl (segI g) (1) rfl rfl true (decide_eq_true K2.out.1) rfl⟩) ?_
  refine takeH hS3 (i := 28) (d := 36) (v := .bool true) rfl rfl (by kernel_rfl) (by kernel_rfl) (by kernel_rfl) (fun _ _ _ h => h) (Or.inl ⟨by kernel_rfl, fun w' hw' => by kernel_rfl⟩) ?_
  refine takeH hS3 (i := 29) (d := 37) (v := .bool true) rfl rfl (by kernel_rfl) (by kernel_rfl) (by kernel_rfl) (fun _ _ _ h => h) (Or.inl ⟨by kernel_rfl, fun w' hw' => by kernel_rfl⟩) ?_
  refine takeH hS3 (i := 30) (d := 38) (v := .agg (geA g)) rfl rfl (by kernel_rfl) (by kernel_rfl) (by kernel_rfl) (fun _ _ _ h => h) (Or.inl ⟨by kernel_rfl, fun w' hw' => by exact exec_load _ rfl (w.heap.size) rfl (HF2.out.below hw' HF2.out.lt) Try.underlying23 rfl (info_geA g)⟩) ?_
  try go_frame
  refine nextH (i := 31) rfl (by kernel_rfl) (by kernel_rfl) (fun K' hK => ?_)
  go_wp2_with fail
  refine (commands_any g _ H.out).mono ?_
  rintro en uc4 ⟨rfl, hb⟩
  have hS4 : Below u.heap.size u uc4 := bel_next hS3 hb
  refine hK.out _ _ ⟨hS4, ?_⟩
  clear hK K' hb hS3
  refine takeH hS4 (i := 32) (d := 40) (v := .bool true) rfl rfl (by kernel_rfl) (by kernel_rfl) (by kernel_rfl) (fun _ _ _ h => h) (Or.inl ⟨by kernel_rfl, fun w' hw' => by exact exec_gtr _ _ rfl (comI g) (0) rfl rfl true (decide_eq_true (by omega)) rfl⟩) ?_
  refine takeH hS4 (i := 33) (d := 41) (v := .bool true) rfl rfl (by kernel_rfl) (by kernel_rfl) (by kernel_rfl) (fun _ _ _ h => h) (Or.inl ⟨by kernel_rfl, fun w' hw' => by kernel_rfl⟩) ?_
  refine takeH hS4 (i := 34) (d := 42) (v := .bool true) rfl rfl (by kernel_rfl) (by kernel_rfl) (by kernel_rfl) (fun _ _ _ h => h) (Or.inl ⟨by kernel_rfl, fun w' hw' => by kernel_rfl⟩) ?_
  refine takeH hS4 (i := 35) (d := 43) (v := .agg (geA g)) rfl rfl (by kernel_rfl) (by kernel_rfl) (by kernel_rfl) (fun _ _ _ h => h) (Or.inl ⟨by kernel_rfl, fun w' hw' => by exact exec_load _ rfl (w.heap.size) rfl (HF2.out.below hw' HF2.out.lt) Try.underlying23 rfl (info_geA g)⟩) ?_
  try go_frame
  refine takeH hS4 (i := 37) (d := 45) (v := .pointer (some ⟨w.heap.size, 3, none⟩)) rfl rfl (by kernel_rfl) (by kernel_rfl) (by kernel_rfl) (fun _ _ _ h => h) (Or.inl ⟨by kernel_rfl, fun w' hw' => by kernel_rfl⟩) ?_
  refine takeH hS4 (i := 38) (d := 46) (v := .int .i64 (g.b)) rfl rfl (by kernel_rfl) (by kernel_rfl) (by kernel_rfl) (fun _ _ _ h => h) (Or.inl ⟨by kernel_rfl, fun w' hw' => by exact exec_cell _ rfl ⟨w.heap.size, 3, none⟩ rfl _ Try.underlying3 (((HF2.out.below hw' HF2.out.lt).cell 3).trans (geA_at3 g))⟩) ?_
  refine takeH hS4 (i := 39) (d := 47) (v := .int .i64 ((g.b) + (3))) rfl rfl (by kernel_rfl) (by kernel_rfl) (by kernel_rfl) (fun _ _ _ h => h) (Or.inl ⟨by kernel_rfl, fun w' hw' => by exact exec_add _ _ rfl (g.b) (3) ((g.b) + (3)) rfl rfl (rfl) (by omega)⟩) ?_
  refine takeH hS4 (i := 40) (d := 48) (v := .int .i64 ((6) * ((g.b) + (3)))) rfl rfl (by kernel_rfl) (by kernel_rfl) (by kernel_rfl) (fun _ _ _ h => h) (Or.inl ⟨by kernel_rfl, fun w' hw' => by exact exec_mul _ _ rfl (6) ((g.b) + (3)) ((6) * ((g.b) + (3))) rfl rfl (rfl) (by omega)⟩) ?_
  try go_frame
  refine nextH (i := 36) rfl (by kernel_rfl) (by kernel_rfl) (fun K' hK => ?_)
  go_wp2_with fail
  refine (passes_any g _ H.out).mono ?_
  rintro en uc5 ⟨rfl, hb⟩
  have hS5 : Below u.heap.size u uc5 := bel_next hS4 hb
  refine hK.out _ _ ⟨hS5, ?_⟩
  clear hK K' hb hS4
  refine takeH hS5 (i := 41) (d := 49) (v := .bool true) rfl rfl (by kernel_rfl) (by kernel_rfl) (by kernel_rfl) (fun _ _ _ h => h) (Or.inl ⟨by kernel_rfl, fun w' hw' => by exact exec_geq _ _ rfl (pasI g) ((6) * ((g.b) + (3))) rfl rfl true (decide_eq_true K3.out) rfl⟩) ?_
  refine takeH hS5 (i := 42) (d := 50) (v := .bool true) rfl rfl (by kernel_rfl) (by kernel_rfl) (by kernel_rfl) (fun _ _ _ h => h) (Or.inl ⟨by kernel_rfl, fun w' hw' => by kernel_rfl⟩) ?_
  refine takeH hS5 (i := 43) (d := 2) (v := .bool true) rfl rfl (by kernel_rfl) (by kernel_rfl) (by kernel_rfl) (fun _ _ _ h => h) (Or.inl ⟨by kernel_rfl, fun w' hw' => by kernel_rfl⟩) ?_
  refine wpAnyH_done (by kernel_rfl) ?_ _
  try go_frame
  have HB3 := Lib.hid (bthen HB2.out hS5)
  clear hS5 HB2 HF2
  go_wp2_with fail
  go_ret
  exact ⟨rfl, HB3.out⟩

theorem walkGeomRooms (g : GeR) (w : World) (h : GeOk g) :
    Calls Try.prog 6 #[.agg (geA g)] w fun e w' => e = .returned (.bool true) ∧ Below w.heap.size w w' := by
  cases hr : gB g with
  | false => exact walkRooms_n g w hr
  | true => exact walkRooms_t g w hr

end Go.Proofs.Ytkjjhcpfblhijaa
