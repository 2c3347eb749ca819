/-
  Contracts of layer 5 (geom) whose statements draw their order: used, Segments, Commands, Passes.
-/
import Derived.Test.YtkjjhcpfblhijaaGeomB
namespace Go.Proofs.Ytkjjhcpfblhijaa
open Go.RowKit
set_option linter.unusedVariables false
set_option linter.unnecessarySimpa false
set_option linter.unusedSimpArgs false

set_option maxRecDepth 100000 in
set_option maxHeartbeats 2000000 in
theorem used_any (g : GeR) (w : World) (h : Lim g) :
    Calls Try.prog 23 #[.agg (geA g)] w fun e w' => e = .returned (.int .i64 (useI g)) ∧ Below w.heap.size w w' := by
  have hB := below_alloc w (Obj.cells (geA g) 23)
  have hF : Blk (w.alloc (Obj.cells (geA g) 23)) w.heap.size 23 (geA g) := Blk.new _ _ _
  have HB := Lib.hid hB
  have HF := Lib.hid hF
  clear hF hB
  have H := Lib.hid h
  clear h
  go_enter Try.func23, Try.ntmps23
  go_upto_region 1 with fail
  generalize w.alloc (Obj.cells (geA g) 23) = u at *
  refine wp_region_held (S := fun w' => Below u.heap.size u w') (by kernel_rfl) ?_
  change wpAnyH _ _ _ _ _ _ _ _ (World.drew _)
  have hS : Below u.heap.size u u.drew := (Below.refl _ _).drew
  refine takeH hS (i := 0) (d := 5) (v := .agg (geA g)) rfl rfl (by kernel_rfl) (by kernel_rfl) (by kernel_rfl) (fun _ _ _ h => h) (Or.inl ⟨by kernel_rfl, fun w' hw' => by exact exec_load _ rfl (w.heap.size) rfl (HF.out.below hw' HF.out.lt) Try.underlying23 rfl (info_geA g)⟩) ?_
  refine takeH hS (i := 2) (d := 7) (v := .agg (geA g)) rfl rfl (by kernel_rfl) (by kernel_rfl) (by kernel_rfl) (fun _ _ _ h => h) (Or.inl ⟨by kernel_rfl, fun w' hw' => by exact exec_load _ rfl (w.heap.size) rfl (HF.out.below hw' HF.out.lt) Try.underlying23 rfl (info_geA g)⟩) ?_
  try go_frame
  refine nextH (i := 1) rfl (by kernel_rfl) (by kernel_rfl) (fun K' hK => ?_)
  go_wp2_with fail
  refine (safe_any g _ H.out).mono ?_
  rintro en uc1 ⟨rfl, hb⟩
  have hS1 : Below u.heap.size u uc1 := bel_next hS hb
  refine hK.out _ _ ⟨hS1, ?_⟩
  clear hK K' hb hS
  refine nextH (i := 3) rfl (by kernel_rfl) (by kernel_rfl) (fun K' hK => ?_)
  go_wp2_with fail
  refine (reserve_any g _ H.out).mono ?_
  rintro en uc2 ⟨rfl, hb⟩
  have hS2 : Below u.heap.size u uc2 := bel_next hS1 hb
  refine hK.out _ _ ⟨hS2, ?_⟩
  clear hK K' hb hS1
  refine takeH hS2 (i := 4) (d := 3) (v := .int .i64 (safI g)) rfl rfl (by kernel_rfl) (by kernel_rfl) (by kernel_rfl) (fun _ _ _ h => h) (Or.inl ⟨by kernel_rfl, fun w' hw' => by kernel_rfl⟩) ?_
  refine takeH hS2 (i := 5) (d := 4) (v := .int .i64 (resI g)) rfl rfl (by kernel_rfl) (by kernel_rfl) (by kernel_rfl) (fun _ _ _ h => h) (Or.inl ⟨by kernel_rfl, fun w' hw' => by kernel_rfl⟩) ?_
  refine wpAnyH_done (by kernel_rfl) ?_ _
  try go_frame
  have c0 := ((HF.out.below hS2 HF.out.lt).cell 0).trans (geA_at0 g)
  have HB2 := Lib.hid (bthen HB.out hS2)
  obtain ⟨a1, a2⟩ := saf_bd H.out
  obtain ⟨a3, a4⟩ := res_bd H.out
  obtain ⟨a5, a6⟩ := dsaf_bd H.out
  obtain ⟨a7, a8⟩ := d1saf_bd H.out
  obtain ⟨a9, a10⟩ := H.out.d
  clear hS2 HB HF
  go_wp2_with fail
  all_goals (go_ret; exact ⟨ret_int (by unfold useI us1 us2; split <;> omega), HB2.out⟩)

set_option maxRecDepth 100000 in
set_option maxHeartbeats 2000000 in
theorem segments_any (g : GeR) (w : World) (h : Lim g) :
    Calls Try.prog 14 #[.agg (geA g)] w fun e w' => e = .returned (.int .i64 (segI g)) ∧ Below w.heap.size w w' := by
  have hB := below_alloc w (Obj.cells (geA g) 23)
  have hF : Blk (w.alloc (Obj.cells (geA g) 23)) w.heap.size 23 (geA g) := Blk.new _ _ _
  have HB := Lib.hid hB
  have HF := Lib.hid hF
  clear hF hB
  obtain ⟨a1, a2⟩ := use_bd h
  obtain ⟨a3, a4⟩ := fai_bd h
  obtain ⟨a5, a6⟩ := seg_bd h
  have H := Lib.hid h
  clear h
  go_enter Try.func14, Try.ntmps14
  go_upto_region 1 with fail
  generalize w.alloc (Obj.cells (geA g) 23) = u at *
  refine wp_region_held (S := fun w' => Below u.heap.size u w') (by kernel_rfl) ?_
  change wpAnyH _ _ _ _ _ _ _ _ (World.drew _)
  have hS : Below u.heap.size u u.drew := (Below.refl _ _).drew
  refine takeH hS (i := 0) (d := 3) (v := .agg (geA g)) rfl rfl (by kernel_rfl) (by kernel_rfl) (by kernel_rfl) (fun _ _ _ h => h) (Or.inl ⟨by kernel_rfl, fun w' hw' => by exact exec_load _ rfl (w.heap.size) rfl (HF.out.below hw' HF.out.lt) Try.underlying23 rfl (info_geA g)⟩) ?_
  refine takeH hS (i := 4) (d := 7) (v := .agg (geA g)) rfl rfl (by kernel_rfl) (by kernel_rfl) (by kernel_rfl) (fun _ _ _ h => h) (Or.inl ⟨by kernel_rfl, fun w' hw' => by exact exec_load _ rfl (w.heap.size) rfl (HF.out.below hw' HF.out.lt) Try.underlying23 rfl (info_geA g)⟩) ?_
  try go_frame
  refine nextH (i := 1) rfl (by kernel_rfl) (by kernel_rfl) (fun K' hK => ?_)
  go_wp2_with fail
  refine (used_any g _ H.out).mono ?_
  rintro en uc1 ⟨rfl, hb⟩
  have hS1 : Below u.heap.size u uc1 := bel_next hS hb
  refine hK.out _ _ ⟨hS1, ?_⟩
  clear hK K' hb hS
  refine takeH hS1 (i := 2) (d := 5) (v := .int .i64 (useI g / 2)) rfl rfl (by kernel_rfl) (by kernel_rfl) (by kernel_rfl) (fun _ _ _ h => h) (Or.inl ⟨by kernel_rfl, fun w' hw' => by exact exec_shr _ _ rfl (useI g) (useI g / 2) 1 rfl rfl (by decide) (by rw [Int.fdiv_eq_ediv_of_nonneg _ (by decide)]; rfl)⟩) ?_
  refine takeH hS1 (i := 3) (d := 6) (v := .int .i64 ((useI g / 2) - (1))) rfl rfl (by kernel_rfl) (by kernel_rfl) (by kernel_rfl) (fun _ _ _ h => h) (Or.inl ⟨by kernel_rfl, fun w' hw' => by exact exec_sub _ _ rfl (useI g / 2) (1) ((useI g / 2) - (1)) rfl rfl (rfl) (by omega)⟩) ?_
  try go_frame
  refine nextH (i := 5) rfl (by kernel_rfl) (by kernel_rfl) (fun K' hK => ?_)
  go_wp2_with fail
  refine (failing_any g _ H.out).mono ?_
  rintro en uc2 ⟨rfl, hb⟩
  have hS2 : Below u.heap.size u uc2 := bel_next hS1 hb
  refine hK.out _ _ ⟨hS2, ?_⟩
  clear hK K' hb hS1
  refine takeH hS2 (i := 6) (d := 9) (v := .int .i64 (segI g)) rfl rfl (by kernel_rfl) (by kernel_rfl) (by kernel_rfl) (fun _ _ _ h => h) (Or.inl ⟨by kernel_rfl, fun w' hw' => by exact exec_sub _ _ rfl ((useI g / 2) - (1)) (faiI g) (segI g) rfl rfl (rfl) (by omega)⟩) ?_
  refine takeH hS2 (i := 7) (d := 2) (v := .int .i64 (segI g)) rfl rfl (by kernel_rfl) (by kernel_rfl) (by kernel_rfl) (fun _ _ _ h => h) (Or.inl ⟨by kernel_rfl, fun w' hw' => by kernel_rfl⟩) ?_
  refine wpAnyH_done (by kernel_rfl) ?_ _
  try go_frame
  have HB2 := Lib.hid (bthen HB.out hS2)
  clear hS2 HB HF
  go_wp2_with fail
  go_ret
  exact ⟨rfl, HB2.out⟩

set_option maxRecDepth 100000 in
set_option maxHeartbeats 2000000 in
theorem commands_any (g : GeR) (w : World) (h : Lim g) :
    Calls Try.prog 16 #[.agg (geA g)] w fun e w' => e = .returned (.int .i64 (comI g)) ∧ Below w.heap.size w w' := by
  have hB := below_alloc w (Obj.cells (geA g) 23)
  have hF : Blk (w.alloc (Obj.cells (geA g) 23)) w.heap.size 23 (geA g) := Blk.new _ _ _
  have HB := Lib.hid hB
  have HF := Lib.hid hF
  clear hF hB
  obtain ⟨a0, a1⟩ := all_bd h
  obtain ⟨a2, a3⟩ := par_bd h
  obtain ⟨a4, a5⟩ := com1_bd h
  obtain ⟨a6, a7⟩ := com2_bd h
  obtain ⟨a8, a9⟩ := com3_bd h
  obtain ⟨a10, a11⟩ := com_bd h
  obtain ⟨b0, b1⟩ := h.s
  obtain ⟨b2, b3⟩ := h.b
  have H := Lib.hid h
  clear h
  go_enter Try.func16, Try.ntmps16
  go_upto_region 2 with (refine wpl_load_g (by rfl) _ rfl (w.heap.size) rfl _ _ _ HF.out Try.underlying23 rfl (info_geA g) ?_; go_frame)
  refine (all_any g _ H.out).mono ?_
  rintro e u ⟨rfl, hb1⟩
  have HF1 := Lib.hid (HF.out.below hb1 HF.out.lt)
  have HB1 := Lib.hid (bthen HB.out hb1)
  clear HF HB hb1
  go_upto_region 2 with fail
  refine wp_region_held (S := fun w' => Below u.heap.size u w') (by kernel_rfl) ?_
  change wpAnyH _ _ _ _ _ _ _ _ (World.drew _)
  have hS : Below u.heap.size u u.drew := (Below.refl _ _).drew
  refine takeH hS (i := 0) (d := 7) (v := .int .i64 (allI g + 2)) rfl rfl (by kernel_rfl) (by kernel_rfl) (by kernel_rfl) (fun _ _ _ h => h) (Or.inl ⟨by kernel_rfl, fun w' hw' => by kernel_rfl⟩) ?_
  refine takeH hS (i := 1) (d := 8) (v := .int .i64 ((64) * (allI g + 2))) rfl rfl (by kernel_rfl) (by kernel_rfl) (by kernel_rfl) (fun _ _ _ h => h) (Or.inl ⟨by kernel_rfl, fun w' hw' => by exact exec_mul _ _ rfl (64) (allI g + 2) ((64) * (allI g + 2)) rfl rfl (rfl) (by omega)⟩) ?_
  refine takeH hS (i := 2) (d := 9) (v := .int .i64 (allI g + 2)) rfl rfl (by kernel_rfl) (by kernel_rfl) (by kernel_rfl) (fun _ _ _ h => h) (Or.inl ⟨by kernel_rfl, fun w' hw' => by kernel_rfl⟩) ?_
  refine takeH hS (i := 3) (d := 10) (v := .int .i64 (((64) * (allI g + 2)) * (allI g + 2))) rfl rfl (by kernel_rfl) (by kernel_rfl) (by kernel_rfl) (fun _ _ _ h => h) (Or.inl ⟨by kernel_rfl, fun w' hw' => by exact exec_mul _ _ rfl ((64) * (allI g + 2)) (allI g + 2) (((64) * (allI g + 2)) * (allI g + 2)) rfl rfl (rfl) (by omega)⟩) ?_
  try go_frame
  refine takeH hS (i := 4) (d := 11) (v := .pointer (some ⟨w.heap.size, 2, none⟩)) rfl rfl (by kernel_rfl) (by kernel_rfl) (by kernel_rfl) (fun _ _ _ h => h) (Or.inl ⟨by kernel_rfl, fun w' hw' => by kernel_rfl⟩) ?_
  refine takeH hS (i := 5) (d := 12) (v := .int .i64 (g.s)) rfl rfl (by kernel_rfl) (by kernel_rfl) (by kernel_rfl) (fun _ _ _ h => h) (Or.inl ⟨by kernel_rfl, fun w' hw' => by exact exec_cell _ rfl ⟨w.heap.size, 2, none⟩ rfl _ Try.underlying3 (((HF1.out.below hw' HF1.out.lt).cell 2).trans (geA_at2 g))⟩) ?_
  refine takeH hS (i := 6) (d := 13) (v := .int .i64 ((g.s) + (2))) rfl rfl (by kernel_rfl) (by kernel_rfl) (by kernel_rfl) (fun _ _ _ h => h) (Or.inl ⟨by kernel_rfl, fun w' hw' => by exact exec_add _ _ rfl (g.s) (2) ((g.s) + (2)) rfl rfl (rfl) (by omega)⟩) ?_
  refine takeH hS (i := 7) (d := 14) (v := .int .i64 ((((64) * (allI g + 2)) * (allI g + 2)) * ((g.s) + (2)))) rfl rfl (by kernel_rfl) (by kernel_rfl) (by kernel_rfl) (fun _ _ _ h => h) (Or.inl ⟨by kernel_rfl, fun w' hw' => by exact exec_mul _ _ rfl (((64) * (allI g + 2)) * (allI g + 2)) ((g.s) + (2)) ((((64) * (allI g + 2)) * (allI g + 2)) * ((g.s) + (2))) rfl rfl (rfl) (by omega)⟩) ?_
  try go_frame
  refine takeH hS (i := 8) (d := 15) (v := .pointer (some ⟨w.heap.size, 3, none⟩)) rfl rfl (by kernel_rfl) (by kernel_rfl) (by kernel_rfl) (fun _ _ _ h => h) (Or.inl ⟨by kernel_rfl, fun w' hw' => by kernel_rfl⟩) ?_
  refine takeH hS (i := 9) (d := 16) (v := .int .i64 (g.b)) rfl rfl (by kernel_rfl) (by kernel_rfl) (by kernel_rfl) (fun _ _ _ h => h) (Or.inl ⟨by kernel_rfl, fun w' hw' => by exact exec_cell _ rfl ⟨w.heap.size, 3, none⟩ rfl _ Try.underlying3 (((HF1.out.below hw' HF1.out.lt).cell 3).trans (geA_at3 g))⟩) ?_
  refine takeH hS (i := 10) (d := 17) (v := .pointer (some ⟨w.heap.size, 2, none⟩)) rfl rfl (by kernel_rfl) (by kernel_rfl) (by kernel_rfl) (fun _ _ _ h => h) (Or.inl ⟨by kernel_rfl, fun w' hw' => by kernel_rfl⟩) ?_
  refine takeH hS (i := 11) (d := 18) (v := .int .i64 (g.s)) rfl rfl (by kernel_rfl) (by kernel_rfl) (by kernel_rfl) (fun _ _ _ h => h) (Or.inl ⟨by kernel_rfl, fun w' hw' => by exact exec_cell _ rfl ⟨w.heap.size, 2, none⟩ rfl _ Try.underlying3 (((HF1.out.below hw' HF1.out.lt).cell 2).trans (geA_at2 g))⟩) ?_
  try go_frame
  refine takeH hS (i := 12) (d := 19) (v := .int .i64 ((g.b) + (g.s))) rfl rfl (by kernel_rfl) (by kernel_rfl) (by kernel_rfl) (fun _ _ _ h => h) (Or.inl ⟨by kernel_rfl, fun w' hw' => by exact exec_add _ _ rfl (g.b) (g.s) ((g.b) + (g.s)) rfl rfl (rfl) (by omega)⟩) ?_
  refine takeH hS (i := 13) (d := 20) (v := .agg (geA g)) rfl rfl (by kernel_rfl) (by kernel_rfl) (by kernel_rfl) (fun _ _ _ h => h) (Or.inl ⟨by kernel_rfl, fun w' hw' => by exact exec_load _ rfl (w.heap.size) rfl (HF1.out.below hw' HF1.out.lt) Try.underlying23 rfl (info_geA g)⟩) ?_
  try go_frame
  refine nextH (i := 14) rfl (by kernel_rfl) (by kernel_rfl) (fun K' hK => ?_)
  go_wp2_with fail
  refine (parts_any g _ H.out).mono ?_
  rintro en uc1 ⟨rfl, hb⟩
  have hS1 : Below u.heap.size u uc1 := bel_next hS hb
  refine hK.out _ _ ⟨hS1, ?_⟩
  clear hK K' hb hS
  refine takeH hS1 (i := 15) (d := 22) (v := .int .i64 (((g.b) + (g.s)) + (parI g))) rfl rfl (by kernel_rfl) (by kernel_rfl) (by kernel_rfl) (fun _ _ _ h => h) (Or.inl ⟨by kernel_rfl, fun w' hw' => by exact exec_add _ _ rfl ((g.b) + (g.s)) (parI g) (((g.b) + (g.s)) + (parI g)) rfl rfl (rfl) (by omega)⟩) ?_
  refine takeH hS1 (i := 16) (d := 23) (v := .int .i64 ((((g.b) + (g.s)) + (parI g)) + (4))) rfl rfl (by kernel_rfl) (by kernel_rfl) (by kernel_rfl) (fun _ _ _ h => h) (Or.inl ⟨by kernel_rfl, fun w' hw' => by exact exec_add _ _ rfl (((g.b) + (g.s)) + (parI g)) (4) ((((g.b) + (g.s)) + (parI g)) + (4)) rfl rfl (rfl) (by omega)⟩) ?_
  refine takeH hS1 (i := 17) (d := 24) (v := .int .i64 (comI g)) rfl rfl (by kernel_rfl) (by kernel_rfl) (by kernel_rfl) (fun _ _ _ h => h) (Or.inl ⟨by kernel_rfl, fun w' hw' => by exact exec_mul _ _ rfl ((((64) * (allI g + 2)) * (allI g + 2)) * ((g.s) + (2))) ((((g.b) + (g.s)) + (parI g)) + (4)) (comI g) rfl rfl (rfl) (by omega)⟩) ?_
  refine takeH hS1 (i := 18) (d := 2) (v := .int .i64 (comI g)) rfl rfl (by kernel_rfl) (by kernel_rfl) (by kernel_rfl) (fun _ _ _ h => h) (Or.inl ⟨by kernel_rfl, fun w' hw' => by kernel_rfl⟩) ?_
  try go_frame
  refine wpAnyH_done (by kernel_rfl) ?_ _
  try go_frame
  have HB2 := Lib.hid (bthen HB1.out hS1)
  clear hS1 HB1 HF1
  go_wp2_with fail
  go_ret
  exact ⟨rfl, HB2.out⟩

set_option maxRecDepth 100000 in
set_option maxHeartbeats 2000000 in
theorem passes_any (g : GeR) (w : World) (h : Lim g) :
    Calls Try.prog 17 #[.agg (geA g)] w fun e w' => e = .returned (.int .i64 (pasI g)) ∧ Below w.heap.size w w' := by
  have hB := below_alloc w (Obj.cells (geA g) 23)
  have hF : Blk (w.alloc (Obj.cells (geA g) 23)) w.heap.size 23 (geA g) := Blk.new _ _ _
  have HB := Lib.hid hB
  have HF := Lib.hid hF
  clear hF hB
  obtain ⟨a0, a1⟩ := fai_bd h
  obtain ⟨a2, a3⟩ := pas1_bd h
  obtain ⟨a4, a5⟩ := pas_bd h
  obtain ⟨b2, b3⟩ := h.b
  have H := Lib.hid h
  clear h
  go_enter Try.func17, Try.ntmps17
  go_upto_region 1 with fail
  generalize w.alloc (Obj.cells (geA g) 23) = u at *
  refine wp_region_held (S := fun w' => Below u.heap.size u w') (by kernel_rfl) ?_
  change wpAnyH _ _ _ _ _ _ _ _ (World.drew _)
  have hS : Below u.heap.size u u.drew := (Below.refl _ _).drew
  refine takeH hS (i := 0) (d := 3) (v := .agg (geA g)) rfl rfl (by kernel_rfl) (by kernel_rfl) (by kernel_rfl) (fun _ _ _ h => h) (Or.inl ⟨by kernel_rfl, fun w' hw' => by exact exec_load _ rfl (w.heap.size) rfl (HF.out.below hw' HF.out.lt) Try.underlying23 rfl (info_geA g)⟩) ?_
  refine takeH hS (i := 4) (d := 7) (v := .pointer (some ⟨w.heap.size, 3, none⟩)) rfl rfl (by kernel_rfl) (by kernel_rfl) (by kernel_rfl) (fun _ _ _ h => h) (Or.inl ⟨by kernel_rfl, fun w' hw' => by kernel_rfl⟩) ?_
  refine takeH hS (i := 5) (d := 8) (v := .int .i64 (g.b)) rfl rfl (by kernel_rfl) (by kernel_rfl) (by kernel_rfl) (fun _ _ _ h => h) (Or.inl ⟨by kernel_rfl, fun w' hw' => by exact exec_cell _ rfl ⟨w.heap.size, 3, none⟩ rfl _ Try.underlying3 (((HF.out.below hw' HF.out.lt).cell 3).trans (geA_at3 g))⟩) ?_
  refine takeH hS (i := 6) (d := 9) (v := .int .i64 ((g.b) + (3))) rfl rfl (by kernel_rfl) (by kernel_rfl) (by kernel_rfl) (fun _ _ _ h => h) (Or.inl ⟨by kernel_rfl, fun w' hw' => by exact exec_add _ _ rfl (g.b) (3) ((g.b) + (3)) rfl rfl (rfl) (by omega)⟩) ?_
  try go_frame
  refine nextH (i := 1) rfl (by kernel_rfl) (by kernel_rfl) (fun K' hK => ?_)
  go_wp2_with fail
  refine (failing_any g _ H.out).mono ?_
  rintro en uc1 ⟨rfl, hb⟩
  have hS1 : Below u.heap.size u uc1 := bel_next hS hb
  refine hK.out _ _ ⟨hS1, ?_⟩
  clear hK K' hb hS
  refine takeH hS1 (i := 2) (d := 5) (v := .int .i64 ((faiI g) + (2))) rfl rfl (by kernel_rfl) (by kernel_rfl) (by kernel_rfl) (fun _ _ _ h => h) (Or.inl ⟨by kernel_rfl, fun w' hw' => by exact exec_add _ _ rfl (faiI g) (2) ((faiI g) + (2)) rfl rfl (rfl) (by omega)⟩) ?_
  refine takeH hS1 (i := 3) (d := 6) (v := .int .i64 ((3) * ((faiI g) + (2)))) rfl rfl (by kernel_rfl) (by kernel_rfl) (by kernel_rfl) (fun _ _ _ h => h) (Or.inl ⟨by kernel_rfl, fun w' hw' => by exact exec_mul _ _ rfl (3) ((faiI g) + (2)) ((3) * ((faiI g) + (2))) rfl rfl (rfl) (by omega)⟩) ?_
  refine takeH hS1 (i := 7) (d := 10) (v := .int .i64 (pasI g)) rfl rfl (by kernel_rfl) (by kernel_rfl) (by kernel_rfl) (fun _ _ _ h => h) (Or.inl ⟨by kernel_rfl, fun w' hw' => by exact exec_mul _ _ rfl ((3) * ((faiI g) + (2))) ((g.b) + (3)) (pasI g) rfl rfl (rfl) (by omega)⟩) ?_
  refine takeH hS1 (i := 8) (d := 2) (v := .int .i64 (pasI g)) rfl rfl (by kernel_rfl) (by kernel_rfl) (by kernel_rfl) (fun _ _ _ h => h) (Or.inl ⟨by kernel_rfl, fun w' hw' => by kernel_rfl⟩) ?_
  try go_frame
  refine wpAnyH_done (by kernel_rfl) ?_ _
  try go_frame
  have HB2 := Lib.hid (bthen HB.out hS1)
  clear hS1 HB HF
  go_wp2_with fail
  go_ret
  exact ⟨rfl, HB2.out⟩

end Go.Proofs.Ytkjjhcpfblhijaa
