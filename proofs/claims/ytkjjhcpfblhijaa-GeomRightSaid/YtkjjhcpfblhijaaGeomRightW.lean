/-
  The walk of GeomRight.
-/
import Derived.Test.YtkjjhcpfblhijaaGeomH
import Derived.Test.YtkjjhcpfblhijaaGeomE
namespace Go.Proofs.Ytkjjhcpfblhijaa
open Go.RowKit Go.Shelf
set_option linter.unusedVariables false
set_option linter.unnecessarySimpa false
set_option linter.unusedSimpArgs false

theorem zero_gr (w : World) : (zeroValue 25).run Try.prog w = .ok (.agg (geA ge0)) w := by kernel_rfl

set_option maxRecDepth 100000 in
set_option maxHeartbeats 4000000 in
theorem walkRight_false (g : GeR) (w : World) (hr : gB g = false) :
    Calls Try.prog 3 #[.agg (geA g)] w fun e w' => e = .returned (.bool true) ∧ Below w.heap.size w w' := by
  have hz := zero_gr
  have Hr := Lib.hid hr
  clear hr
  have HF := Lib.hid (Blk.new w 23 (geA g))
  have HB := Lib.hid (below_alloc w (Obj.cells (geA g) 23))
  go_enter Try.func3, Try.ntmps3
  go_upto_region 3 with fail
  refine (anchor5_any _).mono ?_
  rintro e w1 ⟨rfl, hb1⟩
  have HF1 := Lib.hid (HF.out.below hb1 HF.out.lt)
  have HB1 := Lib.hid (bthen HB.out hb1)
  clear HF HB hb1
  have HX2 := Lib.hid (Blk.new w1 25 (geA g))
  have HF2 := Lib.hid (HF1.out.alloc (Obj.cells (geA g) 25))
  have HB2 := Lib.hid (bthen HB1.out (below_alloc w1 (Obj.cells (geA g) 25)))
  go_upto_region 4 with (first | (refine wpl_load_g (by rfl) _ rfl (w.heap.size) rfl _ _ _ HF1.out Try.underlying23 rfl (info_geA g) ?_; go_frame) | (refine wpl_store_new rfl _ _ rfl (geA g) w1 25 (geA ge0) rfl rfl rfl (info_grA _) rfl (geA_one _) ?_; go_frame))
  clear hz HF1 HB1
  generalize w1.alloc (Obj.cells (geA g) 25) = u at *
  refine wp_region_held (S := fun w' => Below u.heap.size u w') (by kernel_rfl) ?_
  change wpAnyH _ _ _ _ _ _ _ _ (World.drew _)
  have hS : Below u.heap.size u u.drew := (Below.refl _ _).drew
  refine takeH hS (i := 0) (d := 8) (v := .agg (geA g)) rfl rfl (by kernel_rfl) (by kernel_rfl) (by kernel_rfl) (fun _ _ _ h => h) (Or.inl ⟨by kernel_rfl, fun w' hw' => by exact exec_load _ rfl (w.heap.size) rfl (HF2.out.below hw' HF2.out.lt) Try.underlying23 rfl (info_geA g)⟩) ?_
  refine takeH hS (i := 2) (d := 10) (v := .agg (geA g)) rfl rfl (by kernel_rfl) (by kernel_rfl) (by kernel_rfl) (fun _ _ _ h => h) (Or.inl ⟨by kernel_rfl, fun w' hw' => by exact exec_load _ rfl (w1.heap.size) rfl (HX2.out.below hw' HX2.out.lt) Try.underlying25 rfl (info_grA g)⟩) ?_
  try go_frame
  refine nextH (i := 1) rfl (by kernel_rfl) (by kernel_rfl) (fun K' hK => ?_)
  go_wp2_with fail
  refine (right_any g _).mono ?_
  rintro en uc1 ⟨rfl, hb⟩
  rw [Hr.out]
  have hS1 : Below u.heap.size u uc1 := bel_next hS hb
  refine hK.out _ _ ⟨hS1, ?_⟩
  clear hK K' hb hS
  refine nextH (i := 3) rfl (by kernel_rfl) (by kernel_rfl) (fun K' hK => ?_)
  go_wp2_with fail
  refine (rright_any g _).mono ?_
  rintro en uc2 ⟨rfl, hb⟩
  rw [Hr.out]
  have hS2 : Below u.heap.size u uc2 := bel_next hS1 hb
  refine hK.out _ _ ⟨hS2, ?_⟩
  clear hK K' hb hS1
  refine takeH hS2 (i := 4) (d := 12) (v := .bool false) rfl rfl (by kernel_rfl) (by kernel_rfl) (by kernel_rfl) (fun _ _ _ h => h) (Or.inl ⟨by kernel_rfl, fun w' hw' => by kernel_rfl⟩) ?_
  refine wpAnyH_done (by kernel_rfl) ?_ _
  try go_frame
  have HF3 := Lib.hid (HF2.out.below hS2 HF2.out.lt)
  have HX3 := Lib.hid (HX2.out.below hS2 HX2.out.lt)
  have HB3 := Lib.hid (bthen HB2.out hS2)
  clear hS2 HF2 HX2 HB2
  go_wp2_with (refine wpl_load_g (by rfl) _ rfl (w1.heap.size) rfl _ _ _ HX3.out Try.underlying25 rfl (info_grA g) ?_; go_frame)
  refine (rright_any g _).mono ?_
  rintro e w4 ⟨rfl, hb⟩
  rw [Hr.out]
  have HF4 := Lib.hid (HF3.out.below hb HF3.out.lt)
  have HX4 := Lib.hid (HX3.out.below hb HX3.out.lt)
  have HB4 := Lib.hid (bthen HB3.out hb)
  clear hb HB3 HF3 HX3
  go_wp2_with fail
  go_ret
  exact ⟨rfl, HB4.out⟩

set_option maxRecDepth 100000 in
set_option maxHeartbeats 4000000 in
theorem walkRight_true (g : GeR) (w : World) (hr : gB g = true) :
    Calls Try.prog 3 #[.agg (geA g)] w fun e w' => e = .returned (.bool true) ∧ Below w.heap.size w w' := by
  have hz := zero_gr
  have Hr := Lib.hid hr
  have H := Lib.hid (gB_lim hr)
  clear hr
  have HF := Lib.hid (Blk.new w 23 (geA g))
  have HB := Lib.hid (below_alloc w (Obj.cells (geA g) 23))
  go_enter Try.func3, Try.ntmps3
  go_upto_region 3 with fail
  refine (anchor5_any _).mono ?_
  rintro e w1 ⟨rfl, hb1⟩
  have HF1 := Lib.hid (HF.out.below hb1 HF.out.lt)
  have HB1 := Lib.hid (bthen HB.out hb1)
  clear HF HB hb1
  have HX2 := Lib.hid (Blk.new w1 25 (geA g))
  have HF2 := Lib.hid (HF1.out.alloc (Obj.cells (geA g) 25))
  have HB2 := Lib.hid (bthen HB1.out (below_alloc w1 (Obj.cells (geA g) 25)))
  go_upto_region 4 with (first | (refine wpl_load_g (by rfl) _ rfl (w.heap.size) rfl _ _ _ HF1.out Try.underlying23 rfl (info_geA g) ?_; go_frame) | (refine wpl_store_new rfl _ _ rfl (geA g) w1 25 (geA ge0) rfl rfl rfl (info_grA _) rfl (geA_one _) ?_; go_frame))
  clear hz HF1 HB1
  generalize w1.alloc (Obj.cells (geA g) 25) = u at *
  refine wp_region_held (S := fun w' => Below u.heap.size u w') (by kernel_rfl) ?_
  change wpAnyH _ _ _ _ _ _ _ _ (World.drew _)
  have hS : Below u.heap.size u u.drew := (Below.refl _ _).drew
  refine takeH hS (i := 0) (d := 8) (v := .agg (geA g)) rfl rfl (by kernel_rfl) (by kernel_rfl) (by kernel_rfl) (fun _ _ _ h => h) (Or.inl ⟨by kernel_rfl, fun w' hw' => by exact exec_load _ rfl (w.heap.size) rfl (HF2.out.below hw' HF2.out.lt) Try.underlying23 rfl (info_geA g)⟩) ?_
  refine takeH hS (i := 2) (d := 10) (v := .agg (geA g)) rfl rfl (by kernel_rfl) (by kernel_rfl) (by kernel_rfl) (fun _ _ _ h => h) (Or.inl ⟨by kernel_rfl, fun w' hw' => by exact exec_load _ rfl (w1.heap.size) rfl (HX2.out.below hw' HX2.out.lt) Try.underlying25 rfl (info_grA g)⟩) ?_
  try go_frame
  refine nextH (i := 1) rfl (by kernel_rfl) (by kernel_rfl) (fun K' hK => ?_)
  go_wp2_with fail
  refine (right_any g _).mono ?_
  rintro en uc1 ⟨rfl, hb⟩
  rw [Hr.out]
  have hS1 : Below u.heap.size u uc1 := bel_next hS hb
  refine hK.out _ _ ⟨hS1, ?_⟩
  clear hK K' hb hS
  refine nextH (i := 3) rfl (by kernel_rfl) (by kernel_rfl) (fun K' hK => ?_)
  go_wp2_with fail
  refine (rright_any g _).mono ?_
  rintro en uc2 ⟨rfl, hb⟩
  rw [Hr.out]
  have hS2 : Below u.heap.size u uc2 := bel_next hS1 hb
  refine hK.out _ _ ⟨hS2, ?_⟩
  clear hK K' hb hS1
  refine takeH hS2 (i := 4) (d := 12) (v := .bool false) rfl rfl (by kernel_rfl) (by kernel_rfl) (by kernel_rfl) (fun _ _ _ h => h) (Or.inl ⟨by kernel_rfl, fun w' hw' => by kernel_rfl⟩) ?_
  refine wpAnyH_done (by kernel_rfl) ?_ _
  try go_frame
  have HF3 := Lib.hid (HF2.out.below hS2 HF2.out.lt)
  have HX3 := Lib.hid (HX2.out.below hS2 HX2.out.lt)
  have HB3 := Lib.hid (bthen HB2.out hS2)
  clear hS2 HF2 HX2 HB2
  go_upto_region 8 with (refine wpl_load_g (by rfl) _ rfl (w1.heap.size) rfl _ _ _ HX3.out Try.underlying25 rfl (info_grA g) ?_; go_frame)
  refine (rright_any g _).mono ?_
  rintro e v ⟨rfl, hb⟩
  rw [Hr.out]
  have HF4 := Lib.hid (HF3.out.below hb HF3.out.lt)
  have HX4 := Lib.hid (HX3.out.below hb HX3.out.lt)
  have HB4 := Lib.hid (bthen HB3.out hb)
  clear hb HB3 HF3 HX3
  obtain ⟨a0, a1⟩ := all_bd H.out
  obtain ⟨a2, a3⟩ := fai_bd H.out
  obtain ⟨a4, a5⟩ := par_bd H.out
  obtain ⟨a6, a7⟩ := com1_bd H.out
  obtain ⟨a8, a9⟩ := com2_bd H.out
  obtain ⟨a10, a11⟩ := com3_bd H.out
  obtain ⟨a12, a13⟩ := com_bd H.out
  obtain ⟨a14, a15⟩ := pas1_bd H.out
  obtain ⟨a16, a17⟩ := pas_bd H.out
  obtain ⟨b0, b1⟩ := H.out.s
  obtain ⟨b2, b3⟩ := H.out.b
  obtain ⟨b4, b5⟩ := H.out.d
  obtain ⟨b6, b7⟩ := H.out.z
  obtain ⟨b8, b9⟩ := H.out.p
  unfold comI at a12 a13
  unfold pasI at a16 a17
  unfold allI at a0 a1 a6 a7 a8 a9 a10 a11 a12 a13
  unfold faiI at a2 a3 a14 a15 a16 a17
  have c0 := (HF4.out.cell 0).trans (geA_at0 g)
  have c1 := (HF4.out.cell 1).trans (geA_at1 g)
  go_upto_region 9 with fail
  clear c0 c1
  refine wp_region_held (S := fun w' => Below v.heap.size v w') (by kernel_rfl) ?_
  change wpAnyH _ _ _ _ _ _ _ _ (World.drew _)
  have hS : Below v.heap.size v v.drew := (Below.refl _ _).drew
  refine takeH hS (i := 0) (d := 22) (v := .agg (geA g)) rfl rfl (by kernel_rfl) (by kernel_rfl) (by kernel_rfl) (fun _ _ _ h => h) (Or.inl ⟨by kernel_rfl, fun w' hw' => by exact exec_load _ rfl (w.heap.size) rfl (HF4.out.below hw' HF4.out.lt) Try.underlying23 rfl (info_geA g)⟩) ?_
  refine takeH hS (i := 2) (d := 24) (v := .pointer (some ⟨w.heap.size, 0, none⟩)) rfl rfl (by kernel_rfl) (by kernel_rfl) (by kernel_rfl) (fun _ _ _ h => h) (Or.inl ⟨by kernel_rfl, fun w' hw' => by kernel_rfl⟩) ?_
  refine takeH hS (i := 3) (d := 25) (v := .int .i64 (g.d)) rfl rfl (by kernel_rfl) (by kernel_rfl) (by kernel_rfl) (fun _ _ _ h => h) (Or.inl ⟨by kernel_rfl, fun w' hw' => by exact exec_cell _ rfl ⟨w.heap.size, 0, none⟩ rfl _ Try.underlying3 (((HF4.out.below hw' HF4.out.lt).cell 0).trans (geA_at0 g))⟩) ?_
  refine takeH hS (i := 4) (d := 26) (v := .pointer (some ⟨w.heap.size, 1, none⟩)) rfl rfl (by kernel_rfl) (by kernel_rfl) (by kernel_rfl) (fun _ _ _ h => h) (Or.inl ⟨by kernel_rfl, fun w' hw' => by kernel_rfl⟩) ?_
  try go_frame
  refine takeH hS (i := 5) (d := 27) (v := .int .i64 (g.z)) rfl rfl (by kernel_rfl) (by kernel_rfl) (by kernel_rfl) (fun _ _ _ h => h) (Or.inl ⟨by kernel_rfl, fun w' hw' => by exact exec_cell _ rfl ⟨w.heap.size, 1, none⟩ rfl _ Try.underlying3 (((HF4.out.below hw' HF4.out.lt).cell 1).trans (geA_at1 g))⟩) ?_
  refine takeH hS (i := 6) (d := 28) (v := .int .i64 ((g.d) * (g.z))) rfl rfl (by kernel_rfl) (by kernel_rfl) (by kernel_rfl) (fun _ _ _ h => h) (Or.inl ⟨by kernel_rfl, fun w' hw' => by exact exec_mul _ _ rfl (g.d) (g.z) ((g.d) * (g.z)) rfl rfl (rfl) (by omega)⟩) ?_
  try go_frame
  refine nextH (i := 1) rfl (by kernel_rfl) (by kernel_rfl) (fun K' hK => ?_)
  go_wp2_with fail
  refine (all_any g _ H.out).mono ?_
  rintro en vc1 ⟨rfl, hb⟩
  rw [show allI g = g.d * g.z from rfl]
  have hS1 : Below v.heap.size v vc1 := bel_next hS hb
  refine hK.out _ _ ⟨hS1, ?_⟩
  clear hK K' hb hS
  refine takeH hS1 (i := 7) (d := 29) (v := .bool true) rfl rfl (by kernel_rfl) (by kernel_rfl) (by kernel_rfl) (fun _ _ _ h => h) (Or.inl ⟨by kernel_rfl, fun w' hw' => by exact exec_eql _ _ rfl (g.d * g.z) ((g.d) * (g.z)) rfl rfl true (decide_eq_true rfl) rfl⟩) ?_
  refine takeH hS1 (i := 8) (d := 30) (v := .bool true) rfl rfl (by kernel_rfl) (by kernel_rfl) (by kernel_rfl) (fun _ _ _ h => h) (Or.inl ⟨by kernel_rfl, fun w' hw' => by kernel_rfl⟩) ?_
  refine takeH hS1 (i := 9) (d := 31) (v := .agg (geA g)) rfl rfl (by kernel_rfl) (by kernel_rfl) (by kernel_rfl) (fun _ _ _ h => h) (Or.inl ⟨by kernel_rfl, fun w' hw' => by exact exec_load _ rfl (w.heap.size) rfl (HF4.out.below hw' HF4.out.lt) Try.underlying23 rfl (info_geA g)⟩) ?_
  refine takeH hS1 (i := 11) (d := 33) (v := .agg (geA g)) rfl rfl (by kernel_rfl) (by kernel_rfl) (by kernel_rfl) (fun _ _ _ h => h) (Or.inl ⟨by kernel_rfl, fun w' hw' => by exact exec_load _ rfl (w1.heap.size) rfl (HX4.out.below hw' HX4.out.lt) Try.underlying25 rfl (info_grA g)⟩) ?_
  try go_frame
  refine nextH (i := 10) rfl (by kernel_rfl) (by kernel_rfl) (fun K' hK => ?_)
  go_wp2_with fail
  refine (parts_any g _ H.out).mono ?_
  rintro en vc2 ⟨rfl, hb⟩
  have hS2 : Below v.heap.size v vc2 := bel_next hS1 hb
  refine hK.out _ _ ⟨hS2, ?_⟩
  clear hK K' hb hS1
  refine nextH (i := 12) rfl (by kernel_rfl) (by kernel_rfl) (fun K' hK => ?_)
  go_wp2_with fail
  refine (rparts_any g _ H.out.b.1 H.out.b.2).mono ?_
  rintro en vc3 ⟨rfl, hb⟩
  have hS3 : Below v.heap.size v vc3 := bel_next hS2 hb
  refine hK.out _ _ ⟨hS3, ?_⟩
  clear hK K' hb hS2
  refine takeH hS3 (i := 13) (d := 35) (v := .bool true) rfl rfl (by kernel_rfl) (by kernel_rfl) (by kernel_rfl) (fun _ _ _ h => h) (Or.inl ⟨by kernel_rfl, fun w' hw' => by exact exec_eql _ _ rfl (parI g) (parI g) rfl rfl true (decide_eq_true rfl) rfl⟩) ?_
  refine takeH hS3 (i := 14) (d := 36) (v := .bool true) rfl rfl (by kernel_rfl) (by kernel_rfl) (by kernel_rfl) (fun _ _ _ h => h) (Or.inl ⟨by kernel_rfl, fun w' hw' => by kernel_rfl⟩) ?_
  refine takeH hS3 (i := 15) (d := 37) (v := .bool true) rfl rfl (by kernel_rfl) (by kernel_rfl) (by kernel_rfl) (fun _ _ _ h => h) (Or.inl ⟨by kernel_rfl, fun w' hw' => by kernel_rfl⟩) ?_
  refine takeH hS3 (i := 16) (d := 38) (v := .agg (geA g)) rfl rfl (by kernel_rfl) (by kernel_rfl) (by kernel_rfl) (fun _ _ _ h => h) (Or.inl ⟨by kernel_rfl, fun w' hw' => by exact exec_load _ rfl (w.heap.size) rfl (HF4.out.below hw' HF4.out.lt) Try.underlying23 rfl (info_geA g)⟩) ?_
  try go_frame
  refine takeH hS3 (i := 18) (d := 40) (v := .pointer (some ⟨w.heap.size, 0, none⟩)) rfl rfl (by kernel_rfl) (by kernel_rfl) (by kernel_rfl) (fun _ _ _ h => h) (Or.inl ⟨by kernel_rfl, fun w' hw' => by kernel_rfl⟩) ?_
  refine takeH hS3 (i := 19) (d := 41) (v := .int .i64 (g.d)) rfl rfl (by kernel_rfl) (by kernel_rfl) (by kernel_rfl) (fun _ _ _ h => h) (Or.inl ⟨by kernel_rfl, fun w' hw' => by exact exec_cell _ rfl ⟨w.heap.size, 0, none⟩ rfl _ Try.underlying3 (((HF4.out.below hw' HF4.out.lt).cell 0).trans (geA_at0 g))⟩) ?_
  refine takeH hS3 (i := 20) (d := 42) (v := .pointer (some ⟨w.heap.size, 4, none⟩)) rfl rfl (by kernel_rfl) (by kernel_rfl) (by kernel_rfl) (fun _ _ _ h => h) (Or.inl ⟨by kernel_rfl, fun w' hw' => by kernel_rfl⟩) ?_
  refine takeH hS3 (i := 21) (d := 43) (v := .int .i64 (g.p)) rfl rfl (by kernel_rfl) (by kernel_rfl) (by kernel_rfl) (fun _ _ _ h => h) (Or.inl ⟨by kernel_rfl, fun w' hw' => by exact exec_cell _ rfl ⟨w.heap.size, 4, none⟩ rfl _ Try.underlying3 (((HF4.out.below hw' HF4.out.lt).cell 4).trans (geA_at4 g))⟩) ?_
  try go_frame
  refine takeH hS3 (i := 22) (d := 44) (v := .int .i64 ((g.d) * (g.p))) rfl rfl (by kernel_rfl) (by kernel_rfl) (by kernel_rfl) (fun _ _ _ h => h) (Or.inl ⟨by kernel_rfl, fun w' hw' => by exact exec_mul _ _ rfl (g.d) (g.p) ((g.d) * (g.p)) rfl rfl (rfl) (by omega)⟩) ?_
  refine takeH hS3 (i := 23) (d := 45) (v := .int .i64 (((g.d) * (g.p)) + (4))) rfl rfl (by kernel_rfl) (by kernel_rfl) (by kernel_rfl) (fun _ _ _ h => h) (Or.inl ⟨by kernel_rfl, fun w' hw' => by exact exec_add _ _ rfl ((g.d) * (g.p)) (4) (((g.d) * (g.p)) + (4)) rfl rfl (rfl) (by omega)⟩) ?_
  try go_frame
  refine nextH (i := 17) rfl (by kernel_rfl) (by kernel_rfl) (fun K' hK => ?_)
  go_wp2_with fail
  refine (reserve_any g _ H.out).mono ?_
  rintro en vc4 ⟨rfl, hb⟩
  rw [show resI g = g.d * g.p + 4 from rfl]
  have hS4 : Below v.heap.size v vc4 := bel_next hS3 hb
  refine hK.out _ _ ⟨hS4, ?_⟩
  clear hK K' hb hS3
  refine takeH hS4 (i := 24) (d := 46) (v := .bool true) rfl rfl (by kernel_rfl) (by kernel_rfl) (by kernel_rfl) (fun _ _ _ h => h) (Or.inl ⟨by kernel_rfl, fun w' hw' => by exact exec_eql _ _ rfl (g.d * g.p + 4) (((g.d) * (g.p)) + (4)) rfl rfl true (decide_eq_true rfl) rfl⟩) ?_
  refine takeH hS4 (i := 25) (d := 47) (v := .bool true) rfl rfl (by kernel_rfl) (by kernel_rfl) (by kernel_rfl) (fun _ _ _ h => h) (Or.inl ⟨by kernel_rfl, fun w' hw' => by kernel_rfl⟩) ?_
  refine takeH hS4 (i := 26) (d := 48) (v := .bool true) rfl rfl (by kernel_rfl) (by kernel_rfl) (by kernel_rfl) (fun _ _ _ h => h) (Or.inl ⟨by kernel_rfl, fun w' hw' => by kernel_rfl⟩) ?_
  refine takeH hS4 (i := 27) (d := 49) (v := .agg (geA g)) rfl rfl (by kernel_rfl) (by kernel_rfl) (by kernel_rfl) (fun _ _ _ h => h) (Or.inl ⟨by kernel_rfl, fun w' hw' => by exact exec_load _ rfl (w.heap.size) rfl (HF4.out.below hw' HF4.out.lt) Try.underlying23 rfl (info_geA g)⟩) ?_
  try go_frame
  refine takeH hS4 (i := 29) (d := 51) (v := .agg (geA g)) rfl rfl (by kernel_rfl) (by kernel_rfl) (by kernel_rfl) (fun _ _ _ h => h) (Or.inl ⟨by kernel_rfl, fun w' hw' => by exact exec_load _ rfl (w1.heap.size) rfl (HX4.out.below hw' HX4.out.lt) Try.underlying25 rfl (info_grA g)⟩) ?_
  try go_frame
  refine nextH (i := 28) rfl (by kernel_rfl) (by kernel_rfl) (fun K' hK => ?_)
  go_wp2_with fail
  refine (segments_any g _ H.out).mono ?_
  rintro en vc5 ⟨rfl, hb⟩
  have hS5 : Below v.heap.size v vc5 := bel_next hS4 hb
  refine hK.out _ _ ⟨hS5, ?_⟩
  clear hK K' hb hS4
  refine nextH (i := 30) rfl (by kernel_rfl) (by kernel_rfl) (fun K' hK => ?_)
  go_wp2_with fail
  refine (rsegments_any g _ H.out).mono ?_
  rintro en vc6 ⟨rfl, hb⟩
  have hS6 : Below v.heap.size v vc6 := bel_next hS5 hb
  refine hK.out _ _ ⟨hS6, ?_⟩
  clear hK K' hb hS5
  refine takeH hS6 (i := 31) (d := 53) (v := .bool true) rfl rfl (by kernel_rfl) (by kernel_rfl) (by kernel_rfl) (fun _ _ _ h => h) (Or.inl ⟨by kernel_rfl, fun w' hw' => by exact exec_eql _ _ rfl (segI g) (segI g) rfl rfl true (decide_eq_true rfl) rfl⟩) ?_
  refine takeH hS6 (i := 32) (d := 54) (v := .bool true) rfl rfl (by kernel_rfl) (by kernel_rfl) (by kernel_rfl) (fun _ _ _ h => h) (Or.inl ⟨by kernel_rfl, fun w' hw' => by kernel_rfl⟩) ?_
  refine takeH hS6 (i := 33) (d := 55) (v := .bool true) rfl rfl (by kernel_rfl) (by kernel_rfl) (by kernel_rfl) (fun _ _ _ h => h) (Or.inl ⟨by kernel_rfl, fun w' hw' => by kernel_rfl⟩) ?_
  refine takeH hS6 (i := 34) (d := 56) (v := .agg (geA g)) rfl rfl (by kernel_rfl) (by kernel_rfl) (by kernel_rfl) (fun _ _ _ h => h) (Or.inl ⟨by kernel_rfl, fun w' hw' => by exact exec_load _ rfl (w.heap.size) rfl (HF4.out.below hw' HF4.out.lt) Try.underlying23 rfl (info_geA g)⟩) ?_
  try go_frame
  refine takeH hS6 (i := 36) (d := 58) (v := .int .i64 (g.d * g.z + 2)) rfl rfl (by kernel_rfl) (by kernel_rfl) (by kernel_rfl) (fun _ _ _ h => h) (Or.inl ⟨by kernel_rfl, fun w' hw' => by kernel_rfl⟩) ?_
  refine takeH hS6 (i := 37) (d := 59) (v := .int .i64 ((64) * (g.d * g.z + 2))) rfl rfl (by kernel_rfl) (by kernel_rfl) (by kernel_rfl) (fun _ _ _ h => h) (Or.inl ⟨by kernel_rfl, fun w' hw' => by exact exec_mul _ _ rfl (64) (g.d * g.z + 2) ((64) * (g.d * g.z + 2)) rfl rfl (rfl) (by omega)⟩) ?_
  refine takeH hS6 (i := 38) (d := 60) (v := .int .i64 (g.d * g.z + 2)) rfl rfl (by kernel_rfl) (by kernel_rfl) (by kernel_rfl) (fun _ _ _ h => h) (Or.inl ⟨by kernel_rfl, fun w' hw' => by kernel_rfl⟩) ?_
  refine takeH hS6 (i := 39) (d := 61) (v := .int .i64 (((64) * (g.d * g.z + 2)) * (g.d * g.z + 2))) rfl rfl (by kernel_rfl) (by kernel_rfl) (by kernel_rfl) (fun _ _ _ h => h) (Or.inl ⟨by kernel_rfl, fun w' hw' => by exact exec_mul _ _ rfl ((64) * (g.d * g.z + 2)) (g.d * g.z + 2) (((64) * (g.d * g.z + 2)) * (g.d * g.z + 2)) rfl rfl (rfl) (by omega)⟩) ?_
  try go_frame
  refine takeH hS6 (i := 40) (d := 62) (v := .pointer (some ⟨w.heap.size, 2, none⟩)) rfl rfl (by kernel_rfl) (by kernel_rfl) (by kernel_rfl) (fun _ _ _ h => h) (Or.inl ⟨by kernel_rfl, fun w' hw' => by kernel_rfl⟩) ?_
  refine takeH hS6 (i := 41) (d := 63) (v := .int .i64 (g.s)) rfl rfl (by kernel_rfl) (by kernel_rfl) (by kernel_rfl) (fun _ _ _ h => h) (Or.inl ⟨by kernel_rfl, fun w' hw' => by exact exec_cell _ rfl ⟨w.heap.size, 2, none⟩ rfl _ Try.underlying3 (((HF4.out.below hw' HF4.out.lt).cell 2).trans (geA_at2 g))⟩) ?_
  refine takeH hS6 (i := 42) (d := 64) (v := .int .i64 ((g.s) + (2))) rfl rfl (by kernel_rfl) (by kernel_rfl) (by kernel_rfl) (fun _ _ _ h => h) (Or.inl ⟨by kernel_rfl, fun w' hw' => by exact exec_add _ _ rfl (g.s) (2) ((g.s) + (2)) rfl rfl (rfl) (by omega)⟩) ?_
  refine takeH hS6 (i := 43) (d := 65) (v := .int .i64 ((((64) * (g.d * g.z + 2)) * (g.d * g.z + 2)) * ((g.s) + (2)))) rfl rfl (by kernel_rfl) (by kernel_rfl) (by kernel_rfl) (fun _ _ _ h => h) (Or.inl ⟨by kernel_rfl, fun w' hw' => by exact exec_mul _ _ rfl (((64) * (g.d * g.z + 2)) * (g.d * g.z + 2)) ((g.s) + (2)) ((((64) * (g.d * g.z + 2)) * (g.d * g.z + 2)) * ((g.s) + (2))) rfl rfl (rfl) (by omega)⟩) ?_
  try go_frame
  refine takeH hS6 (i := 44) (d := 66) (v := .pointer (some ⟨w.heap.size, 3, none⟩)) rfl rfl (by kernel_rfl) (by kernel_rfl) (by kernel_rfl) (fun _ _ _ h => h) (Or.inl ⟨by kernel_rfl, fun w' hw' => by kernel_rfl⟩) ?_
  refine takeH hS6 (i := 45) (d := 67) (v := .int .i64 (g.b)) rfl rfl (by kernel_rfl) (by kernel_rfl) (by kernel_rfl) (fun _ _ _ h => h) (Or.inl ⟨by kernel_rfl, fun w' hw' => by exact exec_cell _ rfl ⟨w.heap.size, 3, none⟩ rfl _ Try.underlying3 (((HF4.out.below hw' HF4.out.lt).cell 3).trans (geA_at3 g))⟩) ?_
  refine takeH hS6 (i := 46) (d := 68) (v := .pointer (some ⟨w.heap.size, 2, none⟩)) rfl rfl (by kernel_rfl) (by kernel_rfl) (by kernel_rfl) (fun _ _ _ h => h) (Or.inl ⟨by kernel_rfl, fun w' hw' => by kernel_rfl⟩) ?_
  refine takeH hS6 (i := 47) (d := 69) (v := .int .i64 (g.s)) rfl rfl (by kernel_rfl) (by kernel_rfl) (by kernel_rfl) (fun _ _ _ h => h) (Or.inl ⟨by kernel_rfl, fun w' hw' => by exact exec_cell _ rfl ⟨w.heap.size, 2, none⟩ rfl _ Try.underlying3 (((HF4.out.below hw' HF4.out.lt).cell 2).trans (geA_at2 g))⟩) ?_
  try go_frame
  refine takeH hS6 (i := 48) (d := 70) (v := .int .i64 ((g.b) + (g.s))) rfl rfl (by kernel_rfl) (by kernel_rfl) (by kernel_rfl) (fun _ _ _ h => h) (Or.inl ⟨by kernel_rfl, fun w' hw' => by exact exec_add _ _ rfl (g.b) (g.s) ((g.b) + (g.s)) rfl rfl (rfl) (by omega)⟩) ?_
  refine takeH hS6 (i := 49) (d := 71) (v := .agg (geA g)) rfl rfl (by kernel_rfl) (by kernel_rfl) (by kernel_rfl) (fun _ _ _ h => h) (Or.inl ⟨by kernel_rfl, fun w' hw' => by exact exec_load _ rfl (w1.heap.size) rfl (HX4.out.below hw' HX4.out.lt) Try.underlying25 rfl (info_grA g)⟩) ?_
  try go_frame
  refine nextH (i := 35) rfl (by kernel_rfl) (by kernel_rfl) (fun K' hK => ?_)
  go_wp2_with fail
  refine (commands_any g _ H.out).mono ?_
  rintro en vc7 ⟨rfl, hb⟩
  have hS7 : Below v.heap.size v vc7 := bel_next hS6 hb
  refine hK.out _ _ ⟨hS7, ?_⟩
  clear hK K' hb hS6
  refine nextH (i := 50) rfl (by kernel_rfl) (by kernel_rfl) (fun K' hK => ?_)
  go_wp2_with fail
  refine (rparts_any g _ H.out.b.1 H.out.b.2).mono ?_
  rintro en vc8 ⟨rfl, hb⟩
  have hS8 : Below v.heap.size v vc8 := bel_next hS7 hb
  refine hK.out _ _ ⟨hS8, ?_⟩
  clear hK K' hb hS7
  refine takeH hS8 (i := 51) (d := 73) (v := .int .i64 (((g.b) + (g.s)) + (parI g))) rfl rfl (by kernel_rfl) (by kernel_rfl) (by kernel_rfl) (fun _ _ _ h => h) (Or.inl ⟨by kernel_rfl, fun w' hw' => by exact exec_add _ _ rfl ((g.b) + (g.s)) (parI g) (((g.b) + (g.s)) + (parI g)) rfl rfl (rfl) (by omega)⟩) ?_
  refine takeH hS8 (i := 52) (d := 74) (v := .int .i64 ((((g.b) + (g.s)) + (parI g)) + (4))) rfl rfl (by kernel_rfl) (by kernel_rfl) (by kernel_rfl) (fun _ _ _ h => h) (Or.inl ⟨by kernel_rfl, fun w' hw' => by exact exec_add _ _ rfl (((g.b) + (g.s)) + (parI g)) (4) ((((g.b) + (g.s)) + (parI g)) + (4)) rfl rfl (rfl) (by omega)⟩) ?_
  refine takeH hS8 (i := 53) (d := 75) (v := .int .i64 (((((64) * (g.d * g.z + 2)) * (g.d * g.z + 2)) * ((g.s) + (2))) * ((((g.b) + (g.s)) + (parI g)) + (4)))) rfl rfl (by kernel_rfl) (by kernel_rfl) (by kernel_rfl) (fun _ _ _ h => h) (Or.inl ⟨by kernel_rfl, fun w' hw' => by exact exec_mul _ _ rfl ((((64) * (g.d * g.z + 2)) * (g.d * g.z + 2)) * ((g.s) + (2))) ((((g.b) + (g.s)) + (parI g)) + (4)) (((((64) * (g.d * g.z + 2)) * (g.d * g.z + 2)) * ((g.s) + (2))) * ((((g.b) + (g.s)) + (parI g)) + (4))) rfl rfl (rfl) (by omega)⟩) ?_
  refine takeH hS8 (i := 54) (d := 76) (v := .bool true) rfl rfl (by kernel_rfl) (by kernel_rfl) (by kernel_rfl) (fun _ _ _ h => h) (Or.inl ⟨by kernel_rfl, fun w' hw' => by exact exec_eql _ _ rfl (comI g) (((((64) * (g.d * g.z + 2)) * (g.d * g.z + 2)) * ((g.s) + (2))) * ((((g.b) + (g.s)) + (parI g)) + (4))) rfl rfl true (decide_eq_true rfl) rfl⟩) ?_
  try go_frame
  refine takeH hS8 (i := 55) (d := 77) (v := .bool true) rfl rfl (by kernel_rfl) (by kernel_rfl) (by kernel_rfl) (fun _ _ _ h => h) (Or.inl ⟨by kernel_rfl, fun w' hw' => by kernel_rfl⟩) ?_
  refine takeH hS8 (i := 56) (d := 78) (v := .bool true) rfl rfl (by kernel_rfl) (by kernel_rfl) (by kernel_rfl) (fun _ _ _ h => h) (Or.inl ⟨by kernel_rfl, fun w' hw' => by kernel_rfl⟩) ?_
  refine takeH hS8 (i := 57) (d := 79) (v := .agg (geA g)) rfl rfl (by kernel_rfl) (by kernel_rfl) (by kernel_rfl) (fun _ _ _ h => h) (Or.inl ⟨by kernel_rfl, fun w' hw' => by exact exec_load _ rfl (w.heap.size) rfl (HF4.out.below hw' HF4.out.lt) Try.underlying23 rfl (info_geA g)⟩) ?_
  refine takeH hS8 (i := 59) (d := 81) (v := .pointer (some ⟨w.heap.size, 0, none⟩)) rfl rfl (by kernel_rfl) (by kernel_rfl) (by kernel_rfl) (fun _ _ _ h => h) (Or.inl ⟨by kernel_rfl, fun w' hw' => by kernel_rfl⟩) ?_
  try go_frame
  refine takeH hS8 (i := 60) (d := 82) (v := .int .i64 (g.d)) rfl rfl (by kernel_rfl) (by kernel_rfl) (by kernel_rfl) (fun _ _ _ h => h) (Or.inl ⟨by kernel_rfl, fun w' hw' => by exact exec_cell _ rfl ⟨w.heap.size, 0, none⟩ rfl _ Try.underlying3 (((HF4.out.below hw' HF4.out.lt).cell 0).trans (geA_at0 g))⟩) ?_
  refine takeH hS8 (i := 61) (d := 83) (v := .pointer (some ⟨w.heap.size, 4, none⟩)) rfl rfl (by kernel_rfl) (by kernel_rfl) (by kernel_rfl) (fun _ _ _ h => h) (Or.inl ⟨by kernel_rfl, fun w' hw' => by kernel_rfl⟩) ?_
  refine takeH hS8 (i := 62) (d := 84) (v := .int .i64 (g.p)) rfl rfl (by kernel_rfl) (by kernel_rfl) (by kernel_rfl) (fun _ _ _ h => h) (Or.inl ⟨by kernel_rfl, fun w' hw' => by exact exec_cell _ rfl ⟨w.heap.size, 4, none⟩ rfl _ Try.underlying3 (((HF4.out.below hw' HF4.out.lt).cell 4).trans (geA_at4 g))⟩) ?_
  refine takeH hS8 (i := 63) (d := 85) (v := .int .i64 ((g.d) * (g.p))) rfl rfl (by kernel_rfl) (by kernel_rfl) (by kernel_rfl) (fun _ _ _ h => h) (Or.inl ⟨by kernel_rfl, fun w' hw' => by exact exec_mul _ _ rfl (g.d) (g.p) ((g.d) * (g.p)) rfl rfl (rfl) (by omega)⟩) ?_
  try go_frame
  refine takeH hS8 (i := 64) (d := 86) (v := .int .i64 (((g.d) * (g.p)) + (2))) rfl rfl (by kernel_rfl) (by kernel_rfl) (by kernel_rfl) (fun _ _ _ h => h) (Or.inl ⟨by kernel_rfl, fun w' hw' => by exact exec_add _ _ rfl ((g.d) * (g.p)) (2) (((g.d) * (g.p)) + (2)) rfl rfl (rfl) (by omega)⟩) ?_
  refine takeH hS8 (i := 65) (d := 87) (v := .int .i64 ((3) * (((g.d) * (g.p)) + (2)))) rfl rfl (by kernel_rfl) (by kernel_rfl) (by kernel_rfl) (fun _ _ _ h => h) (Or.inl ⟨by kernel_rfl, fun w' hw' => by exact exec_mul _ _ rfl (3) (((g.d) * (g.p)) + (2)) ((3) * (((g.d) * (g.p)) + (2))) rfl rfl (rfl) (by omega)⟩) ?_
  refine takeH hS8 (i := 66) (d := 88) (v := .pointer (some ⟨w.heap.size, 3, none⟩)) rfl rfl (by kernel_rfl) (by kernel_rfl) (by kernel_rfl) (fun _ _ _ h => h) (Or.inl ⟨by kernel_rfl, fun w' hw' => by kernel_rfl⟩) ?_
  refine takeH hS8 (i := 67) (d := 89) (v := .int .i64 (g.b)) rfl rfl (by kernel_rfl) (by kernel_rfl) (by kernel_rfl) (fun _ _ _ h => h) (Or.inl ⟨by kernel_rfl, fun w' hw' => by exact exec_cell _ rfl ⟨w.heap.size, 3, none⟩ rfl _ Try.underlying3 (((HF4.out.below hw' HF4.out.lt).cell 3).trans (geA_at3 g))⟩) ?_
  try go_frame
  refine takeH hS8 (i := 68) (d := 90) (v := .int .i64 ((g.b) + (3))) rfl rfl (by kernel_rfl) (by kernel_rfl) (by kernel_rfl) (fun _ _ _ h => h) (Or.inl ⟨by kernel_rfl, fun w' hw' => by exact exec_add _ _ rfl (g.b) (3) ((g.b) + (3)) rfl rfl (rfl) (by omega)⟩) ?_
  refine takeH hS8 (i := 69) (d := 91) (v := .int .i64 (((3) * (((g.d) * (g.p)) + (2))) * ((g.b) + (3)))) rfl rfl (by kernel_rfl) (by kernel_rfl) (by kernel_rfl) (fun _ _ _ h => h) (Or.inl ⟨by kernel_rfl, fun w' hw' => by exact exec_mul _ _ rfl ((3) * (((g.d) * (g.p)) + (2))) ((g.b) + (3)) (((3) * (((g.d) * (g.p)) + (2))) * ((g.b) + (3))) rfl rfl (rfl) (by omega)⟩) ?_
  try go_frame
  refine nextH (i := 58) rfl (by kernel_rfl) (by kernel_rfl) (fun K' hK => ?_)
  go_wp2_with fail
  refine (passes_any g _ H.out).mono ?_
  rintro en vc9 ⟨rfl, hb⟩
  have hS9 : Below v.heap.size v vc9 := bel_next hS8 hb
  refine hK.out _ _ ⟨hS9, ?_⟩
  clear hK K' hb hS8
  refine takeH hS9 (i := 70) (d := 92) (v := .bool true) rfl rfl (by kernel_rfl) (by kernel_rfl) (by kernel_rfl) (fun _ _ _ h => h) (Or.inl ⟨by kernel_rfl, fun w' hw' => by exact exec_eql _ _ rfl (pasI g) (((3) * (((g.d) * (g.p)) + (2))) * ((g.b) + (3))) rfl rfl true (decide_eq_true rfl) rfl⟩) ?_
  refine takeH hS9 (i := 71) (d := 93) (v := .bool true) rfl rfl (by kernel_rfl) (by kernel_rfl) (by kernel_rfl) (fun _ _ _ h => h) (Or.inl ⟨by kernel_rfl, fun w' hw' => by kernel_rfl⟩) ?_
  refine takeH hS9 (i := 72) (d := 2) (v := .bool true) rfl rfl (by kernel_rfl) (by kernel_rfl) (by kernel_rfl) (fun _ _ _ h => h) (Or.inl ⟨by kernel_rfl, fun w' hw' => by kernel_rfl⟩) ?_
  refine wpAnyH_done (by kernel_rfl) ?_ _
  try go_frame
  have HB5 := Lib.hid (bthen HB4.out hS9)
  clear hS9 HB4 HF4 HX4
  go_wp2_with fail
  go_ret
  exact ⟨rfl, HB5.out⟩

theorem walkGeomRight (g : GeR) (w : World) (h : GeOk g) :
    Calls Try.prog 3 #[.agg (geA g)] w fun e w' => e = .returned (.bool true) ∧ Below w.heap.size w w' := by
  cases hr : gB g with
  | false => exact walkRight_false g w hr
  | true => exact walkRight_true g w hr

end Go.Proofs.Ytkjjhcpfblhijaa
