/-
  Contracts of layer 5 (geom): Right, in its four ways.
-/
import Derived.Test.YtkjjhcpfblhijaaGeomC
namespace Go.Proofs.Ytkjjhcpfblhijaa
open Go.RowKit
set_option linter.unusedVariables false
set_option linter.unnecessarySimpa false
set_option linter.unusedSimpArgs false

set_option maxRecDepth 100000 in
set_option maxHeartbeats 2000000 in
theorem right_l (g : GeR) (w : World) (hl : limB g = false) :
    Calls Try.prog 8 #[.agg (geA g)] w fun e w' => e = .returned (.bool false) ∧ Below w.heap.size w w' := by
  have hB := below_alloc w (Obj.cells (geA g) 23)
  have hF : Blk (w.alloc (Obj.cells (geA g) 23)) w.heap.size 23 (geA g) := Blk.new _ _ _
  have HB := Lib.hid hB
  have HF := Lib.hid hF
  clear hF hB
  have Hl := Lib.hid hl
  clear hl
  go_enter Try.func8, Try.ntmps8
  go_upto_region 1 with fail
  generalize w.alloc (Obj.cells (geA g) 23) = u at *
  refine wp_region_held (S := fun w' => Below u.heap.size u w') (by kernel_rfl) ?_
  change wpAnyH _ _ _ _ _ _ _ _ (World.drew _)
  have hS : Below u.heap.size u u.drew := (Below.refl _ _).drew
  refine takeH hS (i := 0) (d := 3) (v := .agg (geA g)) rfl rfl (by kernel_rfl) (by kernel_rfl) (by kernel_rfl) (fun _ _ _ h => h) (Or.inl ⟨by kernel_rfl, fun w' hw' => by exact exec_load _ rfl (w.heap.size) rfl (HF.out.below hw' HF.out.lt) Try.underlying23 rfl (info_geA g)⟩) ?_
  try go_frame
  refine nextH (i := 1) rfl (by kernel_rfl) (by kernel_rfl) (fun K' hK => ?_)
  go_wp2_with fail
  refine (limited_any g _).mono ?_
  rintro en uc1 ⟨rfl, hb⟩
  rw [Hl.out]
  have hS1 : Below u.heap.size u uc1 := bel_next hS hb
  refine hK.out _ _ ⟨hS1, ?_⟩
  clear hK K' hb hS
  refine takeH hS1 (i := 2) (d := 5) (v := .bool false) rfl rfl (by kernel_rfl) (by kernel_rfl) (by kernel_rfl) (fun _ _ _ h => h) (Or.inl ⟨by kernel_rfl, fun w' hw' => by kernel_rfl⟩) ?_
  refine takeH hS1 (i := 3) (d := 6) (v := undef) rfl rfl (by kernel_rfl) (by kernel_rfl) (by kernel_rfl) (fun _ _ _ h => h) (Or.inr ⟨by kernel_rfl, rfl⟩) ?_
  refine takeH hS1 (i := 4) (d := 7) (v := undef) rfl rfl (by kernel_rfl) (by kernel_rfl) (by kernel_rfl) (fun _ _ _ h => h) (Or.inr ⟨by kernel_rfl, rfl⟩) ?_
  refine takeH hS1 (i := 5) (d := 8) (v := undef) rfl rfl (by kernel_rfl) (by kernel_rfl) (by kernel_rfl) (fun _ _ _ h => h) (Or.inr ⟨by kernel_rfl, rfl⟩) ?_
  try go_frame
  refine takeH hS1 (i := 6) (d := 9) (v := undef) rfl rfl (by kernel_rfl) (by kernel_rfl) (by kernel_rfl) (fun _ _ _ h => h) (Or.inr ⟨by kernel_rfl, rfl⟩) ?_
  refine takeH hS1 (i := 7) (d := 10) (v := undef) rfl rfl (by kernel_rfl) (by kernel_rfl) (by kernel_rfl) (fun _ _ _ h => h) (Or.inr ⟨by kernel_rfl, rfl⟩) ?_
  refine takeH hS1 (i := 8) (d := 11) (v := .bool false) rfl rfl (by kernel_rfl) (by kernel_rfl) (by kernel_rfl) (fun _ _ _ h => h) (Or.inl ⟨by kernel_rfl, fun w' hw' => by kernel_rfl⟩) ?_
  refine takeH hS1 (i := 9) (d := 12) (v := .bool false) rfl rfl (by kernel_rfl) (by kernel_rfl) (by kernel_rfl) (fun _ _ _ h => h) (Or.inl ⟨by kernel_rfl, fun w' hw' => by kernel_rfl⟩) ?_
  try go_frame
  refine takeH hS1 (i := 10) (d := 13) (v := undef) rfl rfl (by kernel_rfl) (by kernel_rfl) (by kernel_rfl) (fun _ _ _ h => h) (Or.inr ⟨by kernel_rfl, rfl⟩) ?_
  refine takeH hS1 (i := 11) (d := 14) (v := undef) rfl rfl (by kernel_rfl) (by kernel_rfl) (by kernel_rfl) (fun _ _ _ h => h) (Or.inr ⟨by kernel_rfl, rfl⟩) ?_
  refine takeH hS1 (i := 12) (d := 15) (v := undef) rfl rfl (by kernel_rfl) (by kernel_rfl) (by kernel_rfl) (fun _ _ _ h => h) (Or.inr ⟨by kernel_rfl, rfl⟩) ?_
  refine takeH hS1 (i := 13) (d := 16) (v := undef) rfl rfl (by kernel_rfl) (by kernel_rfl) (by kernel_rfl) (fun _ _ _ h => h) (Or.inr ⟨by kernel_rfl, rfl⟩) ?_
  try go_frame
  refine takeH hS1 (i := 14) (d := 17) (v := undef) rfl rfl (by kernel_rfl) (by kernel_rfl) (by kernel_rfl) (fun _ _ _ h => h) (Or.inr ⟨by kernel_rfl, rfl⟩) ?_
  refine takeH hS1 (i := 15) (d := 18) (v := undef) rfl rfl (by kernel_rfl) (by kernel_rfl) (by kernel_rfl) (fun _ _ _ h => h) (Or.inr ⟨by kernel_rfl, rfl⟩) ?_
  refine takeH hS1 (i := 16) (d := 19) (v := undef) rfl rfl (by kernel_rfl) (by kernel_rfl) (by kernel_rfl) (fun _ _ _ h => h) (Or.inr ⟨by kernel_rfl, rfl⟩) ?_
  refine takeH hS1 (i := 17) (d := 20) (v := undef) rfl rfl (by kernel_rfl) (by kernel_rfl) (by kernel_rfl) (fun _ _ _ h => h) (Or.inr ⟨by kernel_rfl, rfl⟩) ?_
  try go_frame
  refine takeH hS1 (i := 18) (d := 21) (v := undef) rfl rfl (by kernel_rfl) (by kernel_rfl) (by kernel_rfl) (fun _ _ _ h => h) (Or.inr ⟨by kernel_rfl, rfl⟩) ?_
  refine takeH hS1 (i := 19) (d := 22) (v := .bool false) rfl rfl (by kernel_rfl) (by kernel_rfl) (by kernel_rfl) (fun _ _ _ h => h) (Or.inl ⟨by kernel_rfl, fun w' hw' => by kernel_rfl⟩) ?_
  refine takeH hS1 (i := 20) (d := 2) (v := .bool false) rfl rfl (by kernel_rfl) (by kernel_rfl) (by kernel_rfl) (fun _ _ _ h => h) (Or.inl ⟨by kernel_rfl, fun w' hw' => by kernel_rfl⟩) ?_
  refine wpAnyH_done (by kernel_rfl) ?_ _
  try go_frame
  have HB2 := Lib.hid (bthen HB.out hS1)
  clear hS1 HB HF
  go_wp2_with fail
  go_ret
  exact ⟨rfl, HB2.out⟩

set_option maxRecDepth 100000 in
set_option maxHeartbeats 2000000 in
theorem right_p (g : GeR) (w : World) (hL : Lim g) (h1 : decide (parI g ≤ g.s) = false) :
    Calls Try.prog 8 #[.agg (geA g)] w fun e w' => e = .returned (.bool false) ∧ Below w.heap.size w w' := by
  have hB := below_alloc w (Obj.cells (geA g) 23)
  have hF : Blk (w.alloc (Obj.cells (geA g) 23)) w.heap.size 23 (geA g) := Blk.new _ _ _
  have HB := Lib.hid hB
  have HF := Lib.hid hF
  clear hF hB
  obtain ⟨a0, a1⟩ := par_bd hL
  obtain ⟨a2, a3⟩ := seg_bd hL
  obtain ⟨a4, a5⟩ := sseg_bd hL
  obtain ⟨b0, b1⟩ := hL.s
  obtain ⟨b2, b3⟩ := hL.b
  have H := Lib.hid hL
  have hl : limB g = true := (lim_iff g).2 hL
  have Hl := Lib.hid hl
  have K1 := Lib.hid h1
  clear hl hL h1
  go_enter Try.func8, Try.ntmps8
  go_upto_region 1 with fail
  generalize w.alloc (Obj.cells (geA g) 23) = u at *
  refine wp_region_held (S := fun w' => Below u.heap.size u w') (by kernel_rfl) ?_
  change wpAnyH _ _ _ _ _ _ _ _ (World.drew _)
  have hS : Below u.heap.size u u.drew := (Below.refl _ _).drew
  refine takeH hS (i := 0) (d := 3) (v := .agg (geA g)) rfl rfl (by kernel_rfl) (by kernel_rfl) (by kernel_rfl) (fun _ _ _ h => h) (Or.inl ⟨by kernel_rfl, fun w' hw' => by exact exec_load _ rfl (w.heap.size) rfl (HF.out.below hw' HF.out.lt) Try.underlying23 rfl (info_geA g)⟩) ?_
  try go_frame
  refine nextH (i := 1) rfl (by kernel_rfl) (by kernel_rfl) (fun K' hK => ?_)
  go_wp2_with fail
  refine (limited_any g _).mono ?_
  rintro en uc1 ⟨rfl, hb⟩
  rw [Hl.out]
  have hS1 : Below u.heap.size u uc1 := bel_next hS hb
  refine hK.out _ _ ⟨hS1, ?_⟩
  clear hK K' hb hS
  refine takeH hS1 (i := 2) (d := 5) (v := .bool true) rfl rfl (by kernel_rfl) (by kernel_rfl) (by kernel_rfl) (fun _ _ _ h => h) (Or.inl ⟨by kernel_rfl, fun w' hw' => by kernel_rfl⟩) ?_
  refine takeH hS1 (i := 3) (d := 6) (v := .agg (geA g)) rfl rfl (by kernel_rfl) (by kernel_rfl) (by kernel_rfl) (fun _ _ _ h => h) (Or.inl ⟨by kernel_rfl, fun w' hw' => by exact exec_load _ rfl (w.heap.size) rfl (HF.out.below hw' HF.out.lt) Try.underlying23 rfl (info_geA g)⟩) ?_
  refine takeH hS1 (i := 5) (d := 8) (v := .pointer (some ⟨w.heap.size, 2, none⟩)) rfl rfl (by kernel_rfl) (by kernel_rfl) (by kernel_rfl) (fun _ _ _ h => h) (Or.inl ⟨by kernel_rfl, fun w' hw' => by kernel_rfl⟩) ?_
  refine takeH hS1 (i := 6) (d := 9) (v := .int .i64 (g.s)) rfl rfl (by kernel_rfl) (by kernel_rfl) (by kernel_rfl) (fun _ _ _ h => h) (Or.inl ⟨by kernel_rfl, fun w' hw' => by exact exec_cell _ rfl ⟨w.heap.size, 2, none⟩ rfl _ Try.underlying3 (((HF.out.below hw' HF.out.lt).cell 2).trans (geA_at2 g))⟩) ?_
  try go_frame
  refine nextH (i := 4) rfl (by kernel_rfl) (by kernel_rfl) (fun K' hK => ?_)
  go_wp2_with fail
  refine (parts_any g _ H.out).mono ?_
  rintro en uc2 ⟨rfl, hb⟩
  have hS2 : Below u.heap.size u uc2 := bel_next hS1 hb
  refine hK.out _ _ ⟨hS2, ?_⟩
  clear hK K' hb hS1
  refine takeH hS2 (i := 7) (d := 10) (v := .bool false) rfl rfl (by kernel_rfl) (by kernel_rfl) (by kernel_rfl) (fun _ _ _ h => h) (Or.inl ⟨by kernel_rfl, fun w' hw' => by exact exec_leq _ _ rfl (parI g) (g.s) rfl rfl false (K1.out) rfl⟩) ?_
  refine takeH hS2 (i := 8) (d := 11) (v := .bool false) rfl rfl (by kernel_rfl) (by kernel_rfl) (by kernel_rfl) (fun _ _ _ h => h) (Or.inl ⟨by kernel_rfl, fun w' hw' => by kernel_rfl⟩) ?_
  refine takeH hS2 (i := 9) (d := 12) (v := .bool false) rfl rfl (by kernel_rfl) (by kernel_rfl) (by kernel_rfl) (fun _ _ _ h => h) (Or.inl ⟨by kernel_rfl, fun w' hw' => by kernel_rfl⟩) ?_
  refine takeH hS2 (i := 10) (d := 13) (v := undef) rfl rfl (by kernel_rfl) (by kernel_rfl) (by kernel_rfl) (fun _ _ _ h => h) (Or.inr ⟨by kernel_rfl, rfl⟩) ?_
  try go_frame
  refine takeH hS2 (i := 11) (d := 14) (v := undef) rfl rfl (by kernel_rfl) (by kernel_rfl) (by kernel_rfl) (fun _ _ _ h => h) (Or.inr ⟨by kernel_rfl, rfl⟩) ?_
  refine takeH hS2 (i := 12) (d := 15) (v := undef) rfl rfl (by kernel_rfl) (by kernel_rfl) (by kernel_rfl) (fun _ _ _ h => h) (Or.inr ⟨by kernel_rfl, rfl⟩) ?_
  refine takeH hS2 (i := 13) (d := 16) (v := undef) rfl rfl (by kernel_rfl) (by kernel_rfl) (by kernel_rfl) (fun _ _ _ h => h) (Or.inr ⟨by kernel_rfl, rfl⟩) ?_
  refine takeH hS2 (i := 14) (d := 17) (v := undef) rfl rfl (by kernel_rfl) (by kernel_rfl) (by kernel_rfl) (fun _ _ _ h => h) (Or.inr ⟨by kernel_rfl, rfl⟩) ?_
  try go_frame
  refine takeH hS2 (i := 15) (d := 18) (v := undef) rfl rfl (by kernel_rfl) (by kernel_rfl) (by kernel_rfl) (fun _ _ _ h => h) (Or.inr ⟨by kernel_rfl, rfl⟩) ?_
  refine takeH hS2 (i := 16) (d := 19) (v := undef) rfl rfl (by kernel_rfl) (by kernel_rfl) (by kernel_rfl) (fun _ _ _ h => h) (Or.inr ⟨by kernel_rfl, rfl⟩) ?_
  refine takeH hS2 (i := 17) (d := 20) (v := undef) rfl rfl (by kernel_rfl) (by kernel_rfl) (by kernel_rfl) (fun _ _ _ h => h) (Or.inr ⟨by kernel_rfl, rfl⟩) ?_
  refine takeH hS2 (i := 18) (d := 21) (v := undef) rfl rfl (by kernel_rfl) (by kernel_rfl) (by kernel_rfl) (fun _ _ _ h => h) (Or.inr ⟨by kernel_rfl, rfl⟩) ?_
  try go_frame
  refine takeH hS2 (i := 19) (d := 22) (v := .bool false) rfl rfl (by kernel_rfl) (by kernel_rfl) (by kernel_rfl) (fun _ _ _ h => h) (Or.inl ⟨by kernel_rfl, fun w' hw' => by kernel_rfl⟩) ?_
  refine takeH hS2 (i := 20) (d := 2) (v := .bool false) rfl rfl (by kernel_rfl) (by kernel_rfl) (by kernel_rfl) (fun _ _ _ h => h) (Or.inl ⟨by kernel_rfl, fun w' hw' => by kernel_rfl⟩) ?_
  refine wpAnyH_done (by kernel_rfl) ?_ _
  try go_frame
  have HB2 := Lib.hid (bthen HB.out hS2)
  clear hS2 HB HF
  go_wp2_with fail
  go_ret
  exact ⟨rfl, HB2.out⟩

set_option maxRecDepth 100000 in
set_option maxHeartbeats 2000000 in
theorem right_s (g : GeR) (w : World) (hL : Lim g) (h1 : decide (parI g ≤ g.s) = true) (h2 : decide (2 * g.b ≤ g.s * segI g) = false) :
    Calls Try.prog 8 #[.agg (geA g)] w fun e w' => e = .returned (.bool false) ∧ Below w.heap.size w w' := by
  have hB := below_alloc w (Obj.cells (geA g) 23)
  have hF : Blk (w.alloc (Obj.cells (geA g) 23)) w.heap.size 23 (geA g) := Blk.new _ _ _
  have HB := Lib.hid hB
  have HF := Lib.hid hF
  clear hF hB
  obtain ⟨a0, a1⟩ := par_bd hL
  obtain ⟨a2, a3⟩ := seg_bd hL
  obtain ⟨a4, a5⟩ := sseg_bd hL
  obtain ⟨b0, b1⟩ := hL.s
  obtain ⟨b2, b3⟩ := hL.b
  have H := Lib.hid hL
  have hl : limB g = true := (lim_iff g).2 hL
  have Hl := Lib.hid hl
  have K1 := Lib.hid h1
  have K2 := Lib.hid h2
  clear hl hL h1 h2
  go_enter Try.func8, Try.ntmps8
  go_upto_region 1 with fail
  generalize w.alloc (Obj.cells (geA g) 23) = u at *
  refine wp_region_held (S := fun w' => Below u.heap.size u w') (by kernel_rfl) ?_
  change wpAnyH _ _ _ _ _ _ _ _ (World.drew _)
  have hS : Below u.heap.size u u.drew := (Below.refl _ _).drew
  refine takeH hS (i := 0) (d := 3) (v := .agg (geA g)) rfl rfl (by kernel_rfl) (by kernel_rfl) (by kernel_rfl) (fun _ _ _ h => h) (Or.inl ⟨by kernel_rfl, fun w' hw' => by exact exec_load _ rfl (w.heap.size) rfl (HF.out.below hw' HF.out.lt) Try.underlying23 rfl (info_geA g)⟩) ?_
  try go_frame
  refine nextH (i := 1) rfl (by kernel_rfl) (by kernel_rfl) (fun K' hK => ?_)
  go_wp2_with fail
  refine (limited_any g _).mono ?_
  rintro en uc1 ⟨rfl, hb⟩
  rw [Hl.out]
  have hS1 : Below u.heap.size u uc1 := bel_next hS hb
  refine hK.out _ _ ⟨hS1, ?_⟩
  clear hK K' hb hS
  refine takeH hS1 (i := 2) (d := 5) (v := .bool true) rfl rfl (by kernel_rfl) (by kernel_rfl) (by kernel_rfl) (fun _ _ _ h => h) (Or.inl ⟨by kernel_rfl, fun w' hw' => by kernel_rfl⟩) ?_
  refine takeH hS1 (i := 3) (d := 6) (v := .agg (geA g)) rfl rfl (by kernel_rfl) (by kernel_rfl) (by kernel_rfl) (fun _ _ _ h => h) (Or.inl ⟨by kernel_rfl, fun w' hw' => by exact exec_load _ rfl (w.heap.size) rfl (HF.out.below hw' HF.out.lt) Try.underlying23 rfl (info_geA g)⟩) ?_
  refine takeH hS1 (i := 5) (d := 8) (v := .pointer (some ⟨w.heap.size, 2, none⟩)) rfl rfl (by kernel_rfl) (by kernel_rfl) (by kernel_rfl) (fun _ _ _ h => h) (Or.inl ⟨by kernel_rfl, fun w' hw' => by kernel_rfl⟩) ?_
  refine takeH hS1 (i := 6) (d := 9) (v := .int .i64 (g.s)) rfl rfl (by kernel_rfl) (by kernel_rfl) (by kernel_rfl) (fun _ _ _ h => h) (Or.inl ⟨by kernel_rfl, fun w' hw' => by exact exec_cell _ rfl ⟨w.heap.size, 2, none⟩ rfl _ Try.underlying3 (((HF.out.below hw' HF.out.lt).cell 2).trans (geA_at2 g))⟩) ?_
  try go_frame
  refine nextH (i := 4) rfl (by kernel_rfl) (by kernel_rfl) (fun K' hK => ?_)
  go_wp2_with fail
  refine (parts_any g _ H.out).mono ?_
  rintro en uc2 ⟨rfl, hb⟩
  have hS2 : Below u.heap.size u uc2 := bel_next hS1 hb
  refine hK.out _ _ ⟨hS2, ?_⟩
  clear hK K' hb hS1
  refine takeH hS2 (i := 7) (d := 10) (v := .bool true) rfl rfl (by kernel_rfl) (by kernel_rfl) (by kernel_rfl) (fun _ _ _ h => h) (Or.inl ⟨by kernel_rfl, fun w' hw' => by exact exec_leq _ _ rfl (parI g) (g.s) rfl rfl true (K1.out) rfl⟩) ?_
  refine takeH hS2 (i := 8) (d := 11) (v := .bool true) rfl rfl (by kernel_rfl) (by kernel_rfl) (by kernel_rfl) (fun _ _ _ h => h) (Or.inl ⟨by kernel_rfl, fun w' hw' => by kernel_rfl⟩) ?_
  refine takeH hS2 (i := 9) (d := 12) (v := .bool true) rfl rfl (by kernel_rfl) (by kernel_rfl) (by kernel_rfl) (fun _ _ _ h => h) (Or.inl ⟨by kernel_rfl, fun w' hw' => by kernel_rfl⟩) ?_
  refine takeH hS2 (i := 10) (d := 13) (v := .pointer (some ⟨w.heap.size, 3, none⟩)) rfl rfl (by kernel_rfl) (by kernel_rfl) (by kernel_rfl) (fun _ _ _ h => h) (Or.inl ⟨by kernel_rfl, fun w' hw' => by kernel_rfl⟩) ?_
  try go_frame
  refine takeH hS2 (i := 11) (d := 14) (v := .int .i64 (g.b)) rfl rfl (by kernel_rfl) (by kernel_rfl) (by kernel_rfl) (fun _ _ _ h => h) (Or.inl ⟨by kernel_rfl, fun w' hw' => by exact exec_cell _ rfl ⟨w.heap.size, 3, none⟩ rfl _ Try.underlying3 (((HF.out.below hw' HF.out.lt).cell 3).trans (geA_at3 g))⟩) ?_
  refine takeH hS2 (i := 12) (d := 15) (v := .int .i64 ((2) * (g.b))) rfl rfl (by kernel_rfl) (by kernel_rfl) (by kernel_rfl) (fun _ _ _ h => h) (Or.inl ⟨by kernel_rfl, fun w' hw' => by exact exec_mul _ _ rfl (2) (g.b) ((2) * (g.b)) rfl rfl (rfl) (by omega)⟩) ?_
  refine takeH hS2 (i := 13) (d := 16) (v := .pointer (some ⟨w.heap.size, 2, none⟩)) rfl rfl (by kernel_rfl) (by kernel_rfl) (by kernel_rfl) (fun _ _ _ h => h) (Or.inl ⟨by kernel_rfl, fun w' hw' => by kernel_rfl⟩) ?_
  refine takeH hS2 (i := 14) (d := 17) (v := .int .i64 (g.s)) rfl rfl (by kernel_rfl) (by kernel_rfl) (by kernel_rfl) (fun _ _ _ h => h) (Or.inl ⟨by kernel_rfl, fun w' hw' => by exact exec_cell _ rfl ⟨w.heap.size, 2, none⟩ rfl _ Try.underlying3 (((HF.out.below hw' HF.out.lt).cell 2).trans (geA_at2 g))⟩) ?_
  try go_frame
  refine takeH hS2 (i := 15) (d := 18) (v := .agg (geA g)) rfl rfl (by kernel_rfl) (by kernel_rfl) (by kernel_rfl) (fun _ _ _ h => h) (Or.inl ⟨by kernel_rfl, fun w' hw' => by exact exec_load _ rfl (w.heap.size) rfl (HF.out.below hw' HF.out.lt) Try.underlying23 rfl (info_geA g)⟩) ?_
  try go_frame
  refine nextH (i := 16) rfl (by kernel_rfl) (by kernel_rfl) (fun K' hK => ?_)
  go_wp2_with fail
  refine (segments_any g _ H.out).mono ?_
  rintro en uc3 ⟨rfl, hb⟩
  have hS3 : Below u.heap.size u uc3 := bel_next hS2 hb
  refine hK.out _ _ ⟨hS3, ?_⟩
  clear hK K' hb hS2
  refine takeH hS3 (i := 17) (d := 20) (v := .int .i64 ((g.s) * (segI g))) rfl rfl (by kernel_rfl) (by kernel_rfl) (by kernel_rfl) (fun _ _ _ h => h) (Or.inl ⟨by kernel_rfl, fun w' hw' => by exact exec_mul _ _ rfl (g.s) (segI g) ((g.s) * (segI g)) rfl rfl (rfl) (by omega)⟩) ?_
  refine takeH hS3 (i := 18) (d := 21) (v := .bool false) rfl rfl (by kernel_rfl) (by kernel_rfl) (by kernel_rfl) (fun _ _ _ h => h) (Or.inl ⟨by kernel_rfl, fun w' hw' => by exact exec_leq _ _ rfl ((2) * (g.b)) ((g.s) * (segI g)) rfl rfl false (K2.out) rfl⟩) ?_
  refine takeH hS3 (i := 19) (d := 22) (v := .bool false) rfl rfl (by kernel_rfl) (by kernel_rfl) (by kernel_rfl) (fun _ _ _ h => h) (Or.inl ⟨by kernel_rfl, fun w' hw' => by kernel_rfl⟩) ?_
  refine takeH hS3 (i := 20) (d := 2) (v := .bool false) rfl rfl (by kernel_rfl) (by kernel_rfl) (by kernel_rfl) (fun _ _ _ h => h) (Or.inl ⟨by kernel_rfl, fun w' hw' => by kernel_rfl⟩) ?_
  try go_frame
  refine wpAnyH_done (by kernel_rfl) ?_ _
  try go_frame
  have HB2 := Lib.hid (bthen HB.out hS3)
  clear hS3 HB HF
  go_wp2_with fail
  go_ret
  exact ⟨rfl, HB2.out⟩

set_option maxRecDepth 100000 in
set_option maxHeartbeats 2000000 in
theorem right_t (g : GeR) (w : World) (hL : Lim g) (h1 : decide (parI g ≤ g.s) = true) (h2 : decide (2 * g.b ≤ g.s * segI g) = true) :
    Calls Try.prog 8 #[.agg (geA g)] w fun e w' => e = .returned (.bool true) ∧ Below w.heap.size w w' := by
  have hB := below_alloc w (Obj.cells (geA g) 23)
  have hF : Blk (w.alloc (Obj.cells (geA g) 23)) w.heap.size 23 (geA g) := Blk.new _ _ _
  have HB := Lib.hid hB
  have HF := Lib.hid hF
  clear hF hB
  obtain ⟨a0, a1⟩ := par_bd hL
  obtain ⟨a2, a3⟩ := seg_bd hL
  obtain ⟨a4, a5⟩ := sseg_bd hL
  obtain ⟨b0, b1⟩ := hL.s
  obtain ⟨b2, b3⟩ := hL.b
  have H := Lib.hid hL
  have hl : limB g = true := (lim_iff g).2 hL
  have Hl := Lib.hid hl
  have K1 := Lib.hid h1
  have K2 := Lib.hid h2
  clear hl hL h1 h2
  go_enter Try.func8, Try.ntmps8
  go_upto_region 1 with fail
  generalize w.alloc (Obj.cells (geA g) 23) = u at *
  refine wp_region_held (S := fun w' => Below u.heap.size u w') (by kernel_rfl) ?_
  change wpAnyH _ _ _ _ _ _ _ _ (World.drew _)
  have hS : Below u.heap.size u u.drew := (Below.refl _ _).drew
  refine takeH hS (i := 0) (d := 3) (v := .agg (geA g)) rfl rfl (by kernel_rfl) (by kernel_rfl) (by kernel_rfl) (fun _ _ _ h => h) (Or.inl ⟨by kernel_rfl, fun w' hw' => by exact exec_load _ rfl (w.heap.size) rfl (HF.out.below hw' HF.out.lt) Try.underlying23 rfl (info_geA g)⟩) ?_
  try go_frame
  refine nextH (i := 1) rfl (by kernel_rfl) (by kernel_rfl) (fun K' hK => ?_)
  go_wp2_with fail
  refine (limited_any g _).mono ?_
  rintro en uc1 ⟨rfl, hb⟩
  rw [Hl.out]
  have hS1 : Below u.heap.size u uc1 := bel_next hS hb
  refine hK.out _ _ ⟨hS1, ?_⟩
  clear hK K' hb hS
  refine takeH hS1 (i := 2) (d := 5) (v := .bool true) rfl rfl (by kernel_rfl) (by kernel_rfl) (by kernel_rfl) (fun _ _ _ h => h) (Or.inl ⟨by kernel_rfl, fun w' hw' => by kernel_rfl⟩) ?_
  refine takeH hS1 (i := 3) (d := 6) (v := .agg (geA g)) rfl rfl (by kernel_rfl) (by kernel_rfl) (by kernel_rfl) (fun _ _ _ h => h) (Or.inl ⟨by kernel_rfl, fun w' hw' => by exact exec_load _ rfl (w.heap.size) rfl (HF.out.below hw' HF.out.lt) Try.underlying23 rfl (info_geA g)⟩) ?_
  refine takeH hS1 (i := 5) (d := 8) (v := .pointer (some ⟨w.heap.size, 2, none⟩)) rfl rfl (by kernel_rfl) (by kernel_rfl) (by kernel_rfl) (fun _ _ _ h => h) (Or.inl ⟨by kernel_rfl, fun w' hw' => by kernel_rfl⟩) ?_
  refine takeH hS1 (i := 6) (d := 9) (v := .int .i64 (g.s)) rfl rfl (by kernel_rfl) (by kernel_rfl) (by kernel_rfl) (fun _ _ _ h => h) (Or.inl ⟨by kernel_rfl, fun w' hw' => by exact exec_cell _ rfl ⟨w.heap.size, 2, none⟩ rfl _ Try.underlying3 (((HF.out.below hw' HF.out.lt).cell 2).trans (geA_at2 g))⟩) ?_
  try go_frame
  refine nextH (i := 4) rfl (by kernel_rfl) (by kernel_rfl) (fun K' hK => ?_)
  go_wp2_with fail
  refine (parts_any g _ H.out).mono ?_
  rintro en uc2 ⟨rfl, hb⟩
  have hS2 : Below u.heap.size u uc2 := bel_next hS1 hb
  refine hK.out _ _ ⟨hS2, ?_⟩
  clear hK K' hb hS1
  refine takeH hS2 (i := 7) (d := 10) (v := .bool true) rfl rfl (by kernel_rfl) (by kernel_rfl) (by kernel_rfl) (fun _ _ _ h => h) (Or.inl ⟨by kernel_rfl, fun w' hw' => by exact exec_leq _ _ rfl (parI g) (g.s) rfl rfl true (K1.out) rfl⟩) ?_
  refine takeH hS2 (i := 8) (d := 11) (v := .bool true) rfl rfl (by kernel_rfl) (by kernel_rfl) (by kernel_rfl) (fun _ _ _ h => h) (Or.inl ⟨by kernel_rfl, fun w' hw' => by kernel_rfl⟩) ?_
  refine takeH hS2 (i := 9) (d := 12) (v := .bool true) rfl rfl (by kernel_rfl) (by kernel_rfl) (by kernel_rfl) (fun _ _ _ h => h) (Or.inl ⟨by kernel_rfl, fun w' hw' => by kernel_rfl⟩) ?_
  refine takeH hS2 (i := 10) (d := 13) (v := .pointer (some ⟨w.heap.size, 3, none⟩)) rfl rfl (by kernel_rfl) (by kernel_rfl) (by kernel_rfl) (fun _ _ _ h => h) (Or.inl ⟨by kernel_rfl, fun w' hw' => by kernel_rfl⟩) ?_
  try go_frame
  refine takeH hS2 (i := 11) (d := 14) (v := .int .i64 (g.b)) rfl rfl (by kernel_rfl) (by kernel_rfl) (by kernel_rfl) (fun _ _ _ h => h) (Or.inl ⟨by kernel_rfl, fun w' hw' => by exact exec_cell _ rfl ⟨w.heap.size, 3, none⟩ rfl _ Try.underlying3 (((HF.out.below hw' HF.out.lt).cell 3).trans (geA_at3 g))⟩) ?_
  refine takeH hS2 (i := 12) (d := 15) (v := .int .i64 ((2) * (g.b))) rfl rfl (by kernel_rfl) (by kernel_rfl) (by kernel_rfl) (fun _ _ _ h => h) (Or.inl ⟨by kernel_rfl, fun w' hw' => by exact exec_mul _ _ rfl (2) (g.b) ((2) * (g.b)) rfl rfl (rfl) (by omega)⟩) ?_
  refine takeH hS2 (i := 13) (d := 16) (v := .pointer (some ⟨w.heap.size, 2, none⟩)) rfl rfl (by kernel_rfl) (by kernel_rfl) (by kernel_rfl) (fun _ _ _ h => h) (Or.inl ⟨by kernel_rfl, fun w' hw' => by kernel_rfl⟩) ?_
  refine takeH hS2 (i := 14) (d := 17) (v := .int .i64 (g.s)) rfl rfl (by kernel_rfl) (by kernel_rfl) (by kernel_rfl) (fun _ _ _ h => h) (Or.inl ⟨by kernel_rfl, fun w' hw' => by exact exec_cell _ rfl ⟨w.heap.size, 2, none⟩ rfl _ Try.underlying3 (((HF.out.below hw' HF.out.lt).cell 2).trans (geA_at2 g))⟩) ?_
  try go_frame
  refine takeH hS2 (i := 15) (d := 18) (v := .agg (geA g)) rfl rfl (by kernel_rfl) (by kernel_rfl) (by kernel_rfl) (fun _ _ _ h => h) (Or.inl ⟨by kernel_rfl, fun w' hw' => by exact exec_load _ rfl (w.heap.size) rfl (HF.out.below hw' HF.out.lt) Try.underlying23 rfl (info_geA g)⟩) ?_
  try go_frame
  refine nextH (i := 16) rfl (by kernel_rfl) (by kernel_rfl) (fun K' hK => ?_)
  go_wp2_with fail
  refine (segments_any g _ H.out).mono ?_
  rintro en uc3 ⟨rfl, hb⟩
  have hS3 : Below u.heap.size u uc3 := bel_next hS2 hb
  refine hK.out _ _ ⟨hS3, ?_⟩
  clear hK K' hb hS2
  refine takeH hS3 (i := 17) (d := 20) (v := .int .i64 ((g.s) * (segI g))) rfl rfl (by kernel_rfl) (by kernel_rfl) (by kernel_rfl) (fun _ _ _ h => h) (Or.inl ⟨by kernel_rfl, fun w' hw' => by exact exec_mul _ _ rfl (g.s) (segI g) ((g.s) * (segI g)) rfl rfl (rfl) (by omega)⟩) ?_
  refine takeH hS3 (i := 18) (d := 21) (v := .bool true) rfl rfl (by kernel_rfl) (by kernel_rfl) (by kernel_rfl) (fun _ _ _ h => h) (Or.inl ⟨by kernel_rfl, fun w' hw' => by exact exec_leq _ _ rfl ((2) * (g.b)) ((g.s) * (segI g)) rfl rfl true (K2.out) rfl⟩) ?_
  refine takeH hS3 (i := 19) (d := 22) (v := .bool true) rfl rfl (by kernel_rfl) (by kernel_rfl) (by kernel_rfl) (fun _ _ _ h => h) (Or.inl ⟨by kernel_rfl, fun w' hw' => by kernel_rfl⟩) ?_
  refine takeH hS3 (i := 20) (d := 2) (v := .bool true) rfl rfl (by kernel_rfl) (by kernel_rfl) (by kernel_rfl) (fun _ _ _ h => h) (Or.inl ⟨by kernel_rfl, fun w' hw' => by kernel_rfl⟩) ?_
  try go_frame
  refine wpAnyH_done (by kernel_rfl) ?_ _
  try go_frame
  have HB2 := Lib.hid (bthen HB.out hS3)
  clear hS3 HB HF
  go_wp2_with fail
  go_ret
  exact ⟨rfl, HB2.out⟩

theorem right_any (g : GeR) (w : World) :
    Calls Try.prog 8 #[.agg (geA g)] w fun e w' => e = .returned (.bool (gB g)) ∧ Below w.heap.size w w' := by
  unfold gB
  cases hl : limB g with
  | false => exact right_l g w hl
  | true =>
    have hL := (lim_iff g).1 hl
    cases h1 : decide (parI g ≤ g.s) with
    | false => exact right_p g w hL h1
    | true =>
      cases h2 : decide (2 * g.b ≤ g.s * segI g) with
      | false => exact right_s g w hL h1 h2
      | true => exact right_t g w hL h1 h2

end Go.Proofs.Ytkjjhcpfblhijaa
