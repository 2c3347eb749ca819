/-
  Contracts of layer 5 (geom): the document's Parts, Segments, Right.
-/
import Derived.Test.YtkjjhcpfblhijaaGeomD
namespace Go.Proofs.Ytkjjhcpfblhijaa
open Go.RowKit
set_option linter.unusedVariables false
set_option linter.unnecessarySimpa false
set_option linter.unusedSimpArgs false

set_option maxRecDepth 100000 in
set_option maxHeartbeats 2000000 in
theorem rparts_any (g : GeR) (w : World) (hb1 : 1 ≤ g.b) (hb2 : g.b ≤ 256) :
    Calls Try.prog 12 #[.agg (geA g)] w fun e w' => e = .returned (.int .i64 (parI g)) ∧ Below w.heap.size w w' := by
  have hB := below_alloc w (Obj.cells (geA g) 25)
  have hF : Blk (w.alloc (Obj.cells (geA g) 25)) w.heap.size 25 (geA g) := Blk.new _ _ _
  have c3 := (hF.cell 3).trans (geA_at3 g)
  have HB := Lib.hid hB
  have HF := Lib.hid hF
  clear hF hB
  go_enter Try.func12, Try.ntmps12
  go_wp2_with fail
  go_loop [3, 4] (fun n i => ∃ k : Nat, (k : Int) ≤ (g.b + 1) / 2 ∧ n = .int .i64 (1 + k) ∧ i = .int .i64 (2 * k)) (fun _ i => 300 - (intOf i).toNat)
  case atStart => exact ⟨0, by omega, rfl, rfl⟩
  case round =>
    obtain ⟨k, hk, rfl, rfl⟩ := hrel
    by_cases hlt : 2 * (k : Int) < g.b
    · go_wp2_with fail
      go_round
      case rel => exact ⟨k + 1, by omega, by go_num, by go_num⟩
      case measure => simp [intOf]; omega
    · have e : (1 + (k : Int)) = parI g := by unfold parI; omega
      have E := Lib.hid e
      clear e
      go_wp2_with fail
      go_ret
      exact ⟨ret_int E.out, HB.out⟩

set_option maxRecDepth 100000 in
set_option maxHeartbeats 2000000 in
theorem rseg_lt (g : GeR) (w : World) (h : Lim g) (hc : us2 g < us1 g) :
    Calls Try.prog 15 #[.agg (geA g)] w fun e w' => e = .returned (.int .i64 (segI g)) ∧ Below w.heap.size w w' := by
  have hB := below_alloc w (Obj.cells (geA g) 25)
  have hF : Blk (w.alloc (Obj.cells (geA g) 25)) w.heap.size 25 (geA g) := Blk.new _ _ _
  have c0 := (hF.cell 0).trans (geA_at0 g)
  have c1 := (hF.cell 1).trans (geA_at1 g)
  have c4 := (hF.cell 4).trans (geA_at4 g)
  have HB := Lib.hid hB
  have HF := Lib.hid hF
  clear hF hB
  have hu : useI g = us2 g := by unfold useI; rw [if_pos hc]
  obtain ⟨a1, a2⟩ := use_bd h
  obtain ⟨a3, a4⟩ := fai_bd h
  obtain ⟨a5, a6⟩ := seg_bd h
  have x1 := dsaf_bd h
  have x2 := d1saf_bd h
  obtain ⟨x3, x4⟩ := h.d
  obtain ⟨x5, x6⟩ := h.z
  obtain ⟨x7, x8⟩ := h.p
  have x9 := fai_bd h
  unfold us1 us2 resI faiI safI at hc
  unfold safI at x1 x2
  unfold faiI at x9
  obtain ⟨x1, x1'⟩ := x1
  obtain ⟨x2, x2'⟩ := x2
  obtain ⟨x9, x9'⟩ := x9
  have HU := Lib.hid hu
  have H := Lib.hid h
  clear h hu
  go_enter Try.func15, Try.ntmps15
  go_upto_region 7 with fail
  generalize w.alloc (Obj.cells (geA g) 25) = u at *
  refine wp_region_held (S := fun w' => Below u.heap.size u w') (by kernel_rfl) ?_
  change wpAnyH _ _ _ _ _ _ _ _ (World.drew _)
  have hS : Below u.heap.size u u.drew := (Below.refl _ _).drew
  refine takeH hS (i := 0) (d := 39) (v := .int .i64 (us2 g)) rfl rfl (by kernel_rfl) (by kernel_rfl) (by kernel_rfl) (fun _ _ _ h => h) (Or.inl ⟨by kernel_rfl, fun w' hw' => by kernel_rfl⟩) ?_
  refine takeH hS (i := 3) (d := 42) (v := .pointer (some ⟨w.heap.size, 0, none⟩)) rfl rfl (by kernel_rfl) (by kernel_rfl) (by kernel_rfl) (fun _ _ _ h => h) (Or.inl ⟨by kernel_rfl, fun w' hw' => by kernel_rfl⟩) ?_
  refine takeH hS (i := 4) (d := 43) (v := .int .i64 (g.d)) rfl rfl (by kernel_rfl) (by kernel_rfl) (by kernel_rfl) (fun _ _ _ h => h) (Or.inl ⟨by kernel_rfl, fun w' hw' => by exact exec_cell _ rfl ⟨w.heap.size, 0, none⟩ rfl _ Try.underlying3 (((HF.out.below hw' HF.out.lt).cell 0).trans (geA_at0 g))⟩) ?_
  refine takeH hS (i := 5) (d := 44) (v := .pointer (some ⟨w.heap.size, 4, none⟩)) rfl rfl (by kernel_rfl) (by kernel_rfl) (by kernel_rfl) (fun _ _ _ h => h) (Or.inl ⟨by kernel_rfl, fun w' hw' => by kernel_rfl⟩) ?_
  try go_frame
  refine takeH hS (i := 6) (d := 45) (v := .int .i64 (g.p)) rfl rfl (by kernel_rfl) (by kernel_rfl) (by kernel_rfl) (fun _ _ _ h => h) (Or.inl ⟨by kernel_rfl, fun w' hw' => by exact exec_cell _ rfl ⟨w.heap.size, 4, none⟩ rfl _ Try.underlying3 (((HF.out.below hw' HF.out.lt).cell 4).trans (geA_at4 g))⟩) ?_
  refine takeH hS (i := 7) (d := 46) (v := .int .i64 (faiI g)) rfl rfl (by kernel_rfl) (by kernel_rfl) (by kernel_rfl) (fun _ _ _ h => h) (Or.inl ⟨by kernel_rfl, fun w' hw' => by exact exec_mul _ _ rfl (g.d) (g.p) (faiI g) rfl rfl (rfl) (by omega)⟩) ?_
  try go_frame
  refine nextH (i := 1) rfl (by kernel_rfl) (by kernel_rfl) (fun K' hK => ?_)
  go_wp2_with fail
  refine (half_any (us2 g) _ (by rw [← HU.out]; omega) (by rw [← HU.out]; omega)).mono ?_
  rintro en w9 ⟨rfl, rfl⟩
  have hb : Below u.drew.heap.size u.drew u.drew := Below.refl _ _
  have hS1 : Below u.heap.size u u.drew := bel_next hS hb
  refine hK.out _ _ ⟨hS1, ?_⟩
  clear hK K' hb hS
  refine takeH hS1 (i := 2) (d := 41) (v := .int .i64 (useI g / 2 - 1)) rfl rfl (by kernel_rfl) (by kernel_rfl) (by kernel_rfl) (fun _ _ _ h => h) (Or.inl ⟨by kernel_rfl, fun w' hw' => by exact exec_sub _ _ rfl (us2 g / 2) (1) (useI g / 2 - 1) rfl rfl (by rw [HU.out]) (by omega)⟩) ?_
  refine takeH hS1 (i := 8) (d := 47) (v := .int .i64 (segI g)) rfl rfl (by kernel_rfl) (by kernel_rfl) (by kernel_rfl) (fun _ _ _ h => h) (Or.inl ⟨by kernel_rfl, fun w' hw' => by exact exec_sub _ _ rfl (useI g / 2 - 1) (faiI g) (segI g) rfl rfl (rfl) (by omega)⟩) ?_
  refine takeH hS1 (i := 9) (d := 2) (v := .int .i64 (segI g)) rfl rfl (by kernel_rfl) (by kernel_rfl) (by kernel_rfl) (fun _ _ _ h => h) (Or.inl ⟨by kernel_rfl, fun w' hw' => by kernel_rfl⟩) ?_
  refine wpAnyH_done (by kernel_rfl) ?_ _
  try go_frame
  have HB2 := Lib.hid (bthen HB.out hS1)
  clear hS1 HB HF
  go_wp2_with fail
  go_ret
  exact ⟨rfl, HB2.out⟩

set_option maxRecDepth 100000 in
set_option maxHeartbeats 2000000 in
theorem rseg_ge (g : GeR) (w : World) (h : Lim g) (hc : ¬ us2 g < us1 g) :
    Calls Try.prog 15 #[.agg (geA g)] w fun e w' => e = .returned (.int .i64 (segI g)) ∧ Below w.heap.size w w' := by
  have hB := below_alloc w (Obj.cells (geA g) 25)
  have hF : Blk (w.alloc (Obj.cells (geA g) 25)) w.heap.size 25 (geA g) := Blk.new _ _ _
  have c0 := (hF.cell 0).trans (geA_at0 g)
  have c1 := (hF.cell 1).trans (geA_at1 g)
  have c4 := (hF.cell 4).trans (geA_at4 g)
  have HB := Lib.hid hB
  have HF := Lib.hid hF
  clear hF hB
  have hu : useI g = us1 g := by unfold useI; rw [if_neg hc]
  obtain ⟨a1, a2⟩ := use_bd h
  obtain ⟨a3, a4⟩ := fai_bd h
  obtain ⟨a5, a6⟩ := seg_bd h
  have x1 := dsaf_bd h
  have x2 := d1saf_bd h
  obtain ⟨x3, x4⟩ := h.d
  obtain ⟨x5, x6⟩ := h.z
  obtain ⟨x7, x8⟩ := h.p
  have x9 := fai_bd h
  unfold us1 us2 resI faiI safI at hc
  unfold safI at x1 x2
  unfold faiI at x9
  obtain ⟨x1, x1'⟩ := x1
  obtain ⟨x2, x2'⟩ := x2
  obtain ⟨x9, x9'⟩ := x9
  have HU := Lib.hid hu
  have H := Lib.hid h
  clear h hu
  go_enter Try.func15, Try.ntmps15
  go_upto_region 7 with fail
  generalize w.alloc (Obj.cells (geA g) 25) = u at *
  refine wp_region_held (S := fun w' => Below u.heap.size u w') (by kernel_rfl) ?_
  change wpAnyH _ _ _ _ _ _ _ _ (World.drew _)
  have hS : Below u.heap.size u u.drew := (Below.refl _ _).drew
  refine takeH hS (i := 0) (d := 39) (v := .int .i64 (us1 g)) rfl rfl (by kernel_rfl) (by kernel_rfl) (by kernel_rfl) (fun _ _ _ h => h) (Or.inl ⟨by kernel_rfl, fun w' hw' => by kernel_rfl⟩) ?_
  refine takeH hS (i := 3) (d := 42) (v := .pointer (some ⟨w.heap.size, 0, none⟩)) rfl rfl (by kernel_rfl) (by kernel_rfl) (by kernel_rfl) (fun _ _ _ h => h) (Or.inl ⟨by kernel_rfl, fun w' hw' => by kernel_rfl⟩) ?_
  refine takeH hS (i := 4) (d := 43) (v := .int .i64 (g.d)) rfl rfl (by kernel_rfl) (by kernel_rfl) (by kernel_rfl) (fun _ _ _ h => h) (Or.inl ⟨by kernel_rfl, fun w' hw' => by exact exec_cell _ rfl ⟨w.heap.size, 0, none⟩ rfl _ Try.underlying3 (((HF.out.below hw' HF.out.lt).cell 0).trans (geA_at0 g))⟩) ?_
  refine takeH hS (i := 5) (d := 44) (v := .pointer (some ⟨w.heap.size, 4, none⟩)) rfl rfl (by kernel_rfl) (by kernel_rfl) (by kernel_rfl) (fun _ _ _ h => h) (Or.inl ⟨by kernel_rfl, fun w' hw' => by kernel_rfl⟩) ?_
  try go_frame
  refine takeH hS (i := 6) (d := 45) (v := .int .i64 (g.p)) rfl rfl (by kernel_rfl) (by kernel_rfl) (by kernel_rfl) (fun _ _ _ h => h) (Or.inl ⟨by kernel_rfl, fun w' hw' => by exact exec_cell _ rfl ⟨w.heap.size, 4, none⟩ rfl _ Try.underlying3 (((HF.out.below hw' HF.out.lt).cell 4).trans (geA_at4 g))⟩) ?_
  refine takeH hS (i := 7) (d := 46) (v := .int .i64 (faiI g)) rfl rfl (by kernel_rfl) (by kernel_rfl) (by kernel_rfl) (fun _ _ _ h => h) (Or.inl ⟨by kernel_rfl, fun w' hw' => by exact exec_mul _ _ rfl (g.d) (g.p) (faiI g) rfl rfl (rfl) (by omega)⟩) ?_
  try go_frame
  refine nextH (i := 1) rfl (by kernel_rfl) (by kernel_rfl) (fun K' hK => ?_)
  go_wp2_with fail
  refine (half_any (us1 g) _ (by rw [← HU.out]; omega) (by rw [← HU.out]; omega)).mono ?_
  rintro en w9 ⟨rfl, rfl⟩
  have hb : Below u.drew.heap.size u.drew u.drew := Below.refl _ _
  have hS1 : Below u.heap.size u u.drew := bel_next hS hb
  refine hK.out _ _ ⟨hS1, ?_⟩
  clear hK K' hb hS
  refine takeH hS1 (i := 2) (d := 41) (v := .int .i64 (useI g / 2 - 1)) rfl rfl (by kernel_rfl) (by kernel_rfl) (by kernel_rfl) (fun _ _ _ h => h) (Or.inl ⟨by kernel_rfl, fun w' hw' => by exact exec_sub _ _ rfl (us1 g / 2) (1) (useI g / 2 - 1) rfl rfl (by rw [HU.out]) (by omega)⟩) ?_
  refine takeH hS1 (i := 8) (d := 47) (v := .int .i64 (segI g)) rfl rfl (by kernel_rfl) (by kernel_rfl) (by kernel_rfl) (fun _ _ _ h => h) (Or.inl ⟨by kernel_rfl, fun w' hw' => by exact exec_sub _ _ rfl (useI g / 2 - 1) (faiI g) (segI g) rfl rfl (rfl) (by omega)⟩) ?_
  refine takeH hS1 (i := 9) (d := 2) (v := .int .i64 (segI g)) rfl rfl (by kernel_rfl) (by kernel_rfl) (by kernel_rfl) (fun _ _ _ h => h) (Or.inl ⟨by kernel_rfl, fun w' hw' => by kernel_rfl⟩) ?_
  refine wpAnyH_done (by kernel_rfl) ?_ _
  try go_frame
  have HB2 := Lib.hid (bthen HB.out hS1)
  clear hS1 HB HF
  go_wp2_with fail
  go_ret
  exact ⟨rfl, HB2.out⟩

theorem rsegments_any (g : GeR) (w : World) (h : Lim g) :
    Calls Try.prog 15 #[.agg (geA g)] w fun e w' => e = .returned (.int .i64 (segI g)) ∧ Below w.heap.size w w' := by
  by_cases hc : us2 g < us1 g
  · exact rseg_lt g w h hc
  · exact rseg_ge g w h hc

set_option maxRecDepth 100000 in
set_option maxHeartbeats 2000000 in
theorem rright_l (g : GeR) (w : World) (hl : limB g = false) :
    Calls Try.prog 9 #[.agg (geA g)] w fun e w' => e = .returned (.bool false) ∧ Below w.heap.size w w' := by
  have hB := below_alloc w (Obj.cells (geA g) 25)
  have hF : Blk (w.alloc (Obj.cells (geA g) 25)) w.heap.size 25 (geA g) := Blk.new _ _ _
  have c0 := (hF.cell 0).trans (geA_at0 g)
  have c1 := (hF.cell 1).trans (geA_at1 g)
  have c2 := (hF.cell 2).trans (geA_at2 g)
  have c3 := (hF.cell 3).trans (geA_at3 g)
  have c4 := (hF.cell 4).trans (geA_at4 g)
  have c5 := (hF.cell 5).trans (geA_at5 g)
  have HB := Lib.hid hB
  have HF := Lib.hid hF
  clear hF hB
  have hn : ¬ ((3 ≤ g.d ∧ g.d ≤ 8) ∧ (1 ≤ g.z ∧ g.z ≤ 64) ∧ (4 ≤ g.s ∧ g.s ≤ 64) ∧ (1 ≤ g.b ∧ g.b ≤ 256) ∧ (0 ≤ g.p ∧ g.p ≤ 4) ∧ (4 ≤ g.o ∧ g.o ≤ 64)) := fun ⟨a, b, c, d, e, f⟩ => by rw [(lim_iff g).2 ⟨a, b, c, d, e, f⟩] at hl; cases hl
  have HN := Lib.hid hn
  clear hl hn
  go_enter Try.func9, Try.ntmps9
  go_upto_region 3 with fail
  all_goals (first | (go_ret; exact ⟨rfl, HB.out⟩) | (exfalso; have := HN.out; omega))

set_option maxRecDepth 100000 in
set_option maxHeartbeats 2000000 in
theorem rright_p (g : GeR) (w : World) (hL : Lim g) (h1 : decide (parI g ≤ g.s) = false) :
    Calls Try.prog 9 #[.agg (geA g)] w fun e w' => e = .returned (.bool false) ∧ Below w.heap.size w w' := by
  have hB := below_alloc w (Obj.cells (geA g) 25)
  have hF : Blk (w.alloc (Obj.cells (geA g) 25)) w.heap.size 25 (geA g) := Blk.new _ _ _
  have c0 := (hF.cell 0).trans (geA_at0 g)
  have c1 := (hF.cell 1).trans (geA_at1 g)
  have c2 := (hF.cell 2).trans (geA_at2 g)
  have c3 := (hF.cell 3).trans (geA_at3 g)
  have c4 := (hF.cell 4).trans (geA_at4 g)
  have c5 := (hF.cell 5).trans (geA_at5 g)
  have HB := Lib.hid hB
  have HF := Lib.hid hF
  clear hF hB
  obtain ⟨⟨x0, x1⟩, ⟨x2, x3⟩, ⟨x4, x5⟩, ⟨x6, x7⟩, ⟨x8, x9⟩, ⟨x10, x11⟩⟩ := hL
  have hL : Lim g := ⟨⟨x0, x1⟩, ⟨x2, x3⟩, ⟨x4, x5⟩, ⟨x6, x7⟩, ⟨x8, x9⟩, ⟨x10, x11⟩⟩
  obtain ⟨a0, a1⟩ := par_bd hL
  obtain ⟨a2, a3⟩ := seg_bd hL
  obtain ⟨a4, a5⟩ := sseg_bd hL
  have H := Lib.hid hL
  have K1 := Lib.hid h1
  clear hL h1
  go_enter Try.func9, Try.ntmps9
  go_upto_region 3 with fail
  clear c0 c1 c2 c3 c4 c5
  generalize w.alloc (Obj.cells (geA g) 25) = u at *
  refine wp_region_held (S := fun w' => Below u.heap.size u w') (by kernel_rfl) ?_
  change wpAnyH _ _ _ _ _ _ _ _ (World.drew _)
  have hS : Below u.heap.size u u.drew := (Below.refl _ _).drew
  refine takeH hS (i := 0) (d := 61) (v := .agg (geA g)) rfl rfl (by kernel_rfl) (by kernel_rfl) (by kernel_rfl) (fun _ _ _ h => h) (Or.inl ⟨by kernel_rfl, fun w' hw' => by exact exec_load _ rfl (w.heap.size) rfl (HF.out.below hw' HF.out.lt) Try.underlying25 rfl (info_grA g)⟩) ?_
  refine takeH hS (i := 2) (d := 63) (v := .pointer (some ⟨w.heap.size, 2, none⟩)) rfl rfl (by kernel_rfl) (by kernel_rfl) (by kernel_rfl) (fun _ _ _ h => h) (Or.inl ⟨by kernel_rfl, fun w' hw' => by kernel_rfl⟩) ?_
  refine takeH hS (i := 3) (d := 64) (v := .int .i64 (g.s)) rfl rfl (by kernel_rfl) (by kernel_rfl) (by kernel_rfl) (fun _ _ _ h => h) (Or.inl ⟨by kernel_rfl, fun w' hw' => by exact exec_cell _ rfl ⟨w.heap.size, 2, none⟩ rfl _ Try.underlying3 (((HF.out.below hw' HF.out.lt).cell 2).trans (geA_at2 g))⟩) ?_
  try go_frame
  refine nextH (i := 1) rfl (by kernel_rfl) (by kernel_rfl) (fun K' hK => ?_)
  go_wp2_with fail
  refine (rparts_any g _ H.out.b.1 H.out.b.2).mono ?_
  rintro en uc1 ⟨rfl, hb⟩
  have hS1 : Below u.heap.size u uc1 := bel_next hS hb
  refine hK.out _ _ ⟨hS1, ?_⟩
  clear hK K' hb hS
  refine takeH hS1 (i := 4) (d := 65) (v := .bool false) rfl rfl (by kernel_rfl) (by kernel_rfl) (by kernel_rfl) (fun _ _ _ h => h) (Or.inl ⟨by kernel_rfl, fun w' hw' => by exact exec_leq _ _ rfl (parI g) (g.s) rfl rfl false (K1.out) rfl⟩) ?_
  refine takeH hS1 (i := 5) (d := 66) (v := .bool false) rfl rfl (by kernel_rfl) (by kernel_rfl) (by kernel_rfl) (fun _ _ _ h => h) (Or.inl ⟨by kernel_rfl, fun w' hw' => by kernel_rfl⟩) ?_
  refine takeH hS1 (i := 6) (d := 67) (v := undef) rfl rfl (by kernel_rfl) (by kernel_rfl) (by kernel_rfl) (fun _ _ _ h => h) (Or.inr ⟨by kernel_rfl, rfl⟩) ?_
  refine takeH hS1 (i := 7) (d := 68) (v := undef) rfl rfl (by kernel_rfl) (by kernel_rfl) (by kernel_rfl) (fun _ _ _ h => h) (Or.inr ⟨by kernel_rfl, rfl⟩) ?_
  try go_frame
  refine takeH hS1 (i := 8) (d := 69) (v := undef) rfl rfl (by kernel_rfl) (by kernel_rfl) (by kernel_rfl) (fun _ _ _ h => h) (Or.inr ⟨by kernel_rfl, rfl⟩) ?_
  refine takeH hS1 (i := 9) (d := 70) (v := undef) rfl rfl (by kernel_rfl) (by kernel_rfl) (by kernel_rfl) (fun _ _ _ h => h) (Or.inr ⟨by kernel_rfl, rfl⟩) ?_
  refine takeH hS1 (i := 10) (d := 71) (v := undef) rfl rfl (by kernel_rfl) (by kernel_rfl) (by kernel_rfl) (fun _ _ _ h => h) (Or.inr ⟨by kernel_rfl, rfl⟩) ?_
  refine takeH hS1 (i := 11) (d := 72) (v := undef) rfl rfl (by kernel_rfl) (by kernel_rfl) (by kernel_rfl) (fun _ _ _ h => h) (Or.inr ⟨by kernel_rfl, rfl⟩) ?_
  try go_frame
  refine takeH hS1 (i := 12) (d := 73) (v := undef) rfl rfl (by kernel_rfl) (by kernel_rfl) (by kernel_rfl) (fun _ _ _ h => h) (Or.inr ⟨by kernel_rfl, rfl⟩) ?_
  refine takeH hS1 (i := 13) (d := 74) (v := undef) rfl rfl (by kernel_rfl) (by kernel_rfl) (by kernel_rfl) (fun _ _ _ h => h) (Or.inr ⟨by kernel_rfl, rfl⟩) ?_
  refine takeH hS1 (i := 14) (d := 75) (v := undef) rfl rfl (by kernel_rfl) (by kernel_rfl) (by kernel_rfl) (fun _ _ _ h => h) (Or.inr ⟨by kernel_rfl, rfl⟩) ?_
  refine takeH hS1 (i := 15) (d := 76) (v := .bool false) rfl rfl (by kernel_rfl) (by kernel_rfl) (by kernel_rfl) (fun _ _ _ h => h) (Or.inl ⟨by kernel_rfl, fun w' hw' => by kernel_rfl⟩) ?_
  try go_frame
  refine takeH hS1 (i := 16) (d := 2) (v := .bool false) rfl rfl (by kernel_rfl) (by kernel_rfl) (by kernel_rfl) (fun _ _ _ h => h) (Or.inl ⟨by kernel_rfl, fun w' hw' => by kernel_rfl⟩) ?_
  refine wpAnyH_done (by kernel_rfl) ?_ _
  try go_frame
  have HB2 := Lib.hid (bthen HB.out hS1)
  clear hS1 HB HF
  go_wp2_with fail
  go_ret
  exact ⟨rfl, HB2.out⟩

set_option maxRecDepth 100000 in
set_option maxHeartbeats 2000000 in
theorem rright_s (g : GeR) (w : World) (hL : Lim g) (h1 : decide (parI g ≤ g.s) = true) (h2 : decide (2 * g.b ≤ g.s * segI g) = false) :
    Calls Try.prog 9 #[.agg (geA g)] w fun e w' => e = .returned (.bool false) ∧ Below w.heap.size w w' := by
  have hB := below_alloc w (Obj.cells (geA g) 25)
  have hF : Blk (w.alloc (Obj.cells (geA g) 25)) w.heap.size 25 (geA g) := Blk.new _ _ _
  have c0 := (hF.cell 0).trans (geA_at0 g)
  have c1 := (hF.cell 1).trans (geA_at1 g)
  have c2 := (hF.cell 2).trans (geA_at2 g)
  have c3 := (hF.cell 3).trans (geA_at3 g)
  have c4 := (hF.cell 4).trans (geA_at4 g)
  have c5 := (hF.cell 5).trans (geA_at5 g)
  have HB := Lib.hid hB
  have HF := Lib.hid hF
  clear hF hB
  obtain ⟨⟨x0, x1⟩, ⟨x2, x3⟩, ⟨x4, x5⟩, ⟨x6, x7⟩, ⟨x8, x9⟩, ⟨x10, x11⟩⟩ := hL
  have hL : Lim g := ⟨⟨x0, x1⟩, ⟨x2, x3⟩, ⟨x4, x5⟩, ⟨x6, x7⟩, ⟨x8, x9⟩, ⟨x10, x11⟩⟩
  obtain ⟨a0, a1⟩ := par_bd hL
  obtain ⟨a2, a3⟩ := seg_bd hL
  obtain ⟨a4, a5⟩ := sseg_bd hL
  have H := Lib.hid hL
  have K1 := Lib.hid h1
  have K2 := Lib.hid h2
  clear hL h1 h2
  go_enter Try.func9, Try.ntmps9
  go_upto_region 3 with fail
  clear c0 c1 c2 c3 c4 c5
  generalize w.alloc (Obj.cells (geA g) 25) = u at *
  refine wp_region_held (S := fun w' => Below u.heap.size u w') (by kernel_rfl) ?_
  change wpAnyH _ _ _ _ _ _ _ _ (World.drew _)
  have hS : Below u.heap.size u u.drew := (Below.refl _ _).drew
  refine takeH hS (i := 0) (d := 61) (v := .agg (geA g)) rfl rfl (by kernel_rfl) (by kernel_rfl) (by kernel_rfl) (fun _ _ _ h => h) (Or.inl ⟨by kernel_rfl, fun w' hw' => by exact exec_load _ rfl (w.heap.size) rfl (HF.out.below hw' HF.out.lt) Try.underlying25 rfl (info_grA g)⟩) ?_
  refine takeH hS (i := 2) (d := 63) (v := .pointer (some ⟨w.heap.size, 2, none⟩)) rfl rfl (by kernel_rfl) (by kernel_rfl) (by kernel_rfl) (fun _ _ _ h => h) (Or.inl ⟨by kernel_rfl, fun w' hw' => by kernel_rfl⟩) ?_
  refine takeH hS (i := 3) (d := 64) (v := .int .i64 (g.s)) rfl rfl (by kernel_rfl) (by kernel_rfl) (by kernel_rfl) (fun _ _ _ h => h) (Or.inl ⟨by kernel_rfl, fun w' hw' => by exact exec_cell _ rfl ⟨w.heap.size, 2, none⟩ rfl _ Try.underlying3 (((HF.out.below hw' HF.out.lt).cell 2).trans (geA_at2 g))⟩) ?_
  try go_frame
  refine nextH (i := 1) rfl (by kernel_rfl) (by kernel_rfl) (fun K' hK => ?_)
  go_wp2_with fail
  refine (rparts_any g _ H.out.b.1 H.out.b.2).mono ?_
  rintro en uc1 ⟨rfl, hb⟩
  have hS1 : Below u.heap.size u uc1 := bel_next hS hb
  refine hK.out _ _ ⟨hS1, ?_⟩
  clear hK K' hb hS
  refine takeH hS1 (i := 4) (d := 65) (v := .bool true) rfl rfl (by kernel_rfl) (by kernel_rfl) (by kernel_rfl) (fun _ _ _ h => h) (Or.inl ⟨by kernel_rfl, fun w' hw' => by exact exec_leq _ _ rfl (parI g) (g.s) rfl rfl true (K1.out) rfl⟩) ?_
  refine takeH hS1 (i := 5) (d := 66) (v := .bool true) rfl rfl (by kernel_rfl) (by kernel_rfl) (by kernel_rfl) (fun _ _ _ h => h) (Or.inl ⟨by kernel_rfl, fun w' hw' => by kernel_rfl⟩) ?_
  refine takeH hS1 (i := 6) (d := 67) (v := .pointer (some ⟨w.heap.size, 3, none⟩)) rfl rfl (by kernel_rfl) (by kernel_rfl) (by kernel_rfl) (fun _ _ _ h => h) (Or.inl ⟨by kernel_rfl, fun w' hw' => by kernel_rfl⟩) ?_
  refine takeH hS1 (i := 7) (d := 68) (v := .int .i64 (g.b)) rfl rfl (by kernel_rfl) (by kernel_rfl) (by kernel_rfl) (fun _ _ _ h => h) (Or.inl ⟨by kernel_rfl, fun w' hw' => by exact exec_cell _ rfl ⟨w.heap.size, 3, none⟩ rfl _ Try.underlying3 (((HF.out.below hw' HF.out.lt).cell 3).trans (geA_at3 g))⟩) ?_
  try go_frame
  refine takeH hS1 (i := 8) (d := 69) (v := .int .i64 ((2) * (g.b))) rfl rfl (by kernel_rfl) (by kernel_rfl) (by kernel_rfl) (fun _ _ _ h => h) (Or.inl ⟨by kernel_rfl, fun w' hw' => by exact exec_mul _ _ rfl (2) (g.b) ((2) * (g.b)) rfl rfl (rfl) (by omega)⟩) ?_
  refine takeH hS1 (i := 9) (d := 70) (v := .pointer (some ⟨w.heap.size, 2, none⟩)) rfl rfl (by kernel_rfl) (by kernel_rfl) (by kernel_rfl) (fun _ _ _ h => h) (Or.inl ⟨by kernel_rfl, fun w' hw' => by kernel_rfl⟩) ?_
  refine takeH hS1 (i := 10) (d := 71) (v := .int .i64 (g.s)) rfl rfl (by kernel_rfl) (by kernel_rfl) (by kernel_rfl) (fun _ _ _ h => h) (Or.inl ⟨by kernel_rfl, fun w' hw' => by exact exec_cell _ rfl ⟨w.heap.size, 2, none⟩ rfl _ Try.underlying3 (((HF.out.below hw' HF.out.lt).cell 2).trans (geA_at2 g))⟩) ?_
  refine takeH hS1 (i := 11) (d := 72) (v := .agg (geA g)) rfl rfl (by kernel_rfl) (by kernel_rfl) (by kernel_rfl) (fun _ _ _ h => h) (Or.inl ⟨by kernel_rfl, fun w' hw' => by exact exec_load _ rfl (w.heap.size) rfl (HF.out.below hw' HF.out.lt) Try.underlying25 rfl (info_grA g)⟩) ?_
  try go_frame
  refine nextH (i := 12) rfl (by kernel_rfl) (by kernel_rfl) (fun K' hK => ?_)
  go_wp2_with fail
  refine (rsegments_any g _ H.out).mono ?_
  rintro en uc2 ⟨rfl, hb⟩
  have hS2 : Below u.heap.size u uc2 := bel_next hS1 hb
  refine hK.out _ _ ⟨hS2, ?_⟩
  clear hK K' hb hS1
  refine takeH hS2 (i := 13) (d := 74) (v := .int .i64 ((g.s) * (segI g))) rfl rfl (by kernel_rfl) (by kernel_rfl) (by kernel_rfl) (fun _ _ _ h => h) (Or.inl ⟨by kernel_rfl, fun w' hw' => by exact exec_mul _ _ rfl (g.s) (segI g) ((g.s) * (segI g)) rfl rfl (rfl) (by omega)⟩) ?_
  refine takeH hS2 (i := 14) (d := 75) (v := .bool false) rfl rfl (by kernel_rfl) (by kernel_rfl) (by kernel_rfl) (fun _ _ _ h => h) (Or.inl ⟨by kernel_rfl, fun w' hw' => by exact exec_leq _ _ rfl ((2) * (g.b)) ((g.s) * (segI g)) rfl rfl false (K2.out) rfl⟩) ?_
  refine takeH hS2 (i := 15) (d := 76) (v := .bool false) rfl rfl (by kernel_rfl) (by kernel_rfl) (by kernel_rfl) (fun _ _ _ h => h) (Or.inl ⟨by kernel_rfl, fun w' hw' => by kernel_rfl⟩) ?_
  refine takeH hS2 (i := 16) (d := 2) (v := .bool false) rfl rfl (by kernel_rfl) (by kernel_rfl) (by kernel_rfl) (fun _ _ _ h => h) (Or.inl ⟨by kernel_rfl, fun w' hw' => by kernel_rfl⟩) ?_
  try go_frame
  refine wpAnyH_done (by kernel_rfl) ?_ _
  try go_frame
  have HB2 := Lib.hid (bthen HB.out hS2)
  clear hS2 HB HF
  go_wp2_with fail
  go_ret
  exact ⟨rfl, HB2.out⟩

set_option maxRecDepth 100000 in
set_option maxHeartbeats 2000000 in
theorem rright_t (g : GeR) (w : World) (hL : Lim g) (h1 : decide (parI g ≤ g.s) = true) (h2 : decide (2 * g.b ≤ g.s * segI g) = true) :
    Calls Try.prog 9 #[.agg (geA g)] w fun e w' => e = .returned (.bool true) ∧ Below w.heap.size w w' := by
  have hB := below_alloc w (Obj.cells (geA g) 25)
  have hF : Blk (w.alloc (Obj.cells (geA g) 25)) w.heap.size 25 (geA g) := Blk.new _ _ _
  have c0 := (hF.cell 0).trans (geA_at0 g)
  have c1 := (hF.cell 1).trans (geA_at1 g)
  have c2 := (hF.cell 2).trans (geA_at2 g)
  have c3 := (hF.cell 3).trans (geA_at3 g)
  have c4 := (hF.cell 4).trans (geA_at4 g)
  have c5 := (hF.cell 5).trans (geA_at5 g)
  have HB := Lib.hid hB
  have HF := Lib.hid hF
  clear hF hB
  obtain ⟨⟨x0, x1⟩, ⟨x2, x3⟩, ⟨x4, x5⟩, ⟨x6, x7⟩, ⟨x8, x9⟩, ⟨x10, x11⟩⟩ := hL
  have hL : Lim g := ⟨⟨x0, x1⟩, ⟨x2, x3⟩, ⟨x4, x5⟩, ⟨x6, x7⟩, ⟨x8, x9⟩, ⟨x10, x11⟩⟩
  obtain ⟨a0, a1⟩ := par_bd hL
  obtain ⟨a2, a3⟩ := seg_bd hL
  obtain ⟨a4, a5⟩ := sseg_bd hL
  have H := Lib.hid hL
  have K1 := Lib.hid h1
  have K2 := Lib.hid h2
  clear hL h1 h2
  go_enter Try.func9, Try.ntmps9
  go_upto_region 3 with fail
  clear c0 c1 c2 c3 c4 c5
  generalize w.alloc (Obj.cells (geA g) 25) = u at *
  refine wp_region_held (S := fun w' => Below u.heap.size u w') (by kernel_rfl) ?_
  change wpAnyH _ _ _ _ _ _ _ _ (World.drew _)
  have hS : Below u.heap.size u u.drew := (Below.refl _ _).drew
  refine takeH hS (i := 0) (d := 61) (v := .agg (geA g)) rfl rfl (by kernel_rfl) (by kernel_rfl) (by kernel_rfl) (fun _ _ _ h => h) (Or.inl ⟨by kernel_rfl, fun w' hw' => by exact exec_load _ rfl (w.heap.size) rfl (HF.out.below hw' HF.out.lt) Try.underlying25 rfl (info_grA g)⟩) ?_
  refine takeH hS (i := 2) (d := 63) (v := .pointer (some ⟨w.heap.size, 2, none⟩)) rfl rfl (by kernel_rfl) (by kernel_rfl) (by kernel_rfl) (fun _ _ _ h => h) (Or.inl ⟨by kernel_rfl, fun w' hw' => by kernel_rfl⟩) ?_
  refine takeH hS (i := 3) (d := 64) (v := .int .i64 (g.s)) rfl rfl (by kernel_rfl) (by kernel_rfl) (by kernel_rfl) (fun _ _ _ h => h) (Or.inl ⟨by kernel_rfl, fun w' hw' => by exact exec_cell _ rfl ⟨w.heap.size, 2, none⟩ rfl _ Try.underlying3 (((HF.out.below hw' HF.out.lt).cell 2).trans (geA_at2 g))⟩) ?_
  try go_frame
  refine nextH (i := 1) rfl (by kernel_rfl) (by kernel_rfl) (fun K' hK => ?_)
  go_wp2_with fail
  refine (rparts_any g _ H.out.b.1 H.out.b.2).mono ?_
  rintro en uc1 ⟨rfl, hb⟩
  have hS1 : Below u.heap.size u uc1 := bel_next hS hb
  refine hK.out _ _ ⟨hS1, ?_⟩
  clear hK K' hb hS
  refine takeH hS1 (i := 4) (d := 65) (v := .bool true) rfl rfl (by kernel_rfl) (by kernel_rfl) (by kernel_rfl) (fun _ _ _ h => h) (Or.inl ⟨by kernel_rfl, fun w' hw' => by exact exec_leq _ _ rfl (parI g) (g.s) rfl rfl true (K1.out) rfl⟩) ?_
  refine takeH hS1 (i := 5) (d := 66) (v := .bool true) rfl rfl (by kernel_rfl) (by kernel_rfl) (by kernel_rfl) (fun _ _ _ h => h) (Or.inl ⟨by kernel_rfl, fun w' hw' => by kernel_rfl⟩) ?_
  refine takeH hS1 (i := 6) (d := 67) (v := .pointer (some ⟨w.heap.size, 3, none⟩)) rfl rfl (by kernel_rfl) (by kernel_rfl) (by kernel_rfl) (fun _ _ _ h => h) (Or.inl ⟨by kernel_rfl, fun w' hw' => by kernel_rfl⟩) ?_
  refine takeH hS1 (i := 7) (d := 68) (v := .int .i64 (g.b)) rfl rfl (by kernel_rfl) (by kernel_rfl) (by kernel_rfl) (fun _ _ _ h => h) (Or.inl ⟨by kernel_rfl, fun w' hw' => by exact exec_cell _ rfl ⟨w.heap.size, 3, none⟩ rfl _ Try.underlying3 (((HF.out.below hw' HF.out.lt).cell 3).trans (geA_at3 g))⟩) ?_
  try go_frame
  refine takeH hS1 (i := 8) (d := 69) (v := .int .i64 ((2) * (g.b))) rfl rfl (by kernel_rfl) (by kernel_rfl) (by kernel_rfl) (fun _ _ _ h => h) (Or.inl ⟨by kernel_rfl, fun w' hw' => by exact exec_mul _ _ rfl (2) (g.b) ((2) * (g.b)) rfl rfl (rfl) (by omega)⟩) ?_
  refine takeH hS1 (i := 9) (d := 70) (v := .pointer (some ⟨w.heap.size, 2, none⟩)) rfl rfl (by kernel_rfl) (by kernel_rfl) (by kernel_rfl) (fun _ _ _ h => h) (Or.inl ⟨by kernel_rfl, fun w' hw' => by kernel_rfl⟩) ?_
  refine takeH hS1 (i := 10) (d := 71) (v := .int .i64 (g.s)) rfl rfl (by kernel_rfl) (by kernel_rfl) (by kernel_rfl) (fun _ _ _ h => h) (Or.inl ⟨by kernel_rfl, fun w' hw' => by exact exec_cell _ rfl ⟨w.heap.size, 2, none⟩ rfl _ Try.underlying3 (((HF.out.below hw' HF.out.lt).cell 2).trans (geA_at2 g))⟩) ?_
  refine takeH hS1 (i := 11) (d := 72) (v := .agg (geA g)) rfl rfl (by kernel_rfl) (by kernel_rfl) (by kernel_rfl) (fun _ _ _ h => h) (Or.inl ⟨by kernel_rfl, fun w' hw' => by exact exec_load _ rfl (w.heap.size) rfl (HF.out.below hw' HF.out.lt) Try.underlying25 rfl (info_grA g)⟩) ?_
  try go_frame
  refine nextH (i := 12) rfl (by kernel_rfl) (by kernel_rfl) (fun K' hK => ?_)
  go_wp2_with fail
  refine (rsegments_any g _ H.out).mono ?_
  rintro en uc2 ⟨rfl, hb⟩
  have hS2 : Below u.heap.size u uc2 := bel_next hS1 hb
  refine hK.out _ _ ⟨hS2, ?_⟩
  clear hK K' hb hS1
  refine takeH hS2 (i := 13) (d := 74) (v := .int .i64 ((g.s) * (segI g))) rfl rfl (by kernel_rfl) (by kernel_rfl) (by kernel_rfl) (fun _ _ _ h => h) (Or.inl ⟨by kernel_rfl, fun w' hw' => by exact exec_mul _ _ rfl (g.s) (segI g) ((g.s) * (segI g)) rfl rfl (rfl) (by omega)⟩) ?_
  refine takeH hS2 (i := 14) (d := 75) (v := .bool true) rfl rfl (by kernel_rfl) (by kernel_rfl) (by kernel_rfl) (fun _ _ _ h => h) (Or.inl ⟨by kernel_rfl, fun w' hw' => by exact exec_leq _ _ rfl ((2) * (g.b)) ((g.s) * (segI g)) rfl rfl true (K2.out) rfl⟩) ?_
  refine takeH hS2 (i := 15) (d := 76) (v := .bool true) rfl rfl (by kernel_rfl) (by kernel_rfl) (by kernel_rfl) (fun _ _ _ h => h) (Or.inl ⟨by kernel_rfl, fun w' hw' => by kernel_rfl⟩) ?_
  refine takeH hS2 (i := 16) (d := 2) (v := .bool true) rfl rfl (by kernel_rfl) (by kernel_rfl) (by kernel_rfl) (fun _ _ _ h => h) (Or.inl ⟨by kernel_rfl, fun w' hw' => by kernel_rfl⟩) ?_
  try go_frame
  refine wpAnyH_done (by kernel_rfl) ?_ _
  try go_frame
  have HB2 := Lib.hid (bthen HB.out hS2)
  clear hS2 HB HF
  go_wp2_with fail
  go_ret
  exact ⟨rfl, HB2.out⟩

theorem rright_any (g : GeR) (w : World) :
    Calls Try.prog 9 #[.agg (geA g)] w fun e w' => e = .returned (.bool (gB g)) ∧ Below w.heap.size w w' := by
  unfold gB
  cases hl : limB g with
  | false => exact rright_l g w hl
  | true =>
    have hL := (lim_iff g).1 hl
    cases h1 : decide (parI g ≤ g.s) with
    | false => exact rright_p g w hL h1
    | true =>
      cases h2 : decide (2 * g.b ≤ g.s * segI g) with
      | false => exact rright_s g w hL h1 h2
      | true => exact rright_t g w hL h1 h2

end Go.Proofs.Ytkjjhcpfblhijaa
