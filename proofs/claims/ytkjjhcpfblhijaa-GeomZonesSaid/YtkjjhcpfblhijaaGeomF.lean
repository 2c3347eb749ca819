/-
  Contracts of layer 5 (geom): Domain, Holds.
-/
import Derived.Test.YtkjjhcpfblhijaaGeomD
namespace Go.Proofs.Ytkjjhcpfblhijaa
open Go.RowKit
set_option linter.unusedVariables false
set_option linter.unnecessarySimpa false
set_option linter.unusedSimpArgs false

/-- A zone's domain. -/
def domI (g : GeR) (x : Int) : Int := if 0 ≤ x ∧ x / g.z < g.d then x / g.z else -1
/-- Is there such a sector? -/
def holB (g : GeR) (x f : Int) : Bool := gB g && decide (0 ≤ x ∧ x / g.z < g.d) && wB f 0 (g.s - 1)

set_option maxRecDepth 100000 in
set_option maxHeartbeats 2000000 in
theorem domain_n (g : GeR) (x : Int) (w : World) (h : Lim g) (hx : x ≤ 9223372036854775807) (h0 : x < 0) :
    Calls Try.prog 20 #[.agg (geA g), .int .i64 x] w fun e w' => e = .returned (.int .i64 (-1)) ∧ Below w.heap.size w w' := by
  have hB := below_alloc w (Obj.cells (geA g) 23)
  have hF : Blk (w.alloc (Obj.cells (geA g) 23)) w.heap.size 23 (geA g) := Blk.new _ _ _
  have HB := Lib.hid hB
  have HF := Lib.hid hF
  clear hF hB
  obtain ⟨x2, x3⟩ := h.z
  obtain ⟨x0, x1⟩ := h.d
  clear h
  go_enter Try.func20, Try.ntmps20
  go_upto_region 1 with fail
  generalize w.alloc (Obj.cells (geA g) 23) = u at *
  refine wp_region_held (S := fun w' => Below u.heap.size u w') (by kernel_rfl) ?_
  change wpAnyH _ _ _ _ _ _ _ _ (World.drew _)
  have hS : Below u.heap.size u u.drew := (Below.refl _ _).drew
  refine takeH hS (i := 0) (d := 5) (v := .int .i64 (x)) rfl rfl (by kernel_rfl) (by kernel_rfl) (by kernel_rfl) (fun _ _ _ h => h) (Or.inl ⟨by kernel_rfl, fun w' hw' => by kernel_rfl⟩) ?_
  refine takeH hS (i := 1) (d := 6) (v := .bool true) rfl rfl (by kernel_rfl) (by kernel_rfl) (by kernel_rfl) (fun _ _ _ h => h) (Or.inl ⟨by kernel_rfl, fun w' hw' => by exact exec_lss _ _ rfl (x) (0) rfl rfl true (decide_eq_true h0) rfl⟩) ?_
  refine takeH hS (i := 2) (d := 7) (v := .bool true) rfl rfl (by kernel_rfl) (by kernel_rfl) (by kernel_rfl) (fun _ _ _ h => h) (Or.inl ⟨by kernel_rfl, fun w' hw' => by kernel_rfl⟩) ?_
  refine takeH hS (i := 3) (d := 8) (v := undef) rfl rfl (by kernel_rfl) (by kernel_rfl) (by kernel_rfl) (fun _ _ _ h => h) (Or.inr ⟨by kernel_rfl, rfl⟩) ?_
  try go_frame
  refine takeH hS (i := 4) (d := 9) (v := undef) rfl rfl (by kernel_rfl) (by kernel_rfl) (by kernel_rfl) (fun _ _ _ h => h) (Or.inr ⟨by kernel_rfl, rfl⟩) ?_
  refine takeH hS (i := 5) (d := 10) (v := undef) rfl rfl (by kernel_rfl) (by kernel_rfl) (by kernel_rfl) (fun _ _ _ h => h) (Or.inr ⟨by kernel_rfl, rfl⟩) ?_
  refine takeH hS (i := 6) (d := 11) (v := .bool true) rfl rfl (by kernel_rfl) (by kernel_rfl) (by kernel_rfl) (fun _ _ _ h => h) (Or.inl ⟨by kernel_rfl, fun w' hw' => by kernel_rfl⟩) ?_
  refine takeH hS (i := 7) (d := 12) (v := .bool true) rfl rfl (by kernel_rfl) (by kernel_rfl) (by kernel_rfl) (fun _ _ _ h => h) (Or.inl ⟨by kernel_rfl, fun w' hw' => by kernel_rfl⟩) ?_
  try go_frame
  refine takeH hS (i := 8) (d := 13) (v := undef) rfl rfl (by kernel_rfl) (by kernel_rfl) (by kernel_rfl) (fun _ _ _ h => h) (Or.inr ⟨by kernel_rfl, rfl⟩) ?_
  refine takeH hS (i := 9) (d := 14) (v := undef) rfl rfl (by kernel_rfl) (by kernel_rfl) (by kernel_rfl) (fun _ _ _ h => h) (Or.inr ⟨by kernel_rfl, rfl⟩) ?_
  refine takeH hS (i := 10) (d := 15) (v := undef) rfl rfl (by kernel_rfl) (by kernel_rfl) (by kernel_rfl) (fun _ _ _ h => h) (Or.inr ⟨by kernel_rfl, rfl⟩) ?_
  refine takeH hS (i := 11) (d := 16) (v := undef) rfl rfl (by kernel_rfl) (by kernel_rfl) (by kernel_rfl) (fun _ _ _ h => h) (Or.inr ⟨by kernel_rfl, rfl⟩) ?_
  try go_frame
  refine takeH hS (i := 12) (d := 17) (v := undef) rfl rfl (by kernel_rfl) (by kernel_rfl) (by kernel_rfl) (fun _ _ _ h => h) (Or.inr ⟨by kernel_rfl, rfl⟩) ?_
  refine takeH hS (i := 13) (d := 18) (v := undef) rfl rfl (by kernel_rfl) (by kernel_rfl) (by kernel_rfl) (fun _ _ _ h => h) (Or.inr ⟨by kernel_rfl, rfl⟩) ?_
  refine takeH hS (i := 14) (d := 19) (v := undef) rfl rfl (by kernel_rfl) (by kernel_rfl) (by kernel_rfl) (fun _ _ _ h => h) (Or.inr ⟨by kernel_rfl, rfl⟩) ?_
  refine takeH hS (i := 15) (d := 20) (v := .bool true) rfl rfl (by kernel_rfl) (by kernel_rfl) (by kernel_rfl) (fun _ _ _ h => h) (Or.inl ⟨by kernel_rfl, fun w' hw' => by kernel_rfl⟩) ?_
  try go_frame
  refine wpAnyH_done (by kernel_rfl) ?_ _
  try go_frame
  have c1 := ((HF.out.below hS HF.out.lt).cell 1).trans (geA_at1 g)
  have HB2 := Lib.hid (bthen HB.out hS)
  clear hS HB HF
  go_wp2_with fail
  go_ret
  exact ⟨rfl, HB2.out⟩

set_option maxRecDepth 100000 in
set_option maxHeartbeats 2000000 in
theorem domain_o (g : GeR) (x : Int) (w : World) (h : Lim g) (hx : x ≤ 9223372036854775807) (h0 : 0 ≤ x) (h1 : g.d ≤ x / g.z) :
    Calls Try.prog 20 #[.agg (geA g), .int .i64 x] w fun e w' => e = .returned (.int .i64 (-1)) ∧ Below w.heap.size w w' := by
  have hB := below_alloc w (Obj.cells (geA g) 23)
  have hF : Blk (w.alloc (Obj.cells (geA g) 23)) w.heap.size 23 (geA g) := Blk.new _ _ _
  have HB := Lib.hid hB
  have HF := Lib.hid hF
  clear hF hB
  obtain ⟨x2, x3⟩ := h.z
  obtain ⟨x0, x1⟩ := h.d
  have K1 := Lib.hid h1
  clear h1
  clear h
  go_enter Try.func20, Try.ntmps20
  go_upto_region 1 with fail
  generalize w.alloc (Obj.cells (geA g) 23) = u at *
  refine wp_region_held (S := fun w' => Below u.heap.size u w') (by kernel_rfl) ?_
  change wpAnyH _ _ _ _ _ _ _ _ (World.drew _)
  have hS : Below u.heap.size u u.drew := (Below.refl _ _).drew
  refine takeH hS (i := 0) (d := 5) (v := .int .i64 (x)) rfl rfl (by kernel_rfl) (by kernel_rfl) (by kernel_rfl) (fun _ _ _ h => h) (Or.inl ⟨by kernel_rfl, fun w' hw' => by kernel_rfl⟩) ?_
  refine takeH hS (i := 1) (d := 6) (v := .bool false) rfl rfl (by kernel_rfl) (by kernel_rfl) (by kernel_rfl) (fun _ _ _ h => h) (Or.inl ⟨by kernel_rfl, fun w' hw' => by exact exec_lss _ _ rfl (x) (0) rfl rfl false (decide_eq_false (by omega)) rfl⟩) ?_
  refine takeH hS (i := 2) (d := 7) (v := .bool false) rfl rfl (by kernel_rfl) (by kernel_rfl) (by kernel_rfl) (fun _ _ _ h => h) (Or.inl ⟨by kernel_rfl, fun w' hw' => by kernel_rfl⟩) ?_
  refine takeH hS (i := 3) (d := 8) (v := .pointer (some ⟨w.heap.size, 1, none⟩)) rfl rfl (by kernel_rfl) (by kernel_rfl) (by kernel_rfl) (fun _ _ _ h => h) (Or.inl ⟨by kernel_rfl, fun w' hw' => by kernel_rfl⟩) ?_
  try go_frame
  refine takeH hS (i := 4) (d := 9) (v := .int .i64 (g.z)) rfl rfl (by kernel_rfl) (by kernel_rfl) (by kernel_rfl) (fun _ _ _ h => h) (Or.inl ⟨by kernel_rfl, fun w' hw' => by exact exec_cell _ rfl ⟨w.heap.size, 1, none⟩ rfl _ Try.underlying3 (((HF.out.below hw' HF.out.lt).cell 1).trans (geA_at1 g))⟩) ?_
  refine takeH hS (i := 5) (d := 10) (v := .bool false) rfl rfl (by kernel_rfl) (by kernel_rfl) (by kernel_rfl) (fun _ _ _ h => h) (Or.inl ⟨by kernel_rfl, fun w' hw' => by exact exec_lss _ _ rfl (g.z) (1) rfl rfl false (decide_eq_false (by omega)) rfl⟩) ?_
  refine takeH hS (i := 6) (d := 11) (v := .bool false) rfl rfl (by kernel_rfl) (by kernel_rfl) (by kernel_rfl) (fun _ _ _ h => h) (Or.inl ⟨by kernel_rfl, fun w' hw' => by kernel_rfl⟩) ?_
  refine takeH hS (i := 7) (d := 12) (v := .bool false) rfl rfl (by kernel_rfl) (by kernel_rfl) (by kernel_rfl) (fun _ _ _ h => h) (Or.inl ⟨by kernel_rfl, fun w' hw' => by kernel_rfl⟩) ?_
  try go_frame
  refine takeH hS (i := 8) (d := 13) (v := .int .i64 (x)) rfl rfl (by kernel_rfl) (by kernel_rfl) (by kernel_rfl) (fun _ _ _ h => h) (Or.inl ⟨by kernel_rfl, fun w' hw' => by kernel_rfl⟩) ?_
  refine takeH hS (i := 9) (d := 14) (v := .pointer (some ⟨w.heap.size, 1, none⟩)) rfl rfl (by kernel_rfl) (by kernel_rfl) (by kernel_rfl) (fun _ _ _ h => h) (Or.inl ⟨by kernel_rfl, fun w' hw' => by kernel_rfl⟩) ?_
  refine takeH hS (i := 10) (d := 15) (v := .int .i64 (g.z)) rfl rfl (by kernel_rfl) (by kernel_rfl) (by kernel_rfl) (fun _ _ _ h => h) (Or.inl ⟨by kernel_rfl, fun w' hw' => by exact exec_cell _ rfl ⟨w.heap.size, 1, none⟩ rfl _ Try.underlying3 (((HF.out.below hw' HF.out.lt).cell 1).trans (geA_at1 g))⟩) ?_
  refine takeH hS (i := 11) (d := 16) (v := .int .i64 (x / g.z)) rfl rfl (by kernel_rfl) (by kernel_rfl) (by kernel_rfl) (fun _ _ _ h => h) (Or.inl ⟨by kernel_rfl, fun w' hw' => by exact exec_quo _ _ rfl (x) (g.z) (x / g.z) rfl rfl (by omega) (by omega) (rfl)⟩) ?_
  try go_frame
  refine takeH hS (i := 12) (d := 17) (v := .pointer (some ⟨w.heap.size, 0, none⟩)) rfl rfl (by kernel_rfl) (by kernel_rfl) (by kernel_rfl) (fun _ _ _ h => h) (Or.inl ⟨by kernel_rfl, fun w' hw' => by kernel_rfl⟩) ?_
  refine takeH hS (i := 13) (d := 18) (v := .int .i64 (g.d)) rfl rfl (by kernel_rfl) (by kernel_rfl) (by kernel_rfl) (fun _ _ _ h => h) (Or.inl ⟨by kernel_rfl, fun w' hw' => by exact exec_cell _ rfl ⟨w.heap.size, 0, none⟩ rfl _ Try.underlying3 (((HF.out.below hw' HF.out.lt).cell 0).trans (geA_at0 g))⟩) ?_
  refine takeH hS (i := 14) (d := 19) (v := .bool true) rfl rfl (by kernel_rfl) (by kernel_rfl) (by kernel_rfl) (fun _ _ _ h => h) (Or.inl ⟨by kernel_rfl, fun w' hw' => by exact exec_geq _ _ rfl (x / g.z) (g.d) rfl rfl true (decide_eq_true K1.out) rfl⟩) ?_
  refine takeH hS (i := 15) (d := 20) (v := .bool true) rfl rfl (by kernel_rfl) (by kernel_rfl) (by kernel_rfl) (fun _ _ _ h => h) (Or.inl ⟨by kernel_rfl, fun w' hw' => by kernel_rfl⟩) ?_
  try go_frame
  refine wpAnyH_done (by kernel_rfl) ?_ _
  try go_frame
  have c1 := ((HF.out.below hS HF.out.lt).cell 1).trans (geA_at1 g)
  have HB2 := Lib.hid (bthen HB.out hS)
  clear hS HB HF
  go_wp2_with fail
  go_ret
  exact ⟨rfl, HB2.out⟩

set_option maxRecDepth 100000 in
set_option maxHeartbeats 2000000 in
theorem domain_i (g : GeR) (x : Int) (w : World) (h : Lim g) (hx : x ≤ 9223372036854775807) (h0 : 0 ≤ x) (h1 : x / g.z < g.d) :
    Calls Try.prog 20 #[.agg (geA g), .int .i64 x] w fun e w' => e = .returned (.int .i64 (x / g.z)) ∧ Below w.heap.size w w' := by
  have hB := below_alloc w (Obj.cells (geA g) 23)
  have hF : Blk (w.alloc (Obj.cells (geA g) 23)) w.heap.size 23 (geA g) := Blk.new _ _ _
  have HB := Lib.hid hB
  have HF := Lib.hid hF
  clear hF hB
  obtain ⟨x2, x3⟩ := h.z
  obtain ⟨x0, x1⟩ := h.d
  have K1 := Lib.hid h1
  clear h1
  clear h
  go_enter Try.func20, Try.ntmps20
  go_upto_region 1 with fail
  generalize w.alloc (Obj.cells (geA g) 23) = u at *
  refine wp_region_held (S := fun w' => Below u.heap.size u w') (by kernel_rfl) ?_
  change wpAnyH _ _ _ _ _ _ _ _ (World.drew _)
  have hS : Below u.heap.size u u.drew := (Below.refl _ _).drew
  refine takeH hS (i := 0) (d := 5) (v := .int .i64 (x)) rfl rfl (by kernel_rfl) (by kernel_rfl) (by kernel_rfl) (fun _ _ _ h => h) (Or.inl ⟨by kernel_rfl, fun w' hw' => by kernel_rfl⟩) ?_
  refine takeH hS (i := 1) (d := 6) (v := .bool false) rfl rfl (by kernel_rfl) (by kernel_rfl) (by kernel_rfl) (fun _ _ _ h => h) (Or.inl ⟨by kernel_rfl, fun w' hw' => by exact exec_lss _ _ rfl (x) (0) rfl rfl false (decide_eq_false (by omega)) rfl⟩) ?_
  refine takeH hS (i := 2) (d := 7) (v := .bool false) rfl rfl (by kernel_rfl) (by kernel_rfl) (by kernel_rfl) (fun _ _ _ h => h) (Or.inl ⟨by kernel_rfl, fun w' hw' => by kernel_rfl⟩) ?_
  refine takeH hS (i := 3) (d := 8) (v := .pointer (some ⟨w.heap.size, 1, none⟩)) rfl rfl (by kernel_rfl) (by kernel_rfl) (by kernel_rfl) (fun _ _ _ h => h) (Or.inl ⟨by kernel_rfl, fun w' hw' => by kernel_rfl⟩) ?_
  try go_frame
  refine takeH hS (i := 4) (d := 9) (v := .int .i64 (g.z)) rfl rfl (by kernel_rfl) (by kernel_rfl) (by kernel_rfl) (fun _ _ _ h => h) (Or.inl ⟨by kernel_rfl, fun w' hw' => by exact exec_cell _ rfl ⟨w.heap.size, 1, none⟩ rfl _ Try.underlying3 (((HF.out.below hw' HF.out.lt).cell 1).trans (geA_at1 g))⟩) ?_
  refine takeH hS (i := 5) (d := 10) (v := .bool false) rfl rfl (by kernel_rfl) (by kernel_rfl) (by kernel_rfl) (fun _ _ _ h => h) (Or.inl ⟨by kernel_rfl, fun w' hw' => by exact exec_lss _ _ rfl (g.z) (1) rfl rfl false (decide_eq_false (by omega)) rfl⟩) ?_
  refine takeH hS (i := 6) (d := 11) (v := .bool false) rfl rfl (by kernel_rfl) (by kernel_rfl) (by kernel_rfl) (fun _ _ _ h => h) (Or.inl ⟨by kernel_rfl, fun w' hw' => by kernel_rfl⟩) ?_
  refine takeH hS (i := 7) (d := 12) (v := .bool false) rfl rfl (by kernel_rfl) (by kernel_rfl) (by kernel_rfl) (fun _ _ _ h => h) (Or.inl ⟨by kernel_rfl, fun w' hw' => by kernel_rfl⟩) ?_
  try go_frame
  refine takeH hS (i := 8) (d := 13) (v := .int .i64 (x)) rfl rfl (by kernel_rfl) (by kernel_rfl) (by kernel_rfl) (fun _ _ _ h => h) (Or.inl ⟨by kernel_rfl, fun w' hw' => by kernel_rfl⟩) ?_
  refine takeH hS (i := 9) (d := 14) (v := .pointer (some ⟨w.heap.size, 1, none⟩)) rfl rfl (by kernel_rfl) (by kernel_rfl) (by kernel_rfl) (fun _ _ _ h => h) (Or.inl ⟨by kernel_rfl, fun w' hw' => by kernel_rfl⟩) ?_
  refine takeH hS (i := 10) (d := 15) (v := .int .i64 (g.z)) rfl rfl (by kernel_rfl) (by kernel_rfl) (by kernel_rfl) (fun _ _ _ h => h) (Or.inl ⟨by kernel_rfl, fun w' hw' => by exact exec_cell _ rfl ⟨w.heap.size, 1, none⟩ rfl _ Try.underlying3 (((HF.out.below hw' HF.out.lt).cell 1).trans (geA_at1 g))⟩) ?_
  refine takeH hS (i := 11) (d := 16) (v := .int .i64 (x / g.z)) rfl rfl (by kernel_rfl) (by kernel_rfl) (by kernel_rfl) (fun _ _ _ h => h) (Or.inl ⟨by kernel_rfl, fun w' hw' => by exact exec_quo _ _ rfl (x) (g.z) (x / g.z) rfl rfl (by omega) (by omega) (rfl)⟩) ?_
  try go_frame
  refine takeH hS (i := 12) (d := 17) (v := .pointer (some ⟨w.heap.size, 0, none⟩)) rfl rfl (by kernel_rfl) (by kernel_rfl) (by kernel_rfl) (fun _ _ _ h => h) (Or.inl ⟨by kernel_rfl, fun w' hw' => by kernel_rfl⟩) ?_
  refine takeH hS (i := 13) (d := 18) (v := .int .i64 (g.d)) rfl rfl (by kernel_rfl) (by kernel_rfl) (by kernel_rfl) (fun _ _ _ h => h) (Or.inl ⟨by kernel_rfl, fun w' hw' => by exact exec_cell _ rfl ⟨w.heap.size, 0, none⟩ rfl _ Try.underlying3 (((HF.out.below hw' HF.out.lt).cell 0).trans (geA_at0 g))⟩) ?_
  refine takeH hS (i := 14) (d := 19) (v := .bool false) rfl rfl (by kernel_rfl) (by kernel_rfl) (by kernel_rfl) (fun _ _ _ h => h) (Or.inl ⟨by kernel_rfl, fun w' hw' => by exact exec_geq _ _ rfl (x / g.z) (g.d) rfl rfl false (decide_eq_false (by have := K1.out; omega)) rfl⟩) ?_
  refine takeH hS (i := 15) (d := 20) (v := .bool false) rfl rfl (by kernel_rfl) (by kernel_rfl) (by kernel_rfl) (fun _ _ _ h => h) (Or.inl ⟨by kernel_rfl, fun w' hw' => by kernel_rfl⟩) ?_
  try go_frame
  refine wpAnyH_done (by kernel_rfl) ?_ _
  try go_frame
  have c1 := ((HF.out.below hS HF.out.lt).cell 1).trans (geA_at1 g)
  have HB2 := Lib.hid (bthen HB.out hS)
  clear hS HB HF
  go_wp2_with fail
  go_ret
  exact ⟨rfl, HB2.out⟩

theorem domain_any (g : GeR) (x : Int) (w : World) (h : Lim g) (hx : x ≤ 9223372036854775807) :
    Calls Try.prog 20 #[.agg (geA g), .int .i64 x] w fun e w' => e = .returned (.int .i64 (domI g x)) ∧ Below w.heap.size w w' := by
  unfold domI
  by_cases h0 : 0 ≤ x
  · by_cases h1 : x / g.z < g.d
    · rw [if_pos ⟨h0, h1⟩]; exact domain_i g x w h hx h0 h1
    · rw [if_neg (fun c => h1 c.2)]; exact domain_o g x w h hx h0 (by omega)
  · rw [if_neg (fun c => h0 c.1)]; exact domain_n g x w h hx (by omega)

set_option maxRecDepth 100000 in
set_option maxHeartbeats 2000000 in
theorem holds_n (g : GeR) (x f : Int) (w : World) (hx : x ≤ 9223372036854775807) (hr : gB g = false) :
    Calls Try.prog 18 #[.agg (geA g), .int .i64 x, .int .i64 f] w fun e w' => e = .returned (.bool (false)) ∧ Below w.heap.size w w' := by
  have hB := below_alloc w (Obj.cells (geA g) 23)
  have hF : Blk (w.alloc (Obj.cells (geA g) 23)) w.heap.size 23 (geA g) := Blk.new _ _ _
  have HB := Lib.hid hB
  have HF := Lib.hid hF
  clear hF hB
  have Hr := Lib.hid hr
  clear hr
  go_enter Try.func18, Try.ntmps18
  go_wp2_with (first | (refine wpl_load_g (by rfl) _ rfl (w.heap.size) rfl _ _ _ HF.out Try.underlying23 rfl (info_geA g) ?_; go_frame))
  refine (right_any g _).mono ?_
  rintro e w1 ⟨rfl, hb1⟩
  rw [Hr.out]
  have HF1 := Lib.hid (HF.out.below hb1 HF.out.lt)
  have HB1 := Lib.hid (bthen HB.out hb1)
  clear HF HB hb1
  go_wp2_with fail
  go_ret
  exact ⟨rfl, HB1.out⟩

set_option maxRecDepth 100000 in
set_option maxHeartbeats 2000000 in
theorem holds_o (g : GeR) (x f : Int) (w : World) (hx : x ≤ 9223372036854775807) (hr : gB g = true) (h0 : ¬ (0 ≤ x ∧ x / g.z < g.d)) :
    Calls Try.prog 18 #[.agg (geA g), .int .i64 x, .int .i64 f] w fun e w' => e = .returned (.bool (false)) ∧ Below w.heap.size w w' := by
  have hB := below_alloc w (Obj.cells (geA g) 23)
  have hF : Blk (w.alloc (Obj.cells (geA g) 23)) w.heap.size 23 (geA g) := Blk.new _ _ _
  have c2 := (hF.cell 2).trans (geA_at2 g)
  have HB := Lib.hid hB
  have HF := Lib.hid hF
  clear hF hB
  clear c2
  have Hr := Lib.hid hr
  have H := Lib.hid (gB_lim hr)
  obtain ⟨x4, x5⟩ := H.out.s
  have hd : domI g x = -1 := by unfold domI; rw [if_neg h0]
  have Hd := Lib.hid hd
  clear hr hd h0
  go_enter Try.func18, Try.ntmps18
  go_wp2_with (first | (refine wpl_load_g (by rfl) _ rfl (w.heap.size) rfl _ _ _ HF.out Try.underlying23 rfl (info_geA g) ?_; go_frame))
  refine (right_any g _).mono ?_
  rintro e w1 ⟨rfl, hb1⟩
  rw [Hr.out]
  have HF1 := Lib.hid (HF.out.below hb1 HF.out.lt)
  have HB1 := Lib.hid (bthen HB.out hb1)
  clear HF HB hb1
  go_wp2_with (first | (refine wpl_load_g (by rfl) _ rfl (w.heap.size) rfl _ _ _ HF1.out Try.underlying23 rfl (info_geA g) ?_; go_frame))
  refine (domain_any g x _ H.out hx).mono ?_
  rintro e w2 ⟨rfl, hb2⟩
  rw [Hd.out]
  have c2 := ((HF1.out.below hb2 HF1.out.lt).cell 2).trans (geA_at2 g)
  have HB2 := Lib.hid (bthen HB1.out hb2)
  clear HF1 HB1 hb2
  go_wp2_with (first | (go_at_call 25; refine (gwithin_any _ _ _ _).mono ?_; rintro e' w' ⟨rfl, rfl⟩))
  all_goals (go_ret; exact ⟨ret_bool (by first | rfl | simp_all), HB2.out⟩)

set_option maxRecDepth 100000 in
set_option maxHeartbeats 2000000 in
theorem holds_i (g : GeR) (x f : Int) (w : World) (hx : x ≤ 9223372036854775807) (hr : gB g = true) (h0 : 0 ≤ x ∧ x / g.z < g.d) :
    Calls Try.prog 18 #[.agg (geA g), .int .i64 x, .int .i64 f] w fun e w' => e = .returned (.bool (wB f 0 (g.s - 1))) ∧ Below w.heap.size w w' := by
  have hB := below_alloc w (Obj.cells (geA g) 23)
  have hF : Blk (w.alloc (Obj.cells (geA g) 23)) w.heap.size 23 (geA g) := Blk.new _ _ _
  have c2 := (hF.cell 2).trans (geA_at2 g)
  have HB := Lib.hid hB
  have HF := Lib.hid hF
  clear hF hB
  clear c2
  have Hr := Lib.hid hr
  have H := Lib.hid (gB_lim hr)
  obtain ⟨x4, x5⟩ := H.out.s
  have hd : domI g x = x / g.z := by unfold domI; rw [if_pos h0]
  have Hd := Lib.hid hd
  have x6 : 0 ≤ x / g.z := Int.ediv_nonneg h0.1 (by have := H.out.z; omega)
  have x7 : ¬ x / g.z = -1 := by omega
  clear hr hd h0
  go_enter Try.func18, Try.ntmps18
  go_wp2_with (first | (refine wpl_load_g (by rfl) _ rfl (w.heap.size) rfl _ _ _ HF.out Try.underlying23 rfl (info_geA g) ?_; go_frame))
  refine (right_any g _).mono ?_
  rintro e w1 ⟨rfl, hb1⟩
  rw [Hr.out]
  have HF1 := Lib.hid (HF.out.below hb1 HF.out.lt)
  have HB1 := Lib.hid (bthen HB.out hb1)
  clear HF HB hb1
  go_wp2_with (first | (refine wpl_load_g (by rfl) _ rfl (w.heap.size) rfl _ _ _ HF1.out Try.underlying23 rfl (info_geA g) ?_; go_frame))
  refine (domain_any g x _ H.out hx).mono ?_
  rintro e w2 ⟨rfl, hb2⟩
  rw [Hd.out]
  have c2 := ((HF1.out.below hb2 HF1.out.lt).cell 2).trans (geA_at2 g)
  have HB2 := Lib.hid (bthen HB1.out hb2)
  clear HF1 HB1 hb2
  go_wp2_with (first | (go_at_call 25; refine (gwithin_any _ _ _ _).mono ?_; rintro e' w' ⟨rfl, rfl⟩))
  all_goals (go_ret; exact ⟨ret_bool (by first | rfl | simp_all), HB2.out⟩)

theorem holds_any (g : GeR) (x f : Int) (w : World) (hx : x ≤ 9223372036854775807) :
    Calls Try.prog 18 #[.agg (geA g), .int .i64 x, .int .i64 f] w fun e w' => e = .returned (.bool (holB g x f)) ∧ Below w.heap.size w w' := by
  unfold holB
  cases hr : gB g with
  | false => exact holds_n g x f w hx hr
  | true =>
    by_cases h0 : 0 ≤ x ∧ x / g.z < g.d
    · rw [decide_eq_true h0]; exact holds_i g x f w hx hr h0
    · rw [decide_eq_false h0]; exact holds_o g x f w hx hr h0

end Go.Proofs.Ytkjjhcpfblhijaa
