/-
  The walk of GeomMore.
-/
import Derived.Test.YtkjjhcpfblhijaaGeomH
namespace Go.Proofs.Ytkjjhcpfblhijaa
open Go.RowKit Go.Shelf
set_option linter.unusedVariables false
set_option linter.unnecessarySimpa false
set_option linter.unusedSimpArgs false

theorem more_math {g : GeR} {z b : Int} (h : gB g = true) (hz1 : g.z ≤ z) (hz2 : z ≤ 64) (hb1 : 1 ≤ b) (hb2 : b ≤ g.b) : gB { g with z := z, b := b } = true := by
  obtain ⟨hL, h1, h2⟩ := (gB_iff g).1 h
  obtain ⟨hd, hz, hs, hb, hp, ho⟩ := hL
  refine (gB_iff _).2 ⟨⟨hd, ⟨by show 1 ≤ z; omega, hz2⟩, hs, ⟨hb1, by show b ≤ 256; omega⟩, hp, ho⟩, ?_, ?_⟩
  · unfold parI at *; show 1 + b / 2 + b % 2 ≤ g.s; omega
  · have m1 := Int.mul_le_mul_of_nonneg_left (show z - g.p - 2 ≥ g.z - g.p - 2 by omega) (show (0 : Int) ≤ g.d by omega)
    have m2 := Int.mul_le_mul_of_nonneg_left (show z - g.p - 2 ≥ g.z - g.p - 2 by omega) (show (0 : Int) ≤ g.d - 1 by omega)
    have hu : useI g ≤ useI { g with z := z, b := b } := by
      unfold useI us1 us2 resI faiI safI
      show (if g.d * (g.z - g.p - 2) - 2 * (g.d * g.p + 4) + 1 < (g.d - 1) * (g.z - g.p - 2) - (g.d * g.p + 4) + 1 then g.d * (g.z - g.p - 2) - 2 * (g.d * g.p + 4) + 1 else (g.d - 1) * (g.z - g.p - 2) - (g.d * g.p + 4) + 1) ≤
        (if g.d * (z - g.p - 2) - 2 * (g.d * g.p + 4) + 1 < (g.d - 1) * (z - g.p - 2) - (g.d * g.p + 4) + 1 then g.d * (z - g.p - 2) - 2 * (g.d * g.p + 4) + 1 else (g.d - 1) * (z - g.p - 2) - (g.d * g.p + 4) + 1)
      split <;> split <;> omega
    have hseg : segI g ≤ segI { g with z := z, b := b } := by
      unfold segI
      show useI g / 2 - 1 - faiI g ≤ useI { g with z := z, b := b } / 2 - 1 - faiI g
      omega
    have m3 := Int.mul_le_mul_of_nonneg_left hseg (show (0 : Int) ≤ g.s by omega)
    show 2 * b ≤ g.s * segI { g with z := z, b := b }
    omega

set_option maxRecDepth 100000 in
set_option maxHeartbeats 2000000 in
theorem walkMore_n (g : GeR) (z b : Int) (w : World) (hr : gB g = false) :
    Calls Try.prog 5 #[.agg (geA g), .int .i64 z, .int .i64 b] w fun e w' => e = .returned (.bool true) ∧ Below w.heap.size w w' := by
  have Hr := Lib.hid hr
  clear hr
  have HF := Lib.hid (Blk.new w 23 (geA g))
  have HB := Lib.hid (below_alloc w (Obj.cells (geA g) 23))
  go_enter Try.func5, Try.ntmps5
  go_wp2_with fail
  refine (anchor5_any _).mono ?_
  rintro e w1 ⟨rfl, hb1⟩
  have HF1 := Lib.hid (HF.out.below hb1 HF.out.lt)
  have HB1 := Lib.hid (bthen HB.out hb1)
  clear HF HB hb1
  go_wp2_with (first | (refine wpl_load_g (by rfl) _ rfl (w.heap.size) rfl _ _ _ HF1.out Try.underlying23 rfl (info_geA g) ?_; go_frame))
  refine (right_any g _).mono ?_
  rintro e w2 ⟨rfl, hb⟩
  rw [Hr.out]
  have HF2 := Lib.hid (HF1.out.below hb HF1.out.lt)
  have HB2 := Lib.hid (bthen HB1.out hb)
  clear hb HB1 HF1
  go_wp2_with fail
  go_ret
  exact ⟨rfl, HB2.out⟩

set_option maxRecDepth 100000 in
set_option maxHeartbeats 2000000 in
theorem walkMore_t (g : GeR) (z b : Int) (w : World) (hr : gB g = true) :
    Calls Try.prog 5 #[.agg (geA g), .int .i64 z, .int .i64 b] w fun e w' => e = .returned (.bool true) ∧ Below w.heap.size w w' := by
  have Hr := Lib.hid hr
  clear hr
  have HF := Lib.hid (Blk.new w 23 (geA g))
  have HB := Lib.hid (below_alloc w (Obj.cells (geA g) 23))
  go_enter Try.func5, Try.ntmps5
  go_wp2_with fail
  refine (anchor5_any _).mono ?_
  rintro e w1 ⟨rfl, hb1⟩
  have HF1 := Lib.hid (HF.out.below hb1 HF.out.lt)
  have HB1 := Lib.hid (bthen HB.out hb1)
  clear HF HB hb1
  go_upto_region 5 with (refine wpl_load_g (by rfl) _ rfl (w.heap.size) rfl _ _ _ HF1.out Try.underlying23 rfl (info_geA g) ?_; go_frame)
  refine (right_any g _).mono ?_
  rintro e w2 ⟨rfl, hb⟩
  rw [Hr.out]
  have HF2 := Lib.hid (HF1.out.below hb HF1.out.lt)
  have HB2 := Lib.hid (bthen HB1.out hb)
  clear hb HB1 HF1
  have c1 := (HF2.out.cell 1).trans (geA_at1 g)
  have c3 := (HF2.out.cell 3).trans (geA_at3 g)
  go_upto_region 5 with fail
  all_goals first
    | (go_ret; exact ⟨rfl, HB2.out⟩)
    | skip
  have K : Hid (gB { g with z := z, b := b } = true) := Lib.hid (more_math Hr.out (by omega) (by omega) (by omega) (by omega))
  clear c1 c3
  have f1 := HF2.out.frozen 1
  have c1 := (HF2.out.cell 1).trans (geA_at1 g)
  go_upto_region 6 with fail
  have hF3 := HF2.out.set 1 (.int .i64 z)
  have HB3 := Lib.hid (HB2.out.setCell (p := ⟨w.heap.size, 1, none⟩) (Nat.le_refl _) (.int .i64 z))
  clear c1 f1 HF2 HB2
  generalize w2.setCell ⟨w.heap.size, 1, none⟩ (.int .i64 z) = w3 at *
  have c3 := (hF3.cell 3)
  have f3 := hF3.frozen 3
  go_upto_region 7 with fail
  have HF4 := Lib.hid (show Blk (w3.setCell ⟨w.heap.size, 3, none⟩ (.int .i64 b)) w.heap.size 23 (geA { g with z := z, b := b }) from hF3.set 3 (.int .i64 b))
  have HB4 := Lib.hid (HB3.out.setCell (p := ⟨w.heap.size, 3, none⟩) (Nat.le_refl _) (.int .i64 b))
  clear c3 f3 hF3 HB3
  generalize w3.setCell ⟨w.heap.size, 3, none⟩ (.int .i64 b) = w4 at *
  go_wp2_with (first | (refine wpl_load_g (by rfl) _ rfl (w.heap.size) rfl _ _ _ HF4.out Try.underlying23 rfl (info_geA _) ?_; go_frame))
  refine (right_any { g with z := z, b := b } _).mono ?_
  rintro e w5 ⟨rfl, hb⟩
  rw [K.out]
  go_wp2_with fail
  go_ret
  exact ⟨rfl, bthen' HB4.out hb⟩

theorem walkGeomMore (g : GeR) (z b : Int) (w : World) (h : GeOk g) (hz : (Lit.int .i64 z).wf = true) (hb : (Lit.int .i64 b).wf = true) :
    Calls Try.prog 5 #[.agg (geA g), .int .i64 z, .int .i64 b] w fun e w' => e = .returned (.bool true) ∧ Below w.heap.size w w' := by
  cases hr : gB g with
  | false => exact walkMore_n g z b w hr
  | true => exact walkMore_t g z b w hr

end Go.Proofs.Ytkjjhcpfblhijaa
