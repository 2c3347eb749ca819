/-
  Contracts of layer 5 (geom) whose statements draw no order: within, limited, All, Parts, failing, safe, Reserve; the document's half.
-/
import Derived.Test.YtkjjhcpfblhijaaGeomA
namespace Go.Proofs.Ytkjjhcpfblhijaa
open Go.RowKit
set_option linter.unusedVariables false
set_option linter.unnecessarySimpa false
set_option linter.unusedSimpArgs false

theorem gwithin_any (v a b : Int) (w : World) :
    Calls Try.prog 25 #[.int .i64 v, .int .i64 a, .int .i64 b] w fun e w' => e = .returned (.bool (wB v a b)) ∧ w = w' := by
  by_cases h : a ≤ v
  · have d0 : decide (a ≤ v) = true := decide_eq_true h
    have H := Lib.hid (show decide (v ≤ b) = wB v a b by unfold wB; rw [d0]; rfl)
    go_enter Try.func25, Try.ntmps25
    go_wp2_with fail
    go_ret
    exact ⟨ret_bool H.out, rfl⟩
  · have d0 : decide (a ≤ v) = false := decide_eq_false h
    have H := Lib.hid (show false = wB v a b by unfold wB; rw [d0]; rfl)
    go_enter Try.func25, Try.ntmps25
    go_wp2_with fail
    go_ret
    exact ⟨ret_bool H.out, rfl⟩

set_option maxRecDepth 100000 in
set_option maxHeartbeats 2000000 in
theorem limited_any (g : GeR) (w : World) :
    Calls Try.prog 21 #[.agg (geA g)] w fun e w' => e = .returned (.bool (limB g)) ∧ Below w.heap.size w w' := by
  have hB := below_alloc w (Obj.cells (geA g) 23)
  have hF : Blk (w.alloc (Obj.cells (geA g) 23)) w.heap.size 23 (geA g) := Blk.new _ _ _
  have c0 := (hF.cell 0).trans (geA_at0 g)
  have c1 := (hF.cell 1).trans (geA_at1 g)
  have c2 := (hF.cell 2).trans (geA_at2 g)
  have c3 := (hF.cell 3).trans (geA_at3 g)
  have c4 := (hF.cell 4).trans (geA_at4 g)
  have c5 := (hF.cell 5).trans (geA_at5 g)
  have HB := Lib.hid hB
  have HF := Lib.hid hF
  clear hF hB
  have HR : Hid (limB g = (wB g.d 3 8 && wB g.z 1 64 && wB g.s 4 64 && wB g.b 1 256 && wB g.p 0 4 && wB g.o 4 64)) := Lib.hid rfl
  go_enter Try.func21, Try.ntmps21
  go_wp2_with (go_at_call 25; refine (gwithin_any _ _ _ _).mono ?_; rintro e' w' ⟨rfl, rfl⟩)
  all_goals (go_ret; exact ⟨ret_bool (by rw [HR.out]; simp_all), HB.out⟩)

set_option maxRecDepth 100000 in
set_option maxHeartbeats 2000000 in
theorem all_any (g : GeR) (w : World) (h : Lim g) :
    Calls Try.prog 10 #[.agg (geA g)] w fun e w' => e = .returned (.int .i64 (allI g)) ∧ Below w.heap.size w w' := by
  have hB := below_alloc w (Obj.cells (geA g) 23)
  have hF : Blk (w.alloc (Obj.cells (geA g) 23)) w.heap.size 23 (geA g) := Blk.new _ _ _
  have c0 := (hF.cell 0).trans (geA_at0 g)
  have c1 := (hF.cell 1).trans (geA_at1 g)
  have HB := Lib.hid hB
  have HF := Lib.hid hF
  clear hF hB
  obtain ⟨b1, b2⟩ := all_bd h
  unfold allI at b1 b2
  clear h
  go_enter Try.func10, Try.ntmps10
  go_wp2_with fail
  go_ret
  exact ⟨ret_int (rfl), HB.out⟩

set_option maxRecDepth 100000 in
set_option maxHeartbeats 2000000 in
theorem parts_any (g : GeR) (w : World) (h : Lim g) :
    Calls Try.prog 11 #[.agg (geA g)] w fun e w' => e = .returned (.int .i64 (parI g)) ∧ Below w.heap.size w w' := by
  have hB := below_alloc w (Obj.cells (geA g) 23)
  have hF : Blk (w.alloc (Obj.cells (geA g) 23)) w.heap.size 23 (geA g) := Blk.new _ _ _
  have c3 := (hF.cell 3).trans (geA_at3 g)
  have HB := Lib.hid hB
  have HF := Lib.hid hF
  clear hF hB
  obtain ⟨b1, b2⟩ := h.b
  clear h
  go_enter Try.func11, Try.ntmps11
  go_wp2_with fail
  go_ret
  exact ⟨ret_int (rfl), HB.out⟩

set_option maxRecDepth 100000 in
set_option maxHeartbeats 2000000 in
theorem failing_any (g : GeR) (w : World) (h : Lim g) :
    Calls Try.prog 22 #[.agg (geA g)] w fun e w' => e = .returned (.int .i64 (faiI g)) ∧ Below w.heap.size w w' := by
  have hB := below_alloc w (Obj.cells (geA g) 23)
  have hF : Blk (w.alloc (Obj.cells (geA g) 23)) w.heap.size 23 (geA g) := Blk.new _ _ _
  have c0 := (hF.cell 0).trans (geA_at0 g)
  have c4 := (hF.cell 4).trans (geA_at4 g)
  have HB := Lib.hid hB
  have HF := Lib.hid hF
  clear hF hB
  obtain ⟨b1, b2⟩ := fai_bd h
  unfold faiI at b1 b2
  clear h
  go_enter Try.func22, Try.ntmps22
  go_wp2_with fail
  go_ret
  exact ⟨ret_int (rfl), HB.out⟩

set_option maxRecDepth 100000 in
set_option maxHeartbeats 2000000 in
theorem safe_any (g : GeR) (w : World) (h : Lim g) :
    Calls Try.prog 27 #[.agg (geA g)] w fun e w' => e = .returned (.int .i64 (safI g)) ∧ Below w.heap.size w w' := by
  have hB := below_alloc w (Obj.cells (geA g) 23)
  have hF : Blk (w.alloc (Obj.cells (geA g) 23)) w.heap.size 23 (geA g) := Blk.new _ _ _
  have c1 := (hF.cell 1).trans (geA_at1 g)
  have c4 := (hF.cell 4).trans (geA_at4 g)
  have HB := Lib.hid hB
  have HF := Lib.hid hF
  clear hF hB
  obtain ⟨b1, b2⟩ := h.z
  obtain ⟨b3, b4⟩ := h.p
  clear h
  go_enter Try.func27, Try.ntmps27
  go_wp2_with fail
  go_ret
  exact ⟨ret_int (rfl), HB.out⟩

set_option maxRecDepth 100000 in
set_option maxHeartbeats 2000000 in
theorem reserve_any (g : GeR) (w : World) (h : Lim g) :
    Calls Try.prog 13 #[.agg (geA g)] w fun e w' => e = .returned (.int .i64 (resI g)) ∧ Below w.heap.size w w' := by
  have hB := below_alloc w (Obj.cells (geA g) 23)
  have hF : Blk (w.alloc (Obj.cells (geA g) 23)) w.heap.size 23 (geA g) := Blk.new _ _ _
  have HB := Lib.hid hB
  have HF := Lib.hid hF
  clear hF hB
  obtain ⟨b1, b2⟩ := fai_bd h
  have H := Lib.hid h
  clear h
  go_enter Try.func13, Try.ntmps13
  go_wp2_with (first | (refine wpl_load_g (by rfl) _ rfl (w.heap.size) rfl _ _ _ HF.out Try.underlying23 rfl (info_geA g) ?_; go_frame))
  refine (failing_any g _ H.out).mono ?_
  rintro e w1 ⟨rfl, hb1⟩
  go_wp2_with fail
  go_ret
  exact ⟨ret_int rfl, bthen HB.out hb1⟩

set_option maxRecDepth 100000 in
set_option maxHeartbeats 2000000 in
theorem half_any (n : Int) (w : World) (h1 : -1000 ≤ n) (h2 : n ≤ 1000) :
    Calls Try.prog 24 #[.int .i64 n] w fun e w' => e = .returned (.int .i64 (n / 2)) ∧ w = w' := by
  by_cases h : n < 0
  · have e : -((1 - n) / 2) = n / 2 := by omega
    have H := Lib.hid e
    clear e
    go_enter Try.func24, Try.ntmps24
    go_wp2_with fail
    go_ret
    exact ⟨ret_int (by omega), rfl⟩
  · have h0 : 0 ≤ n := by omega
    go_enter Try.func24, Try.ntmps24
    go_wp2_with fail
    go_ret
    exact ⟨rfl, rfl⟩

end Go.Proofs.Ytkjjhcpfblhijaa
