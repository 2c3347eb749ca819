/-
  Contracts of layer 3 (frame), first part: within, Right, and the document's Right.
-/
import Derived.Test.YtdjnfikacjfkkaaFrameA
namespace Go.Proofs.Ytdjnfikacjfkkaa
open Go.RowKit CrcM
set_option linter.unusedVariables false
set_option linter.unnecessarySimpa false
set_option linter.unusedSimpArgs false

/-- Is v from a to b? -/
def wB (v a b : Int) : Bool := decide (a ≤ v) && decide (v ≤ b)

theorem within_any (v a b : Int) (w : World) :
    Calls Try.prog 35 #[.int .i64 v, .int .i64 a, .int .i64 b] w fun e w' => e = .returned (.bool (wB v a b)) ∧ w = w' := by
  by_cases h : a ≤ v
  · have d0 : decide (a ≤ v) = true := decide_eq_true h
    have H := Lib.hid (show decide (v ≤ b) = wB v a b by unfold wB; rw [d0]; rfl)
    go_enter Try.func35, Try.ntmps35
    go_wp2_with fail
    go_ret
    exact ⟨ret_bool H.out, rfl⟩
  · have d0 : decide (a ≤ v) = false := decide_eq_false h
    have H := Lib.hid (show false = wB v a b by unfold wB; rw [d0]; rfl)
    go_enter Try.func35, Try.ntmps35
    go_wp2_with fail
    go_ret
    exact ⟨ret_bool H.out, rfl⟩

/-- May a frame be? -/
def rightB (f : FrR) : Bool := wB f.k 1 5 && wB f.z 0 65535 && wB f.o 0 65535 && wB f.e 1 4294967295 && wB f.s 0 281474976710655

theorem right_iff (f : FrR) : rightB f = true ↔ (1 ≤ f.k ∧ f.k ≤ 5) ∧ (0 ≤ f.z ∧ f.z ≤ 65535) ∧ (0 ≤ f.o ∧ f.o ≤ 65535) ∧ (1 ≤ f.e ∧ f.e ≤ 4294967295) ∧ (0 ≤ f.s ∧ f.s ≤ 281474976710655) := by
  simp [rightB, wB, and_assoc]

set_option maxHeartbeats 1000000 in
theorem right_any (f : FrR) (w : World) :
    Calls Try.prog 28 #[.agg (frA f)] w fun e w' => e = .returned (.bool (rightB f)) ∧ Below w.heap.size w w' := by
  have hB := below_alloc w (Obj.cells (frA f) 41)
  have hF : Blk (w.alloc (Obj.cells (frA f) 41)) w.heap.size 41 (frA f) := Blk.new _ _ _
  have c0 := (hF.cell 0).trans (frA_at0 f)
  have c1 := (hF.cell 1).trans (frA_at1 f)
  have c2 := (hF.cell 2).trans (frA_at2 f)
  have c3 := (hF.cell 3).trans (frA_at3 f)
  have c4 := (hF.cell 4).trans (frA_at4 f)
  have HB := Lib.hid hB
  clear hF hB
  have HR : Hid (rightB f = (wB f.k 1 5 && wB f.z 0 65535 && wB f.o 0 65535 && wB f.e 1 4294967295 && wB f.s 0 281474976710655)) := Lib.hid rfl
  go_enter Try.func28, Try.ntmps28
  go_wp2_with (go_at_call 35; refine (within_any _ _ _ _).mono ?_; rintro e' w' ⟨rfl, rfl⟩)
  all_goals (go_ret; exact ⟨ret_bool (by rw [HR.out]; simp_all), HB.out⟩)

set_option maxHeartbeats 1000000 in
theorem rright_any (f : FrR) (w : World) :
    Calls Try.prog 18 #[.agg (frA f)] w fun e w' => e = .returned (.bool (rightB f)) ∧ Below w.heap.size w w' := by
  have hB := below_alloc w (Obj.cells (frA f) 44)
  have hF : Blk (w.alloc (Obj.cells (frA f) 44)) w.heap.size 44 (frA f) := Blk.new _ _ _
  have c0 := (hF.cell 0).trans (frA_at0 f)
  have c1 := (hF.cell 1).trans (frA_at1 f)
  have c2 := (hF.cell 2).trans (frA_at2 f)
  have c3 := (hF.cell 3).trans (frA_at3 f)
  have c4 := (hF.cell 4).trans (frA_at4 f)
  have HB := Lib.hid hB
  clear hF hB
  go_enter Try.func18, Try.ntmps18
  go_wp2_with fail
  all_goals (go_ret; exact ⟨ret_bool (by rw [Bool.eq_iff_iff, right_iff]; first | (simp only [decide_eq_true_eq]; omega) | (simp only [Bool.false_eq_true, false_iff]; omega)), HB.out⟩)

end Go.Proofs.Ytdjnfikacjfkkaa
