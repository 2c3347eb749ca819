/-
  Layer 3 (frame), tenth part: the laws' anchor; frames and sectors that are held against one another.
-/
import Derived.Test.YtdjnfikacjfkkaaFrameJ
import Derived.Test.YtdjnfikacjfkkaaFrameI
namespace Go.Proofs.Ytdjnfikacjfkkaa
open Go.RowKit CrcM
set_option linter.unusedVariables false
set_option linter.unnecessarySimpa false
set_option linter.unusedSimpArgs false

section
variable {P : Program} {w : World} {ops : Array Oper} {rest : List Oper} {o : Oper} {a : Act} {Q : Exit → Act → World → Prop}

/-- An operation that yields this value here. -/
theorem wpl_run (hw : Region.wanted o (yielded ops a.tmps) = true) (v : Value) (hrun : (execOp a.eval o).run P w = .ok (.value v) w) (h : wpList P ops Q rest (a.put o.dst v) w) : wpList P ops Q (o :: rest) a w := by
  unfold wpList
  rw [if_pos hw]
  refine .inl ?_
  unfold Oper.wp
  rw [hrun]
  exact h

theorem exec_eql_frame {t : TypeId} (T : FrameType P t) (x y : Operand) (rt : TypeId) (ho : o.op = .binOp .eql t x y rt) (f g : FrR) (hx : a.eval x = .agg (frA f)) (hy : a.eval y = .agg (frA g)) (hf : f.b.length = 44) (hg : g.b.length = 44) (b : Bool) (hb : decide (f = g) = b) :
    (execOp a.eval o).run P w = .ok (.value (.bool b)) w := by
  unfold execOp
  simp only [ho, hx, hy, Sem.run_bind, run_eqGuard_agg w .eql t x y (frA f) (frA g) T.guard, Result.andThen_ok, run_eql_frame T f g hf hg w, Sem.run_pure, hb]

theorem exec_neq_frame {t : TypeId} (T : FrameType P t) (x y : Operand) (rt : TypeId) (ho : o.op = .binOp .neq t x y rt) (f g : FrR) (hx : a.eval x = .agg (frA f)) (hy : a.eval y = .agg (frA g)) (hf : f.b.length = 44) (hg : g.b.length = 44) (b : Bool) (hb : (!decide (f = g)) = b) :
    (execOp a.eval o).run P w = .ok (.value (.bool b)) w := by
  unfold execOp
  simp only [ho, hx, hy, Sem.run_bind, run_eqGuard_agg w .neq t x y (frA f) (frA g) T.guard, Result.andThen_ok, run_neq_frame T f g hf hg w, Sem.run_pure, hb]

theorem exec_eql_sector {t : TypeId} {n : Nat} (T : BytesType P t n) (x y : Operand) (rt : TypeId) (ho : o.op = .binOp .eql t x y rt) (xs ys : List Nat) (hx : a.eval x = .agg (bA xs)) (hy : a.eval y = .agg (bA ys)) (hf : xs.length = n) (hg : ys.length = n) (b : Bool) (hb : decide (xs = ys) = b) :
    (execOp a.eval o).run P w = .ok (.value (.bool b)) w := by
  unfold execOp
  simp only [ho, hx, hy, Sem.run_bind, run_eqGuard_agg w .eql t x y (bA xs) (bA ys) T.guard, Result.andThen_ok, run_eql_sector T xs ys hf hg w, Sem.run_pure, hb]
end

theorem eq_self (f : FrR) : decide (f = f) = true := by simp
theorem neq_self (f : FrR) : (!decide (f = f)) = false := by simp

theorem zeros_sound : soundB (zeros 64) = false := by
  unfold soundB
  rw [decide_eq_false_iff_not]
  decide +kernel
/-- The anchor's frame. -/
def frM : FrR := ⟨3, 0, 0, 1, 0, zeros 44⟩
theorem dec_zero : decE (zeros 64) = 11 ∧ decF (zeros 64) = fr0 := by unfold decE decF; rw [zeros_sound]; simp

end Go.Proofs.Ytdjnfikacjfkkaa
