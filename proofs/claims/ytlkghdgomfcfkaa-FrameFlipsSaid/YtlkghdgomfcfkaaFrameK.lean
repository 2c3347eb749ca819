/-
  Layer 3 (frame), tenth part: the laws' anchor; frames and sectors that are held against one another.
-/
import Derived.Test.YtlkghdgomfcfkaaFrameJ
import Derived.Test.YtlkghdgomfcfkaaFrameI
namespace Go.Proofs.Ytlkghdgomfcfkaa
open Go.RowKit CrcM
set_option linter.unusedVariables false
set_option linter.unnecessarySimpa false
set_option linter.unusedSimpArgs false

section
variable {P : Program} {w : World} {ops : Array Oper} {rest : List Oper} {o : Oper} {a : Act} {Q : Exit → Act → World → Prop}

/-- An operation that yields this value here. -/
theorem wpl_run (hw : Region.wanted o (yielded ops a.tmps) = true) (v : Value) (hrun : (execOp a.eval o).run P w = .ok (.value v) w) (h : wpList P ops Q rest (a.put o.dst v) w) : wpList P ops Q (o :: rest) a w := by
  unfold wpList
  rw [if_pos hw]
  refine .inl ?_
  unfold Oper.wp
  rw [hrun]
  exact h

theorem exec_eql_frame {t : TypeId} (T : FrameType P t) (x y : Operand) (rt : TypeId) (ho : o.op = .binOp .eql t x y rt) (f g : FrR) (hx : a.eval x = .agg (frA f)) (hy : a.eval y = .agg (frA g)) (hf : f.b.length = 44) (hg : g.b.length = 44) (b : Bool) (hb : decide (f = g) = b) :
    (execOp a.eval o).run P w = .ok (.value (.bool b)) w := by
  unfold execOp
  simp only [ho, hx, hy, Sem.run_bind, run_eqGuard_agg w .eql t x y (frA f) (frA g) T.guard, Result.andThen_ok, run_eql_frame T f g hf hg w, Sem.run_pure, hb]

theorem exec_neq_frame {t : TypeId} (T : FrameType P t) (x y : Operand) (rt : TypeId) (ho : o.op = .binOp .neq t x y rt) (f g : FrR) (hx : a.eval x = .agg (frA f)) (hy : a.eval y = .agg (frA g)) (hf : f.b.length = 44) (hg : g.b.length = 44) (b : Bool) (hb : (!decide (f = g)) = b) :
    (execOp a.eval o).run P w = .ok (.value (.bool b)) w := by
  unfold execOp
  simp only [ho, hx, hy, Sem.run_bind, run_eqGuard_agg w .neq t x y (frA f) (frA g) T.guard, Result.andThen_ok, run_neq_frame T f g hf hg w, Sem.run_pure, hb]

theorem exec_eql_sector {t : TypeId} {n : Nat} (T : BytesType P t n) (x y : Operand) (rt : TypeId) (ho : o.op = .binOp .eql t x y rt) (xs ys : List Nat) (hx : a.eval x = .agg (bA xs)) (hy : a.eval y = .agg (bA ys)) (hf : xs.length = n) (hg : ys.length = n) (b : Bool) (hb : decide (xs = ys) = b) :
    (execOp a.eval o).run P w = .ok (.value (.bool b)) w := by
  unfold execOp
  simp only [ho, hx, hy, Sem.run_bind, run_eqGuard_agg w .eql t x y (bA xs) (bA ys) T.guard, Result.andThen_ok, run_eql_sector T xs ys hf hg w, Sem.run_pure, hb]
end

theorem eq_self (f : FrR) : decide (f = f) = true := by simp
theorem neq_self (f : FrR) : (!decide (f = f)) = false := by simp

theorem zeros_sound : soundB (zeros 64) = false := by
  unfold soundB
  rw [decide_eq_false_iff_not]
  decide +kernel
/-- The anchor's frame. -/
def frM : FrR := ⟨3, 0, 0, 1, 0, zeros 44⟩
theorem dec_zero : decE (zeros 64) = 11 ∧ decF (zeros 64) = fr0 := by unfold decE decF; rw [zeros_sound]; simp

set_option maxRecDepth 100000 in
set_option maxHeartbeats 1000000 in
theorem anchor3_any (w : World) :
    Calls Try.prog 9 #[] w fun e w' => e = .returned (.bool true) ∧ Below w.heap.size w w' := by
  have hz := zero_tab
  have hz2 := zero_fr
  have hz3 := zero_sec
  go_enter Try.func9, Try.ntmps9
  go_wp2_with fail
  refine (new_any _).mono ?_
  rintro e w1 ⟨rfl, hb1⟩
  have HT : Hid (Blk (w1.alloc (Obj.cells tbl 28)) w1.heap.size 28 tbl) := Lib.hid (Blk.new _ _ _)
  have HB : Hid (Below w.heap.size w (w1.alloc (Obj.cells tbl 28))) := Lib.hid (bthen hb1 (below_alloc _ _))
  clear hb1
  go_wp2_with (first | (refine wpl_store_new rfl _ _ rfl tbl w1 28 (pt 0) rfl rfl rfl info_tbl (by rw [pt_size, tbl_size]) tbl_cells ?_; go_frame) | (refine wpl_build (by kernel_rfl) 32 _ rfl (.agg (bA (zeros 64))) (fun _ => by kernel_rfl) ?_; go_frame) | (refine wpl_load rfl _ rfl (w1.heap.size) rfl _ _ _ HT.out Try.underlying28 rfl info_tbl ?_; go_frame))
  clear hz
  generalize w1.alloc (Obj.cells tbl 28) = w2 at *
  refine (decode_any (zeros 64) _ (zeros_length 64) (zeros_lt 64)).mono ?_
  rintro e w3 ⟨rfl, hb3⟩
  rw [dec_zero.1, dec_zero.2]
  have HT3 := Lib.hid (HT.out.below hb3 HT.out.lt)
  have HB3 := Lib.hid (bthen HB.out hb3)
  have HT4 : Hid (Blk (w3.alloc (Obj.cells (frA fr0) 24)) w1.heap.size 28 tbl) := Lib.hid (HT3.out.alloc _)
  have HB4 : Hid (Below w.heap.size w (w3.alloc (Obj.cells (frA fr0) 24))) := Lib.hid (bthen HB3.out (below_alloc _ _))
  clear hb3 HT HB HT3 HB3
  go_wp2_with (first | (refine wpl_store_new rfl _ _ rfl (frA fr0) w3 24 (frA fr0) rfl rfl rfl (info_frA fr0_len) rfl frA_one ?_; go_frame) | (refine wpl_build (by kernel_rfl) 24 _ rfl (.agg (frA frM)) (fun _ => by kernel_rfl) ?_; go_frame) | (refine wpl_load rfl _ rfl (w1.heap.size) rfl _ _ _ HT4.out Try.underlying28 rfl info_tbl ?_; go_frame))
  generalize w3.alloc (Obj.cells (frA fr0) 24) = w4 at *
  refine (encode_ok frM _ (zeros_length 44) (zeros_lt 44) (by decide)).mono ?_
  rintro e w5 ⟨rfl, hb5⟩
  have HB5 := Lib.hid (bthen HB4.out hb5)
  clear hb5 HT4 HB4
  go_wp2_with (first | (refine wpl_store_new rfl _ _ rfl (bA (sec frM)) w5 32 (bA (zeros 64)) rfl rfl rfl (info_sec (sec_length (zeros_length 44))) (by rw [bA_size, bA_size, zeros_length, sec_length (zeros_length 44)]) (bA_one _) ?_; go_frame))
  go_ret
  exact ⟨rfl, bthen HB5.out (below_alloc _ _)⟩

end Go.Proofs.Ytlkghdgomfcfkaa
