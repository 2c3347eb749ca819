/-
  Contracts of layer 4 (entry), second part: the document's Right, and the laws' of.
-/
import Derived.Test.YtdjnfikacjfkkaaEntryB
namespace Go.Proofs.Ytdjnfikacjfkkaa
open Go.RowKit CrcM
set_option linter.unusedVariables false
set_option linter.unnecessarySimpa false
set_option linter.unusedSimpArgs false

theorem list_as {y : List Nat} {n : Nat} (h : y.length = n) : ∃ g : Nat → Nat, y = (List.range n).map g := by
  refine ⟨fun i => y.getD i 0, ?_⟩
  apply List.ext_getElem (by simp [h])
  intro i h1 h2
  simp [List.getD, h1]

/-- The empty entry. -/
def en0 : EnR := ⟨0, 0, 0, 0, 0, 0, zeros 32⟩
theorem en0_len : en0.y.length = 32 := zeros_length 32
theorem zero_en (w : World) : (zeroValue 25).run Try.prog w = .ok (.agg (enA en0)) w := by kernel_rfl
theorem zero_e4 (w : World) : (zeroValue 32).run Try.prog w = .ok (.agg (enA en0)) w := by kernel_rfl
theorem zero_44 (w : World) : (zeroValue 26).run Try.prog w = .ok (.agg (bA (zeros 44))) w := by kernel_rfl
theorem zero_block (w : World) : (zeroValue 23).run Try.prog w = .ok (.agg (bA (zeros 32))) w := by kernel_rfl

set_option maxRecDepth 100000 in
set_option maxHeartbeats 2000000 in
theorem rright4_r0 (e : EnR) (w : World) (hl : e.y.length = 32) (h0 : e.f < 0) :
    Calls Try.prog 13 #[.agg (enA e)] w fun en w' => en = .returned (.bool (rB e)) ∧ Below w.heap.size w w' := by
  have HL := Lib.hid hl
  have hB := below_alloc w (Obj.cells (enA e) 32)
  have hF : Blk (w.alloc (Obj.cells (enA e) 32)) w.heap.size 32 (enA e) := Blk.new _ _ _
  have c0 := (hF.cell 0).trans (enA_at0 e)
  have c1 := (hF.cell 1).trans (enA_at1 e)
  have c2 := (hF.cell 2).trans (enA_at2 e)
  have c3 := (hF.cell 3).trans (enA_at3 e)
  have c4 := (hF.cell 4).trans (enA_at4 e)
  have c5 := (hF.cell 5).trans (enA_at5 e)
  have HB := Lib.hid hB
  have HF := Lib.hid hF
  clear hF hB
  have HR : Hid (rB e = false) := Lib.hid (by rw [Bool.eq_false_iff]; intro h; rw [rB_iff] at h; omega)
  have d0 : decide (e.f < 0) = true := decide_eq_true h0
  clear h0
  clear hl
  go_enter Try.func13, Try.ntmps13
  go_wp2_with fail
  go_ret
  exact ⟨ret_bool (by rw [HR.out]), HB.out⟩

set_option maxRecDepth 100000 in
set_option maxHeartbeats 2000000 in
theorem rright4_r1 (e : EnR) (w : World) (hl : e.y.length = 32) (h0 : ¬ e.f < 0) (h1 : e.f > 281474976710655) :
    Calls Try.prog 13 #[.agg (enA e)] w fun en w' => en = .returned (.bool (rB e)) ∧ Below w.heap.size w w' := by
  have HL := Lib.hid hl
  have hB := below_alloc w (Obj.cells (enA e) 32)
  have hF : Blk (w.alloc (Obj.cells (enA e) 32)) w.heap.size 32 (enA e) := Blk.new _ _ _
  have c0 := (hF.cell 0).trans (enA_at0 e)
  have c1 := (hF.cell 1).trans (enA_at1 e)
  have c2 := (hF.cell 2).trans (enA_at2 e)
  have c3 := (hF.cell 3).trans (enA_at3 e)
  have c4 := (hF.cell 4).trans (enA_at4 e)
  have c5 := (hF.cell 5).trans (enA_at5 e)
  have HB := Lib.hid hB
  have HF := Lib.hid hF
  clear hF hB
  have HR : Hid (rB e = false) := Lib.hid (by rw [Bool.eq_false_iff]; intro h; rw [rB_iff] at h; omega)
  have d0 : decide (e.f < 0) = false := decide_eq_false h0
  have d1 : decide (281474976710655 < e.f) = true := decide_eq_true h1
  clear h0 h1
  clear hl
  go_enter Try.func13, Try.ntmps13
  go_wp2_with fail
  go_ret
  exact ⟨ret_bool (by rw [HR.out]), HB.out⟩

set_option maxRecDepth 100000 in
set_option maxHeartbeats 2000000 in
theorem rright4_r2 (e : EnR) (w : World) (hl : e.y.length = 32) (h0 : ¬ e.f < 0) (h1 : ¬ e.f > 281474976710655) (h2 : e.b < 0) :
    Calls Try.prog 13 #[.agg (enA e)] w fun en w' => en = .returned (.bool (rB e)) ∧ Below w.heap.size w w' := by
  have HL := Lib.hid hl
  have hB := below_alloc w (Obj.cells (enA e) 32)
  have hF : Blk (w.alloc (Obj.cells (enA e) 32)) w.heap.size 32 (enA e) := Blk.new _ _ _
  have c0 := (hF.cell 0).trans (enA_at0 e)
  have c1 := (hF.cell 1).trans (enA_at1 e)
  have c2 := (hF.cell 2).trans (enA_at2 e)
  have c3 := (hF.cell 3).trans (enA_at3 e)
  have c4 := (hF.cell 4).trans (enA_at4 e)
  have c5 := (hF.cell 5).trans (enA_at5 e)
  have HB := Lib.hid hB
  have HF := Lib.hid hF
  clear hF hB
  have HR : Hid (rB e = false) := Lib.hid (by rw [Bool.eq_false_iff]; intro h; rw [rB_iff] at h; omega)
  have d0 : decide (e.f < 0) = false := decide_eq_false h0
  have d1 : decide (281474976710655 < e.f) = false := decide_eq_false h1
  have d2 : decide (e.b < 0) = true := decide_eq_true h2
  clear h0 h1 h2
  clear hl
  go_enter Try.func13, Try.ntmps13
  go_wp2_with fail
  go_ret
  exact ⟨ret_bool (by rw [HR.out]), HB.out⟩

set_option maxRecDepth 100000 in
set_option maxHeartbeats 2000000 in
theorem rright4_r3 (e : EnR) (w : World) (hl : e.y.length = 32) (h0 : ¬ e.f < 0) (h1 : ¬ e.f > 281474976710655) (h2 : ¬ e.b < 0) (h3 : e.b > 255) :
    Calls Try.prog 13 #[.agg (enA e)] w fun en w' => en = .returned (.bool (rB e)) ∧ Below w.heap.size w w' := by
  have HL := Lib.hid hl
  have hB := below_alloc w (Obj.cells (enA e) 32)
  have hF : Blk (w.alloc (Obj.cells (enA e) 32)) w.heap.size 32 (enA e) := Blk.new _ _ _
  have c0 := (hF.cell 0).trans (enA_at0 e)
  have c1 := (hF.cell 1).trans (enA_at1 e)
  have c2 := (hF.cell 2).trans (enA_at2 e)
  have c3 := (hF.cell 3).trans (enA_at3 e)
  have c4 := (hF.cell 4).trans (enA_at4 e)
  have c5 := (hF.cell 5).trans (enA_at5 e)
  have HB := Lib.hid hB
  have HF := Lib.hid hF
  clear hF hB
  have HR : Hid (rB e = false) := Lib.hid (by rw [Bool.eq_false_iff]; intro h; rw [rB_iff] at h; omega)
  have d0 : decide (e.f < 0) = false := decide_eq_false h0
  have d1 : decide (281474976710655 < e.f) = false := decide_eq_false h1
  have d2 : decide (e.b < 0) = false := decide_eq_false h2
  have d3 : decide (255 < e.b) = true := decide_eq_true h3
  clear h0 h1 h2 h3
  clear hl
  go_enter Try.func13, Try.ntmps13
  go_wp2_with fail
  go_ret
  exact ⟨ret_bool (by rw [HR.out]), HB.out⟩

set_option maxRecDepth 100000 in
set_option maxHeartbeats 2000000 in
theorem rright4_r4 (e : EnR) (w : World) (hl : e.y.length = 32) (h0 : ¬ e.f < 0) (h1 : ¬ e.f > 281474976710655) (h2 : ¬ e.b < 0) (h3 : ¬ e.b > 255) (h4 : e.t < 0) :
    Calls Try.prog 13 #[.agg (enA e)] w fun en w' => en = .returned (.bool (rB e)) ∧ Below w.heap.size w w' := by
  have HL := Lib.hid hl
  have hB := below_alloc w (Obj.cells (enA e) 32)
  have hF : Blk (w.alloc (Obj.cells (enA e) 32)) w.heap.size 32 (enA e) := Blk.new _ _ _
  have c0 := (hF.cell 0).trans (enA_at0 e)
  have c1 := (hF.cell 1).trans (enA_at1 e)
  have c2 := (hF.cell 2).trans (enA_at2 e)
  have c3 := (hF.cell 3).trans (enA_at3 e)
  have c4 := (hF.cell 4).trans (enA_at4 e)
  have c5 := (hF.cell 5).trans (enA_at5 e)
  have HB := Lib.hid hB
  have HF := Lib.hid hF
  clear hF hB
  have HR : Hid (rB e = false) := Lib.hid (by rw [Bool.eq_false_iff]; intro h; rw [rB_iff] at h; omega)
  have d0 : decide (e.f < 0) = false := decide_eq_false h0
  have d1 : decide (281474976710655 < e.f) = false := decide_eq_false h1
  have d2 : decide (e.b < 0) = false := decide_eq_false h2
  have d3 : decide (255 < e.b) = false := decide_eq_false h3
  have d4 : decide (e.t < 0) = true := decide_eq_true h4
  clear h0 h1 h2 h3 h4
  clear hl
  go_enter Try.func13, Try.ntmps13
  go_wp2_with fail
  go_ret
  exact ⟨ret_bool (by rw [HR.out]), HB.out⟩

set_option maxRecDepth 100000 in
set_option maxHeartbeats 2000000 in
theorem rright4_r5 (e : EnR) (w : World) (hl : e.y.length = 32) (h0 : ¬ e.f < 0) (h1 : ¬ e.f > 281474976710655) (h2 : ¬ e.b < 0) (h3 : ¬ e.b > 255) (h4 : ¬ e.t < 0) (h5 : e.t > 65535) :
    Calls Try.prog 13 #[.agg (enA e)] w fun en w' => en = .returned (.bool (rB e)) ∧ Below w.heap.size w w' := by
  have HL := Lib.hid hl
  have hB := below_alloc w (Obj.cells (enA e) 32)
  have hF : Blk (w.alloc (Obj.cells (enA e) 32)) w.heap.size 32 (enA e) := Blk.new _ _ _
  have c0 := (hF.cell 0).trans (enA_at0 e)
  have c1 := (hF.cell 1).trans (enA_at1 e)
  have c2 := (hF.cell 2).trans (enA_at2 e)
  have c3 := (hF.cell 3).trans (enA_at3 e)
  have c4 := (hF.cell 4).trans (enA_at4 e)
  have c5 := (hF.cell 5).trans (enA_at5 e)
  have HB := Lib.hid hB
  have HF := Lib.hid hF
  clear hF hB
  have HR : Hid (rB e = false) := Lib.hid (by rw [Bool.eq_false_iff]; intro h; rw [rB_iff] at h; omega)
  have d0 : decide (e.f < 0) = false := decide_eq_false h0
  have d1 : decide (281474976710655 < e.f) = false := decide_eq_false h1
  have d2 : decide (e.b < 0) = false := decide_eq_false h2
  have d3 : decide (255 < e.b) = false := decide_eq_false h3
  have d4 : decide (e.t < 0) = false := decide_eq_false h4
  have d5 : decide (65535 < e.t) = true := decide_eq_true h5
  clear h0 h1 h2 h3 h4 h5
  clear hl
  go_enter Try.func13, Try.ntmps13
  go_wp2_with fail
  go_ret
  exact ⟨ret_bool (by rw [HR.out]), HB.out⟩

set_option maxRecDepth 100000 in
set_option maxHeartbeats 2000000 in
theorem rright4_r6 (e : EnR) (w : World) (hl : e.y.length = 32) (h0 : ¬ e.f < 0) (h1 : ¬ e.f > 281474976710655) (h2 : ¬ e.b < 0) (h3 : ¬ e.b > 255) (h4 : ¬ e.t < 0) (h5 : ¬ e.t > 65535) (h6 : e.c < 1) :
    Calls Try.prog 13 #[.agg (enA e)] w fun en w' => en = .returned (.bool (rB e)) ∧ Below w.heap.size w w' := by
  have HL := Lib.hid hl
  have hB := below_alloc w (Obj.cells (enA e) 32)
  have hF : Blk (w.alloc (Obj.cells (enA e) 32)) w.heap.size 32 (enA e) := Blk.new _ _ _
  have c0 := (hF.cell 0).trans (enA_at0 e)
  have c1 := (hF.cell 1).trans (enA_at1 e)
  have c2 := (hF.cell 2).trans (enA_at2 e)
  have c3 := (hF.cell 3).trans (enA_at3 e)
  have c4 := (hF.cell 4).trans (enA_at4 e)
  have c5 := (hF.cell 5).trans (enA_at5 e)
  have HB := Lib.hid hB
  have HF := Lib.hid hF
  clear hF hB
  have HR : Hid (rB e = false) := Lib.hid (by rw [Bool.eq_false_iff]; intro h; rw [rB_iff] at h; omega)
  have d0 : decide (e.f < 0) = false := decide_eq_false h0
  have d1 : decide (281474976710655 < e.f) = false := decide_eq_false h1
  have d2 : decide (e.b < 0) = false := decide_eq_false h2
  have d3 : decide (255 < e.b) = false := decide_eq_false h3
  have d4 : decide (e.t < 0) = false := decide_eq_false h4
  have d5 : decide (65535 < e.t) = false := decide_eq_false h5
  have d6 : decide (e.c < 1) = true := decide_eq_true h6
  clear h0 h1 h2 h3 h4 h5 h6
  clear hl
  go_enter Try.func13, Try.ntmps13
  go_wp2_with fail
  go_ret
  exact ⟨ret_bool (by rw [HR.out]), HB.out⟩

set_option maxRecDepth 100000 in
set_option maxHeartbeats 2000000 in
theorem rright4_k1a (e : EnR) (w : World) (hl : e.y.length = 32) (h0 : ¬ e.f < 0) (h1 : ¬ e.f > 281474976710655) (h2 : ¬ e.b < 0) (h3 : ¬ e.b > 255) (h4 : ¬ e.t < 0) (h5 : ¬ e.t > 65535) (h6 : ¬ e.c < 1) (hk : e.k = 1) (hc : ¬ e.c ≤ 4) :
    Calls Try.prog 13 #[.agg (enA e)] w fun en w' => en = .returned (.bool (rB e)) ∧ Below w.heap.size w w' := by
  have HL := Lib.hid hl
  have hB := below_alloc w (Obj.cells (enA e) 32)
  have hF : Blk (w.alloc (Obj.cells (enA e) 32)) w.heap.size 32 (enA e) := Blk.new _ _ _
  have c0 := (hF.cell 0).trans (enA_at0 e)
  have c1 := (hF.cell 1).trans (enA_at1 e)
  have c2 := (hF.cell 2).trans (enA_at2 e)
  have c3 := (hF.cell 3).trans (enA_at3 e)
  have c4 := (hF.cell 4).trans (enA_at4 e)
  have c5 := (hF.cell 5).trans (enA_at5 e)
  have HB := Lib.hid hB
  have HF := Lib.hid hF
  clear hF hB
  have HR : Hid (rB e = false) := Lib.hid (by rw [Bool.eq_false_iff]; intro h; rw [rB_iff] at h; omega)
  have d0 : decide (e.f < 0) = false := decide_eq_false h0
  have d1 : decide (281474976710655 < e.f) = false := decide_eq_false h1
  have d2 : decide (e.b < 0) = false := decide_eq_false h2
  have d3 : decide (255 < e.b) = false := decide_eq_false h3
  have d4 : decide (e.t < 0) = false := decide_eq_false h4
  have d5 : decide (65535 < e.t) = false := decide_eq_false h5
  have d6 : decide (e.c < 1) = false := decide_eq_false h6
  rw [hk] at c0
  have dc : decide (e.c ≤ 4) = false := decide_eq_false hc
  clear h0 h1 h2 h3 h4 h5 h6
  clear hk hc
  clear hl
  go_enter Try.func13, Try.ntmps13
  go_wp2_with fail
  all_goals (go_ret; exact ⟨ret_bool (by rw [HR.out]; try simp_all), HB.out⟩)

set_option maxRecDepth 100000 in
set_option maxHeartbeats 2000000 in
theorem rright4_k1b (e : EnR) (w : World) (hl : e.y.length = 32) (h0 : ¬ e.f < 0) (h1 : ¬ e.f > 281474976710655) (h2 : ¬ e.b < 0) (h3 : ¬ e.b > 255) (h4 : ¬ e.t < 0) (h5 : ¬ e.t > 65535) (h6 : ¬ e.c < 1) (hk : e.k = 1) (hc : e.c ≤ 4) :
    Calls Try.prog 13 #[.agg (enA e)] w fun en w' => en = .returned (.bool (rB e)) ∧ Below w.heap.size w w' := by
  have HL := Lib.hid hl
  have hB := below_alloc w (Obj.cells (enA e) 32)
  have hF : Blk (w.alloc (Obj.cells (enA e) 32)) w.heap.size 32 (enA e) := Blk.new _ _ _
  have c0 := (hF.cell 0).trans (enA_at0 e)
  have c1 := (hF.cell 1).trans (enA_at1 e)
  have c2 := (hF.cell 2).trans (enA_at2 e)
  have c3 := (hF.cell 3).trans (enA_at3 e)
  have c4 := (hF.cell 4).trans (enA_at4 e)
  have c5 := (hF.cell 5).trans (enA_at5 e)
  have HB := Lib.hid hB
  have HF := Lib.hid hF
  clear hF hB
  have HR : Hid (rB e = (e.m == 0)) := Lib.hid (by rw [Bool.eq_iff_iff, rB_iff]; simp only [beq_iff_eq]; omega)
  have d0 : decide (e.f < 0) = false := decide_eq_false h0
  have d1 : decide (281474976710655 < e.f) = false := decide_eq_false h1
  have d2 : decide (e.b < 0) = false := decide_eq_false h2
  have d3 : decide (255 < e.b) = false := decide_eq_false h3
  have d4 : decide (e.t < 0) = false := decide_eq_false h4
  have d5 : decide (65535 < e.t) = false := decide_eq_false h5
  have d6 : decide (e.c < 1) = false := decide_eq_false h6
  rw [hk] at c0
  have dc : decide (e.c ≤ 4) = true := decide_eq_true hc
  clear h0 h1 h2 h3 h4 h5 h6
  clear hk hc
  clear hl
  go_enter Try.func13, Try.ntmps13
  go_wp2_with fail
  all_goals (go_ret; exact ⟨ret_bool (by rw [HR.out]; try simp_all), HB.out⟩)

set_option maxRecDepth 100000 in
set_option maxHeartbeats 2000000 in
theorem rright4_k2c (e : EnR) (w : World) (hl : e.y.length = 32) (h0 : ¬ e.f < 0) (h1 : ¬ e.f > 281474976710655) (h2 : ¬ e.b < 0) (h3 : ¬ e.b > 255) (h4 : ¬ e.t < 0) (h5 : ¬ e.t > 65535) (h6 : ¬ e.c < 1) (hk : e.k = 2) (hc : e.c ≠ 1) :
    Calls Try.prog 13 #[.agg (enA e)] w fun en w' => en = .returned (.bool (rB e)) ∧ Below w.heap.size w w' := by
  have HL := Lib.hid hl
  have hB := below_alloc w (Obj.cells (enA e) 32)
  have hF : Blk (w.alloc (Obj.cells (enA e) 32)) w.heap.size 32 (enA e) := Blk.new _ _ _
  have c0 := (hF.cell 0).trans (enA_at0 e)
  have c1 := (hF.cell 1).trans (enA_at1 e)
  have c2 := (hF.cell 2).trans (enA_at2 e)
  have c3 := (hF.cell 3).trans (enA_at3 e)
  have c4 := (hF.cell 4).trans (enA_at4 e)
  have c5 := (hF.cell 5).trans (enA_at5 e)
  have HB := Lib.hid hB
  have HF := Lib.hid hF
  clear hF hB
  have HR : Hid (rB e = false) := Lib.hid (by rw [Bool.eq_false_iff]; intro h; rw [rB_iff] at h; omega)
  have d0 : decide (e.f < 0) = false := decide_eq_false h0
  have d1 : decide (281474976710655 < e.f) = false := decide_eq_false h1
  have d2 : decide (e.b < 0) = false := decide_eq_false h2
  have d3 : decide (255 < e.b) = false := decide_eq_false h3
  have d4 : decide (e.t < 0) = false := decide_eq_false h4
  have d5 : decide (65535 < e.t) = false := decide_eq_false h5
  have d6 : decide (e.c < 1) = false := decide_eq_false h6
  rw [hk] at c0
  have hwr : IntKind.i64.wrap (256 - e.b) = 256 - e.b := by rw [IntKind.wrap_i64]; omega
  have dc : (e.c == 1) = false := by simpa using hc
  clear h0 h1 h2 h3 h4 h5 h6
  clear hk hc
  clear hl
  go_enter Try.func13, Try.ntmps13
  go_wp2_with fail
  all_goals (go_ret; exact ⟨ret_bool (by rw [HR.out]; try simp_all), HB.out⟩)

set_option maxRecDepth 100000 in
set_option maxHeartbeats 2000000 in
theorem rright4_k2m (e : EnR) (w : World) (hl : e.y.length = 32) (h0 : ¬ e.f < 0) (h1 : ¬ e.f > 281474976710655) (h2 : ¬ e.b < 0) (h3 : ¬ e.b > 255) (h4 : ¬ e.t < 0) (h5 : ¬ e.t > 65535) (h6 : ¬ e.c < 1) (hk : e.k = 2) (hc : e.c = 1) (hm : ¬ 1 ≤ e.m) :
    Calls Try.prog 13 #[.agg (enA e)] w fun en w' => en = .returned (.bool (rB e)) ∧ Below w.heap.size w w' := by
  have HL := Lib.hid hl
  have hB := below_alloc w (Obj.cells (enA e) 32)
  have hF : Blk (w.alloc (Obj.cells (enA e) 32)) w.heap.size 32 (enA e) := Blk.new _ _ _
  have c0 := (hF.cell 0).trans (enA_at0 e)
  have c1 := (hF.cell 1).trans (enA_at1 e)
  have c2 := (hF.cell 2).trans (enA_at2 e)
  have c3 := (hF.cell 3).trans (enA_at3 e)
  have c4 := (hF.cell 4).trans (enA_at4 e)
  have c5 := (hF.cell 5).trans (enA_at5 e)
  have HB := Lib.hid hB
  have HF := Lib.hid hF
  clear hF hB
  have HR : Hid (rB e = false) := Lib.hid (by rw [Bool.eq_false_iff]; intro h; rw [rB_iff] at h; omega)
  have d0 : decide (e.f < 0) = false := decide_eq_false h0
  have d1 : decide (281474976710655 < e.f) = false := decide_eq_false h1
  have d2 : decide (e.b < 0) = false := decide_eq_false h2
  have d3 : decide (255 < e.b) = false := decide_eq_false h3
  have d4 : decide (e.t < 0) = false := decide_eq_false h4
  have d5 : decide (65535 < e.t) = false := decide_eq_false h5
  have d6 : decide (e.c < 1) = false := decide_eq_false h6
  rw [hk] at c0
  have hwr : IntKind.i64.wrap (256 - e.b) = 256 - e.b := by rw [IntKind.wrap_i64]; omega
  rw [hc] at c2
  have dm : decide (1 ≤ e.m) = false := decide_eq_false hm
  clear h0 h1 h2 h3 h4 h5 h6
  clear hk hc hm d6
  clear hl
  go_enter Try.func13, Try.ntmps13
  go_wp2_with fail
  all_goals (go_ret; exact ⟨ret_bool (by rw [HR.out]; try simp_all), HB.out⟩)

set_option maxRecDepth 100000 in
set_option maxHeartbeats 2000000 in
theorem rright4_k2n (e : EnR) (w : World) (hl : e.y.length = 32) (h0 : ¬ e.f < 0) (h1 : ¬ e.f > 281474976710655) (h2 : ¬ e.b < 0) (h3 : ¬ e.b > 255) (h4 : ¬ e.t < 0) (h5 : ¬ e.t > 65535) (h6 : ¬ e.c < 1) (hk : e.k = 2) (hc : e.c = 1) (hm : 1 ≤ e.m) (hn : ¬ e.m ≤ 256 - e.b) :
    Calls Try.prog 13 #[.agg (enA e)] w fun en w' => en = .returned (.bool (rB e)) ∧ Below w.heap.size w w' := by
  have HL := Lib.hid hl
  have hB := below_alloc w (Obj.cells (enA e) 32)
  have hF : Blk (w.alloc (Obj.cells (enA e) 32)) w.heap.size 32 (enA e) := Blk.new _ _ _
  have c0 := (hF.cell 0).trans (enA_at0 e)
  have c1 := (hF.cell 1).trans (enA_at1 e)
  have c2 := (hF.cell 2).trans (enA_at2 e)
  have c3 := (hF.cell 3).trans (enA_at3 e)
  have c4 := (hF.cell 4).trans (enA_at4 e)
  have c5 := (hF.cell 5).trans (enA_at5 e)
  have HB := Lib.hid hB
  have HF := Lib.hid hF
  clear hF hB
  have HR : Hid (rB e = false) := Lib.hid (by rw [Bool.eq_false_iff]; intro h; rw [rB_iff] at h; omega)
  have d0 : decide (e.f < 0) = false := decide_eq_false h0
  have d1 : decide (281474976710655 < e.f) = false := decide_eq_false h1
  have d2 : decide (e.b < 0) = false := decide_eq_false h2
  have d3 : decide (255 < e.b) = false := decide_eq_false h3
  have d4 : decide (e.t < 0) = false := decide_eq_false h4
  have d5 : decide (65535 < e.t) = false := decide_eq_false h5
  have d6 : decide (e.c < 1) = false := decide_eq_false h6
  rw [hk] at c0
  have hwr : IntKind.i64.wrap (256 - e.b) = 256 - e.b := by rw [IntKind.wrap_i64]; omega
  rw [hc] at c2
  have dm : decide (1 ≤ e.m) = true := decide_eq_true hm
  have dn : decide (e.m ≤ 256 - e.b) = false := decide_eq_false hn
  clear h0 h1 h2 h3 h4 h5 h6
  clear hk hc hm hn d6
  clear hl
  go_enter Try.func13, Try.ntmps13
  go_wp2_with fail
  all_goals (go_ret; exact ⟨ret_bool (by rw [HR.out]; try simp_all), HB.out⟩)

set_option maxRecDepth 100000 in
set_option maxHeartbeats 2000000 in
theorem rright4_k2y (e : EnR) (w : World) (hl : e.y.length = 32) (h0 : ¬ e.f < 0) (h1 : ¬ e.f > 281474976710655) (h2 : ¬ e.b < 0) (h3 : ¬ e.b > 255) (h4 : ¬ e.t < 0) (h5 : ¬ e.t > 65535) (h6 : ¬ e.c < 1) (hk : e.k = 2) (hc : e.c = 1) (hm : 1 ≤ e.m) (hn : e.m ≤ 256 - e.b) (hy : e.y = zeros 32) :
    Calls Try.prog 13 #[.agg (enA e)] w fun en w' => en = .returned (.bool (rB e)) ∧ Below w.heap.size w w' := by
  have HL := Lib.hid hl
  have hB := below_alloc w (Obj.cells (enA e) 32)
  have hF : Blk (w.alloc (Obj.cells (enA e) 32)) w.heap.size 32 (enA e) := Blk.new _ _ _
  have c0 := (hF.cell 0).trans (enA_at0 e)
  have c1 := (hF.cell 1).trans (enA_at1 e)
  have c2 := (hF.cell 2).trans (enA_at2 e)
  have c3 := (hF.cell 3).trans (enA_at3 e)
  have c4 := (hF.cell 4).trans (enA_at4 e)
  have c5 := (hF.cell 5).trans (enA_at5 e)
  have HB := Lib.hid hB
  have HF := Lib.hid hF
  clear hF hB
  have HR : Hid (rB e = true) := Lib.hid (by rw [rB_iff]; exact ⟨by omega, by omega, by omega, .inr (.inl ⟨hk, hc, by omega, hy⟩)⟩)
  have d0 : decide (e.f < 0) = false := decide_eq_false h0
  have d1 : decide (281474976710655 < e.f) = false := decide_eq_false h1
  have d2 : decide (e.b < 0) = false := decide_eq_false h2
  have d3 : decide (255 < e.b) = false := decide_eq_false h3
  have d4 : decide (e.t < 0) = false := decide_eq_false h4
  have d5 : decide (65535 < e.t) = false := decide_eq_false h5
  have d6 : decide (e.c < 1) = false := decide_eq_false h6
  rw [hk] at c0
  have hwr : IntKind.i64.wrap (256 - e.b) = 256 - e.b := by rw [IntKind.wrap_i64]; omega
  rw [hc] at c2
  have dm : decide (1 ≤ e.m) = true := decide_eq_true hm
  have dn : decide (e.m ≤ 256 - e.b) = true := decide_eq_true hn
  have HY : Hid (decide (e.y = zeros 32) = true) := Lib.hid (decide_eq_true hy)
  clear h0 h1 h2 h3 h4 h5 h6
  clear hk hc hm hn hy d6
  clear hl
  go_enter Try.func13, Try.ntmps13
  go_wp2_with (first | (refine wpl_load_mid (by rfl) 22 _ rfl (w.heap.size) 6 rfl e.y _ (en_range HF.out) Try.underlying22 rfl (info_32_l HL.out) ?_; go_frame) | (refine wpl_build (by rfl) 22 _ rfl (.agg (bA (zeros 32))) (fun _ => by kernel_rfl) ?_; go_frame) | (refine wpl_run (by rfl) (.bool true) (exec_eql_sector ty32 _ _ _ rfl (e.y) (zeros 32) rfl rfl HL.out (zeros_length 32) true HY.out) ?_; go_frame))
  all_goals (go_ret; exact ⟨ret_bool (by rw [HR.out]; try simp_all), HB.out⟩)

set_option maxRecDepth 100000 in
set_option maxHeartbeats 2000000 in
theorem rright4_k2z (e : EnR) (w : World) (hl : e.y.length = 32) (h0 : ¬ e.f < 0) (h1 : ¬ e.f > 281474976710655) (h2 : ¬ e.b < 0) (h3 : ¬ e.b > 255) (h4 : ¬ e.t < 0) (h5 : ¬ e.t > 65535) (h6 : ¬ e.c < 1) (hk : e.k = 2) (hc : e.c = 1) (hm : 1 ≤ e.m) (hn : e.m ≤ 256 - e.b) (hy : ¬ e.y = zeros 32) :
    Calls Try.prog 13 #[.agg (enA e)] w fun en w' => en = .returned (.bool (rB e)) ∧ Below w.heap.size w w' := by
  have HL := Lib.hid hl
  have hB := below_alloc w (Obj.cells (enA e) 32)
  have hF : Blk (w.alloc (Obj.cells (enA e) 32)) w.heap.size 32 (enA e) := Blk.new _ _ _
  have c0 := (hF.cell 0).trans (enA_at0 e)
  have c1 := (hF.cell 1).trans (enA_at1 e)
  have c2 := (hF.cell 2).trans (enA_at2 e)
  have c3 := (hF.cell 3).trans (enA_at3 e)
  have c4 := (hF.cell 4).trans (enA_at4 e)
  have c5 := (hF.cell 5).trans (enA_at5 e)
  have HB := Lib.hid hB
  have HF := Lib.hid hF
  clear hF hB
  have HR : Hid (rB e = false) := Lib.hid (by rw [Bool.eq_false_iff]; intro h; rw [rB_iff] at h; rcases h.2.2.2 with h | h | h <;> first | exact hy h.2.2.2 | omega)
  have d0 : decide (e.f < 0) = false := decide_eq_false h0
  have d1 : decide (281474976710655 < e.f) = false := decide_eq_false h1
  have d2 : decide (e.b < 0) = false := decide_eq_false h2
  have d3 : decide (255 < e.b) = false := decide_eq_false h3
  have d4 : decide (e.t < 0) = false := decide_eq_false h4
  have d5 : decide (65535 < e.t) = false := decide_eq_false h5
  have d6 : decide (e.c < 1) = false := decide_eq_false h6
  rw [hk] at c0
  have hwr : IntKind.i64.wrap (256 - e.b) = 256 - e.b := by rw [IntKind.wrap_i64]; omega
  rw [hc] at c2
  have dm : decide (1 ≤ e.m) = true := decide_eq_true hm
  have dn : decide (e.m ≤ 256 - e.b) = true := decide_eq_true hn
  have HY : Hid (decide (e.y = zeros 32) = false) := Lib.hid (decide_eq_false hy)
  clear h0 h1 h2 h3 h4 h5 h6
  clear hk hc hm hn hy d6
  clear hl
  go_enter Try.func13, Try.ntmps13
  go_wp2_with (first | (refine wpl_load_mid (by rfl) 22 _ rfl (w.heap.size) 6 rfl e.y _ (en_range HF.out) Try.underlying22 rfl (info_32_l HL.out) ?_; go_frame) | (refine wpl_build (by rfl) 22 _ rfl (.agg (bA (zeros 32))) (fun _ => by kernel_rfl) ?_; go_frame) | (refine wpl_run (by rfl) (.bool false) (exec_eql_sector ty32 _ _ _ rfl (e.y) (zeros 32) rfl rfl HL.out (zeros_length 32) false HY.out) ?_; go_frame))
  all_goals (go_ret; exact ⟨ret_bool (by rw [HR.out]; try simp_all), HB.out⟩)

set_option maxRecDepth 100000 in
set_option maxHeartbeats 2000000 in
theorem rright4_k3 (e : EnR) (w : World) (hl : e.y.length = 32) (h0 : ¬ e.f < 0) (h1 : ¬ e.f > 281474976710655) (h2 : ¬ e.b < 0) (h3 : ¬ e.b > 255) (h4 : ¬ e.t < 0) (h5 : ¬ e.t > 65535) (h6 : ¬ e.c < 1) (hk : e.k = 3) :
    Calls Try.prog 13 #[.agg (enA e)] w fun en w' => en = .returned (.bool (rB e)) ∧ Below w.heap.size w w' := by
  have HL := Lib.hid hl
  have hB := below_alloc w (Obj.cells (enA e) 32)
  have hF : Blk (w.alloc (Obj.cells (enA e) 32)) w.heap.size 32 (enA e) := Blk.new _ _ _
  have c0 := (hF.cell 0).trans (enA_at0 e)
  have c1 := (hF.cell 1).trans (enA_at1 e)
  have c2 := (hF.cell 2).trans (enA_at2 e)
  have c3 := (hF.cell 3).trans (enA_at3 e)
  have c4 := (hF.cell 4).trans (enA_at4 e)
  have c5 := (hF.cell 5).trans (enA_at5 e)
  have HB := Lib.hid hB
  have HF := Lib.hid hF
  clear hF hB
  have HR : Hid (rB e = ((e.c == 1) && (e.m == 0))) := Lib.hid (by rw [Bool.eq_iff_iff, rB_iff]; simp only [Bool.and_eq_true, beq_iff_eq]; omega)
  have d0 : decide (e.f < 0) = false := decide_eq_false h0
  have d1 : decide (281474976710655 < e.f) = false := decide_eq_false h1
  have d2 : decide (e.b < 0) = false := decide_eq_false h2
  have d3 : decide (255 < e.b) = false := decide_eq_false h3
  have d4 : decide (e.t < 0) = false := decide_eq_false h4
  have d5 : decide (65535 < e.t) = false := decide_eq_false h5
  have d6 : decide (e.c < 1) = false := decide_eq_false h6
  rw [hk] at c0
  clear h0 h1 h2 h3 h4 h5 h6
  clear hk
  clear hl
  go_enter Try.func13, Try.ntmps13
  go_wp2_with fail
  all_goals (go_ret; exact ⟨ret_bool (by rw [HR.out]; try simp_all), HB.out⟩)

set_option maxRecDepth 100000 in
set_option maxHeartbeats 2000000 in
theorem rright4_k4 (e : EnR) (w : World) (hl : e.y.length = 32) (h0 : ¬ e.f < 0) (h1 : ¬ e.f > 281474976710655) (h2 : ¬ e.b < 0) (h3 : ¬ e.b > 255) (h4 : ¬ e.t < 0) (h5 : ¬ e.t > 65535) (h6 : ¬ e.c < 1) (k1 : e.k ≠ 1) (k2 : e.k ≠ 2) (k3 : e.k ≠ 3) :
    Calls Try.prog 13 #[.agg (enA e)] w fun en w' => en = .returned (.bool (rB e)) ∧ Below w.heap.size w w' := by
  have HL := Lib.hid hl
  have hB := below_alloc w (Obj.cells (enA e) 32)
  have hF : Blk (w.alloc (Obj.cells (enA e) 32)) w.heap.size 32 (enA e) := Blk.new _ _ _
  have c0 := (hF.cell 0).trans (enA_at0 e)
  have c1 := (hF.cell 1).trans (enA_at1 e)
  have c2 := (hF.cell 2).trans (enA_at2 e)
  have c3 := (hF.cell 3).trans (enA_at3 e)
  have c4 := (hF.cell 4).trans (enA_at4 e)
  have c5 := (hF.cell 5).trans (enA_at5 e)
  have HB := Lib.hid hB
  have HF := Lib.hid hF
  clear hF hB
  have HR : Hid (rB e = false) := Lib.hid (by rw [Bool.eq_false_iff]; intro h; rw [rB_iff] at h; omega)
  have d0 : decide (e.f < 0) = false := decide_eq_false h0
  have d1 : decide (281474976710655 < e.f) = false := decide_eq_false h1
  have d2 : decide (e.b < 0) = false := decide_eq_false h2
  have d3 : decide (255 < e.b) = false := decide_eq_false h3
  have d4 : decide (e.t < 0) = false := decide_eq_false h4
  have d5 : decide (65535 < e.t) = false := decide_eq_false h5
  have d6 : decide (e.c < 1) = false := decide_eq_false h6
  have dk1 : (e.k == 1) = false := by simpa using k1
  have dk2 : (e.k == 2) = false := by simpa using k2
  have dk3 : (e.k == 3) = false := by simpa using k3
  clear h0 h1 h2 h3 h4 h5 h6
  clear k1 k2 k3
  clear hl
  go_enter Try.func13, Try.ntmps13
  go_wp2_with fail
  all_goals (go_ret; exact ⟨ret_bool (by rw [HR.out]; try simp_all), HB.out⟩)

theorem rright4_any (e : EnR) (w : World) (hl : e.y.length = 32) :
    Calls Try.prog 13 #[.agg (enA e)] w fun en w' => en = .returned (.bool (rB e)) ∧ Below w.heap.size w w' := by
  by_cases h0 : e.f < 0
  · exact rright4_r0 e w hl h0
  by_cases h1 : e.f > 281474976710655
  · exact rright4_r1 e w hl h0 h1
  by_cases h2 : e.b < 0
  · exact rright4_r2 e w hl h0 h1 h2
  by_cases h3 : e.b > 255
  · exact rright4_r3 e w hl h0 h1 h2 h3
  by_cases h4 : e.t < 0
  · exact rright4_r4 e w hl h0 h1 h2 h3 h4
  by_cases h5 : e.t > 65535
  · exact rright4_r5 e w hl h0 h1 h2 h3 h4 h5
  by_cases h6 : e.c < 1
  · exact rright4_r6 e w hl h0 h1 h2 h3 h4 h5 h6
  by_cases k1 : e.k = 1
  · by_cases hc : e.c ≤ 4
    · exact rright4_k1b e w hl h0 h1 h2 h3 h4 h5 h6 k1 hc
    · exact rright4_k1a e w hl h0 h1 h2 h3 h4 h5 h6 k1 hc
  by_cases k2 : e.k = 2
  · by_cases hc : e.c = 1
    · by_cases hm : 1 ≤ e.m
      · by_cases hn : e.m ≤ 256 - e.b
        · by_cases hy : e.y = zeros 32
          · exact rright4_k2y e w hl h0 h1 h2 h3 h4 h5 h6 k2 hc hm hn hy
          · exact rright4_k2z e w hl h0 h1 h2 h3 h4 h5 h6 k2 hc hm hn hy
        · exact rright4_k2n e w hl h0 h1 h2 h3 h4 h5 h6 k2 hc hm hn
      · exact rright4_k2m e w hl h0 h1 h2 h3 h4 h5 h6 k2 hc hm
    · exact rright4_k2c e w hl h0 h1 h2 h3 h4 h5 h6 k2 hc
  by_cases k3 : e.k = 3
  · exact rright4_k3 e w hl h0 h1 h2 h3 h4 h5 h6 k3
  · exact rright4_k4 e w hl h0 h1 h2 h3 h4 h5 h6 k1 k2 k3

set_option maxRecDepth 100000 in
set_option maxHeartbeats 2000000 in
theorem of_any (e : EnR) (w : World) (hl : e.y.length = 32) :
    Calls Try.prog 12 #[.agg (enA e)] w fun en w' => en = .returned (.agg (enA e)) ∧ Below w.heap.size w w' := by
  obtain ⟨ek, ef, ec, eb, em, et, y⟩ := e
  simp only at hl
  obtain ⟨g, rfl⟩ := list_as hl
  generalize he : (⟨ek, ef, ec, eb, em, et, (List.range 32).map g⟩ : EnR) = e at *
  have h0 : e.k = ek := by rw [← he]
  have h1 : e.f = ef := by rw [← he]
  have h2 : e.c = ec := by rw [← he]
  have h3 : e.b = eb := by rw [← he]
  have h4 : e.m = em := by rw [← he]
  have h5 : e.t = et := by rw [← he]
  have h6 : e.y = (List.range 32).map g := by rw [← he]
  have hL : e.y.length = 32 := by rw [h6]; exact hl
  have hX : Blk ((w.alloc (Obj.cells (enA e) 25)).alloc (Obj.cells (enA en0) 32)) w.heap.size 25 (enA e) := Blk.alloc (Blk.new w 25 (enA e)) _
  have hO : Blk ((w.alloc (Obj.cells (enA e) 25)).alloc (Obj.cells (enA en0) 32)) (w.heap.size + 1) 32 (enA en0) := by
    have h := Blk.new (w.alloc (Obj.cells (enA e) 25)) 32 (enA en0)
    rwa [show (w.alloc (Obj.cells (enA e) 25)).heap.size = w.heap.size + 1 by simp] at h
  have HB : Hid (Below w.heap.size w ((w.alloc (Obj.cells (enA e) 25)).alloc (Obj.cells (enA en0) 32))) := Lib.hid (bthen (below_alloc _ _) (below_alloc _ _))
  have c0 := (hX.cell 0).trans (enA_at0 e)
  rw [h0] at c0
  have c1 := (hX.cell 1).trans (enA_at1 e)
  rw [h1] at c1
  have c2 := (hX.cell 2).trans (enA_at2 e)
  rw [h2] at c2
  have c3 := (hX.cell 3).trans (enA_at3 e)
  rw [h3] at c3
  have c4 := (hX.cell 4).trans (enA_at4 e)
  rw [h4] at c4
  have c5 := (hX.cell 5).trans (enA_at5 e)
  rw [h5] at c5
  have HR : Hid (((w.alloc (Obj.cells (enA e) 25)).alloc (Obj.cells (enA en0) 32)).rangeAt w.heap.size 6 (bvals ((List.range 32).map g))) := Lib.hid (h6 ▸ en_range hX)
  have HO := Lib.hid hO
  have HE := Lib.hid he
  have HL := Lib.hid hL
  have Hl := Lib.hid hl
  have hz := zero_e4
  clear hX hO he hL hl h0 h1 h2 h3 h4 h5 h6
  go_enter Try.func12, Try.ntmps12
  go_wp2_with (first | (refine wpl_load_mid (by rfl) 23 _ rfl (w.heap.size) 6 rfl ((List.range 32).map g) _ HR.out Try.underlying23 rfl (info_block_l Hl.out) ?_; go_frame) | (refine wpl_build (by rfl) 32 _ rfl (.agg (enA ⟨ek, ef, ec, eb, em, et, (List.range 32).map g⟩)) (fun _ => by kernel_rfl) ?_; rw [HE.out]; go_frame) | (refine wpl_store rfl _ _ rfl (w.heap.size + 1) (enA e) rfl rfl _ _ HO.out (info_e4A HL.out) ((enA_size en0_len).trans (enA_size HL.out).symm) enA_one ?_; intro w9 hS9 hK9; have HS9 := Lib.hid hS9; have HK9 := Lib.hid hK9; clear hS9 hK9; go_frame))
  exact bodyPost_ret (v := .agg (enA e)) (results_cell_row Try.results12 _ _ (w.heap.size + 1) _ _ (0, 0) _ rfl HS9.out Try.underlying32 rfl (info_e4A HL.out)) rfl ⟨rfl, bkept HB.out (Nat.le_refl _) HK9.out (fun i hi h => by omega)⟩

end Go.Proofs.Ytdjnfikacjfkkaa
