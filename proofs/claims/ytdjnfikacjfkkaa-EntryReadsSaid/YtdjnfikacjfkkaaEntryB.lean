/-
  Contracts of layer 4 (entry), first part: within, fitsKind, Right, the document's Right, and the laws' of.
-/
import Derived.Test.YtdjnfikacjfkkaaEntryA
namespace Go.Proofs.Ytdjnfikacjfkkaa
open Go.RowKit CrcM
set_option linter.unusedVariables false
set_option linter.unnecessarySimpa false
set_option linter.unusedSimpArgs false

theorem ewithin_any (v a b : Int) (w : World) :
    Calls Try.prog 22 #[.int .i64 v, .int .i64 a, .int .i64 b] w fun e w' => e = .returned (.bool (wB v a b)) ∧ w = w' := by
  by_cases h : a ≤ v
  · have d0 : decide (a ≤ v) = true := decide_eq_true h
    have H := Lib.hid (show decide (v ≤ b) = wB v a b by unfold wB; rw [d0]; rfl)
    go_enter Try.func22, Try.ntmps22
    go_wp2_with fail
    go_ret
    exact ⟨ret_bool H.out, rfl⟩
  · have d0 : decide (a ≤ v) = false := decide_eq_false h
    have H := Lib.hid (show false = wB v a b by unfold wB; rw [d0]; rfl)
    go_enter Try.func22, Try.ntmps22
    go_wp2_with fail
    go_ret
    exact ⟨ret_bool H.out, rfl⟩

/-- Has an entry what its kind has? -/
def kindB (e : EnR) : Bool :=
  if e.k = 1 then wB e.c 1 4 && decide (e.m = 0)
  else if e.k = 2 then decide (e.c = 1) && wB e.m 1 (256 - e.b) && decide (e.y = zeros 32)
  else if e.k = 3 then decide (e.c = 1) && decide (e.m = 0)
  else false

/-- May an entry be? -/
def rB (e : EnR) : Bool := wB e.f 0 281474976710655 && wB e.b 0 255 && wB e.t 0 65535 && kindB e

theorem wB_iff (v a b : Int) : wB v a b = true ↔ a ≤ v ∧ v ≤ b := by simp [wB]

theorem rB_iff (e : EnR) : rB e = true ↔ (0 ≤ e.f ∧ e.f ≤ 281474976710655) ∧ (0 ≤ e.b ∧ e.b ≤ 255) ∧ (0 ≤ e.t ∧ e.t ≤ 65535) ∧
    ((e.k = 1 ∧ (1 ≤ e.c ∧ e.c ≤ 4) ∧ e.m = 0) ∨ (e.k = 2 ∧ e.c = 1 ∧ (1 ≤ e.m ∧ e.m ≤ 256 - e.b) ∧ e.y = zeros 32) ∨ (e.k = 3 ∧ e.c = 1 ∧ e.m = 0)) := by
  unfold rB kindB
  by_cases h1 : e.k = 1
  · simp [h1, wB_iff, and_assoc]
  · by_cases h2 : e.k = 2
    · simp [h2, wB_iff, and_assoc]
    · by_cases h3 : e.k = 3
      · simp [h3, wB_iff, and_assoc]
      · simp [h1, h2, h3]

set_option maxRecDepth 100000 in
set_option maxHeartbeats 2000000 in
theorem fits_1 (e : EnR) (w : World) (hl : e.y.length = 32) (hb : 0 ≤ e.b ∧ e.b ≤ 255) (hk : e.k = 1) :
    Calls Try.prog 23 #[.agg (enA e)] w fun en w' => en = .returned (.bool (kindB e)) ∧ Below w.heap.size w w' := by
  have HL := Lib.hid hl
  have hB := below_alloc w (Obj.cells (enA e) 25)
  have hF : Blk (w.alloc (Obj.cells (enA e) 25)) w.heap.size 25 (enA e) := Blk.new _ _ _
  have c0 := (hF.cell 0).trans (enA_at0 e)
  have c1 := (hF.cell 1).trans (enA_at1 e)
  have c2 := (hF.cell 2).trans (enA_at2 e)
  have c3 := (hF.cell 3).trans (enA_at3 e)
  have c4 := (hF.cell 4).trans (enA_at4 e)
  have c5 := (hF.cell 5).trans (enA_at5 e)
  have HB := Lib.hid hB
  have HF := Lib.hid hF
  clear hF hB
  have HK : Hid (kindB e = (wB e.c 1 4 && (e.m == 0))) := Lib.hid (by unfold kindB; rw [if_pos hk]; rfl)
  rw [hk] at c0
  clear hk hl hb
  go_enter Try.func23, Try.ntmps23
  go_wp2_with (first | (go_at_call 22; refine (ewithin_any _ _ _ _).mono ?_; rintro e' w' ⟨rfl, rfl⟩))
  all_goals (go_ret; exact ⟨ret_bool (by rw [HK.out]; simp_all), HB.out⟩)
set_option maxRecDepth 100000 in
set_option maxHeartbeats 2000000 in
theorem fits_2c (e : EnR) (w : World) (hl : e.y.length = 32) (hb : 0 ≤ e.b ∧ e.b ≤ 255) (hk : e.k = 2) (hc : e.c ≠ 1) :
    Calls Try.prog 23 #[.agg (enA e)] w fun en w' => en = .returned (.bool (kindB e)) ∧ Below w.heap.size w w' := by
  have HL := Lib.hid hl
  have hB := below_alloc w (Obj.cells (enA e) 25)
  have hF : Blk (w.alloc (Obj.cells (enA e) 25)) w.heap.size 25 (enA e) := Blk.new _ _ _
  have c0 := (hF.cell 0).trans (enA_at0 e)
  have c1 := (hF.cell 1).trans (enA_at1 e)
  have c2 := (hF.cell 2).trans (enA_at2 e)
  have c3 := (hF.cell 3).trans (enA_at3 e)
  have c4 := (hF.cell 4).trans (enA_at4 e)
  have c5 := (hF.cell 5).trans (enA_at5 e)
  have HB := Lib.hid hB
  have HF := Lib.hid hF
  clear hF hB
  have HK : Hid (kindB e = false) := Lib.hid (by
    unfold kindB; rw [if_neg (by rw [hk]; decide), if_pos hk]; simp [hc])
  rw [hk] at c0
  have hwr : IntKind.i64.wrap (256 - e.b) = 256 - e.b := by rw [IntKind.wrap_i64]; omega
  have d0 : (e.c == 1) = false := by simpa using hc
  clear hk hl hb hwr hc
  go_enter Try.func23, Try.ntmps23
  go_wp2_with (first | (go_at_call 22; refine (ewithin_any _ _ _ _).mono ?_; rintro e' w' ⟨rfl, rfl⟩))
  all_goals (go_ret; exact ⟨ret_bool (by rw [HK.out]), HB.out⟩)
set_option maxRecDepth 100000 in
set_option maxHeartbeats 2000000 in
theorem fits_2m (e : EnR) (w : World) (hl : e.y.length = 32) (hb : 0 ≤ e.b ∧ e.b ≤ 255) (hk : e.k = 2) (hc : e.c = 1) (hm : wB e.m 1 (256 - e.b) = false) :
    Calls Try.prog 23 #[.agg (enA e)] w fun en w' => en = .returned (.bool (kindB e)) ∧ Below w.heap.size w w' := by
  have HL := Lib.hid hl
  have hB := below_alloc w (Obj.cells (enA e) 25)
  have hF : Blk (w.alloc (Obj.cells (enA e) 25)) w.heap.size 25 (enA e) := Blk.new _ _ _
  have c0 := (hF.cell 0).trans (enA_at0 e)
  have c1 := (hF.cell 1).trans (enA_at1 e)
  have c2 := (hF.cell 2).trans (enA_at2 e)
  have c3 := (hF.cell 3).trans (enA_at3 e)
  have c4 := (hF.cell 4).trans (enA_at4 e)
  have c5 := (hF.cell 5).trans (enA_at5 e)
  have HB := Lib.hid hB
  have HF := Lib.hid hF
  clear hF hB
  have HK : Hid (kindB e = false) := Lib.hid (by
    unfold kindB; rw [if_neg (by rw [hk]; decide), if_pos hk]; simp [hm])
  rw [hk] at c0
  have hwr : IntKind.i64.wrap (256 - e.b) = 256 - e.b := by rw [IntKind.wrap_i64]; omega
  rw [hc] at c2
  clear hk hl hb hc
  go_enter Try.func23, Try.ntmps23
  go_wp2_with (first | (go_at_call 22; refine (ewithin_any _ _ _ _).mono ?_; rintro e' w' ⟨rfl, rfl⟩))
  all_goals (go_ret; exact ⟨ret_bool (by rw [HK.out]), HB.out⟩)
set_option maxRecDepth 100000 in
set_option maxHeartbeats 2000000 in
theorem fits_2y (e : EnR) (w : World) (hl : e.y.length = 32) (hb : 0 ≤ e.b ∧ e.b ≤ 255) (hk : e.k = 2) (hc : e.c = 1) (hm : wB e.m 1 (256 - e.b) = true) (hy : e.y = zeros 32) :
    Calls Try.prog 23 #[.agg (enA e)] w fun en w' => en = .returned (.bool (kindB e)) ∧ Below w.heap.size w w' := by
  have HL := Lib.hid hl
  have hB := below_alloc w (Obj.cells (enA e) 25)
  have hF : Blk (w.alloc (Obj.cells (enA e) 25)) w.heap.size 25 (enA e) := Blk.new _ _ _
  have c0 := (hF.cell 0).trans (enA_at0 e)
  have c1 := (hF.cell 1).trans (enA_at1 e)
  have c2 := (hF.cell 2).trans (enA_at2 e)
  have c3 := (hF.cell 3).trans (enA_at3 e)
  have c4 := (hF.cell 4).trans (enA_at4 e)
  have c5 := (hF.cell 5).trans (enA_at5 e)
  have HB := Lib.hid hB
  have HF := Lib.hid hF
  clear hF hB
  have HK : Hid (kindB e = true) := Lib.hid (by
    unfold kindB; rw [if_neg (by rw [hk]; decide), if_pos hk]; simp [hm, hc, hy])
  rw [hk] at c0
  have hwr : IntKind.i64.wrap (256 - e.b) = 256 - e.b := by rw [IntKind.wrap_i64]; omega
  rw [hc] at c2
  have HY : Hid (decide (e.y = zeros 32) = true) := Lib.hid (decide_eq_true hy)
  clear hk hl hb hc hy
  go_enter Try.func23, Try.ntmps23
  go_wp2_with (first | (go_at_call 22; refine (ewithin_any _ _ _ _).mono ?_; rintro e' w' ⟨rfl, rfl⟩) | (refine wpl_load_mid (by rfl) 23 _ rfl (w.heap.size) 6 rfl e.y _ (en_range HF.out) Try.underlying23 rfl (info_block_l HL.out) ?_; go_frame) | (refine wpl_build (by rfl) 23 _ rfl (.agg (bA (zeros 32))) (fun _ => by kernel_rfl) ?_; go_frame) | (refine wpl_run (by rfl) (.bool true) (exec_eql_sector tyBlock _ _ _ rfl (e.y) (zeros 32) rfl rfl HL.out (zeros_length 32) true HY.out) ?_; go_frame))
  all_goals (go_ret; exact ⟨ret_bool (by rw [HK.out]), HB.out⟩)
set_option maxRecDepth 100000 in
set_option maxHeartbeats 2000000 in
theorem fits_2n (e : EnR) (w : World) (hl : e.y.length = 32) (hb : 0 ≤ e.b ∧ e.b ≤ 255) (hk : e.k = 2) (hc : e.c = 1) (hm : wB e.m 1 (256 - e.b) = true) (hy : e.y ≠ zeros 32) :
    Calls Try.prog 23 #[.agg (enA e)] w fun en w' => en = .returned (.bool (kindB e)) ∧ Below w.heap.size w w' := by
  have HL := Lib.hid hl
  have hB := below_alloc w (Obj.cells (enA e) 25)
  have hF : Blk (w.alloc (Obj.cells (enA e) 25)) w.heap.size 25 (enA e) := Blk.new _ _ _
  have c0 := (hF.cell 0).trans (enA_at0 e)
  have c1 := (hF.cell 1).trans (enA_at1 e)
  have c2 := (hF.cell 2).trans (enA_at2 e)
  have c3 := (hF.cell 3).trans (enA_at3 e)
  have c4 := (hF.cell 4).trans (enA_at4 e)
  have c5 := (hF.cell 5).trans (enA_at5 e)
  have HB := Lib.hid hB
  have HF := Lib.hid hF
  clear hF hB
  have HK : Hid (kindB e = false) := Lib.hid (by
    unfold kindB; rw [if_neg (by rw [hk]; decide), if_pos hk]; simp [hm, hc, hy])
  rw [hk] at c0
  have hwr : IntKind.i64.wrap (256 - e.b) = 256 - e.b := by rw [IntKind.wrap_i64]; omega
  rw [hc] at c2
  have HY : Hid (decide (e.y = zeros 32) = false) := Lib.hid (decide_eq_false hy)
  clear hk hl hb hc hy
  go_enter Try.func23, Try.ntmps23
  go_wp2_with (first | (go_at_call 22; refine (ewithin_any _ _ _ _).mono ?_; rintro e' w' ⟨rfl, rfl⟩) | (refine wpl_load_mid (by rfl) 23 _ rfl (w.heap.size) 6 rfl e.y _ (en_range HF.out) Try.underlying23 rfl (info_block_l HL.out) ?_; go_frame) | (refine wpl_build (by rfl) 23 _ rfl (.agg (bA (zeros 32))) (fun _ => by kernel_rfl) ?_; go_frame) | (refine wpl_run (by rfl) (.bool false) (exec_eql_sector tyBlock _ _ _ rfl (e.y) (zeros 32) rfl rfl HL.out (zeros_length 32) false HY.out) ?_; go_frame))
  all_goals (go_ret; exact ⟨ret_bool (by rw [HK.out]), HB.out⟩)
set_option maxRecDepth 100000 in
set_option maxHeartbeats 2000000 in
theorem fits_3 (e : EnR) (w : World) (hl : e.y.length = 32) (hb : 0 ≤ e.b ∧ e.b ≤ 255) (hk : e.k = 3) :
    Calls Try.prog 23 #[.agg (enA e)] w fun en w' => en = .returned (.bool (kindB e)) ∧ Below w.heap.size w w' := by
  have HL := Lib.hid hl
  have hB := below_alloc w (Obj.cells (enA e) 25)
  have hF : Blk (w.alloc (Obj.cells (enA e) 25)) w.heap.size 25 (enA e) := Blk.new _ _ _
  have c0 := (hF.cell 0).trans (enA_at0 e)
  have c1 := (hF.cell 1).trans (enA_at1 e)
  have c2 := (hF.cell 2).trans (enA_at2 e)
  have c3 := (hF.cell 3).trans (enA_at3 e)
  have c4 := (hF.cell 4).trans (enA_at4 e)
  have c5 := (hF.cell 5).trans (enA_at5 e)
  have HB := Lib.hid hB
  have HF := Lib.hid hF
  clear hF hB
  have HK : Hid (kindB e = ((e.c == 1) && (e.m == 0))) := Lib.hid (by unfold kindB; rw [if_neg (by rw [hk]; decide), if_neg (by rw [hk]; decide), if_pos hk]; rfl)
  rw [hk] at c0
  clear hk hl hb
  go_enter Try.func23, Try.ntmps23
  go_wp2_with (first | (go_at_call 22; refine (ewithin_any _ _ _ _).mono ?_; rintro e' w' ⟨rfl, rfl⟩))
  all_goals (go_ret; exact ⟨ret_bool (by rw [HK.out]; simp_all), HB.out⟩)
set_option maxRecDepth 100000 in
set_option maxHeartbeats 2000000 in
theorem fits_4 (e : EnR) (w : World) (hl : e.y.length = 32) (hb : 0 ≤ e.b ∧ e.b ≤ 255) (h1 : e.k ≠ 1) (h2 : e.k ≠ 2) (h3 : e.k ≠ 3) :
    Calls Try.prog 23 #[.agg (enA e)] w fun en w' => en = .returned (.bool (kindB e)) ∧ Below w.heap.size w w' := by
  have HL := Lib.hid hl
  have hB := below_alloc w (Obj.cells (enA e) 25)
  have hF : Blk (w.alloc (Obj.cells (enA e) 25)) w.heap.size 25 (enA e) := Blk.new _ _ _
  have c0 := (hF.cell 0).trans (enA_at0 e)
  have c1 := (hF.cell 1).trans (enA_at1 e)
  have c2 := (hF.cell 2).trans (enA_at2 e)
  have c3 := (hF.cell 3).trans (enA_at3 e)
  have c4 := (hF.cell 4).trans (enA_at4 e)
  have c5 := (hF.cell 5).trans (enA_at5 e)
  have HB := Lib.hid hB
  have HF := Lib.hid hF
  clear hF hB
  have HK : Hid (kindB e = false) := Lib.hid (by unfold kindB; rw [if_neg h1, if_neg h2, if_neg h3])
  have d1 : (e.k == 1) = false := by simpa using h1
  have d2 : (e.k == 2) = false := by simpa using h2
  have d3 : (e.k == 3) = false := by simpa using h3
  clear h1 h2 h3 hl hb
  go_enter Try.func23, Try.ntmps23
  go_wp2_with (first | (go_at_call 22; refine (ewithin_any _ _ _ _).mono ?_; rintro e' w' ⟨rfl, rfl⟩))
  all_goals (go_ret; exact ⟨ret_bool (by rw [HK.out]), HB.out⟩)
theorem fits_kind (e : EnR) (w : World) (hl : e.y.length = 32) (hb : 0 ≤ e.b ∧ e.b ≤ 255) :
    Calls Try.prog 23 #[.agg (enA e)] w fun en w' => en = .returned (.bool (kindB e)) ∧ Below w.heap.size w w' := by
  by_cases h1 : e.k = 1
  · exact fits_1 e w hl hb h1
  · by_cases h2 : e.k = 2
    · by_cases hc : e.c = 1
      · cases hm : wB e.m 1 (256 - e.b) with
        | false => exact fits_2m e w hl hb h2 hc hm
        | true =>
          by_cases hy : e.y = zeros 32
          · exact fits_2y e w hl hb h2 hc hm hy
          · exact fits_2n e w hl hb h2 hc hm hy
      · exact fits_2c e w hl hb h2 hc
    · by_cases h3 : e.k = 3
      · exact fits_3 e w hl hb h3
      · exact fits_4 e w hl hb h1 h2 h3

set_option maxRecDepth 100000 in
set_option maxHeartbeats 2000000 in
theorem eright_f0 (e : EnR) (w : World) (hl : e.y.length = 32) (h0 : wB e.f 0 281474976710655 = false) :
    Calls Try.prog 11 #[.agg (enA e)] w fun en w' => en = .returned (.bool (rB e)) ∧ Below w.heap.size w w' := by
  have HL := Lib.hid hl
  have hB := below_alloc w (Obj.cells (enA e) 25)
  have hF : Blk (w.alloc (Obj.cells (enA e) 25)) w.heap.size 25 (enA e) := Blk.new _ _ _
  have c0 := (hF.cell 0).trans (enA_at0 e)
  have c1 := (hF.cell 1).trans (enA_at1 e)
  have c2 := (hF.cell 2).trans (enA_at2 e)
  have c3 := (hF.cell 3).trans (enA_at3 e)
  have c4 := (hF.cell 4).trans (enA_at4 e)
  have c5 := (hF.cell 5).trans (enA_at5 e)
  have HB := Lib.hid hB
  have HF := Lib.hid hF
  clear hF hB
  have HR : Hid (rB e = false) := Lib.hid (by unfold rB; rw [h0]; rfl)
  clear hl
  go_enter Try.func11, Try.ntmps11
  go_wp2_with (first | (go_at_call 22; refine (ewithin_any _ _ _ _).mono ?_; rintro e' w' ⟨rfl, rfl⟩))
  go_ret
  exact ⟨ret_bool (by rw [HR.out]), HB.out⟩

set_option maxRecDepth 100000 in
set_option maxHeartbeats 2000000 in
theorem eright_f1 (e : EnR) (w : World) (hl : e.y.length = 32) (h0 : wB e.f 0 281474976710655 = true) (h1 : wB e.b 0 255 = false) :
    Calls Try.prog 11 #[.agg (enA e)] w fun en w' => en = .returned (.bool (rB e)) ∧ Below w.heap.size w w' := by
  have HL := Lib.hid hl
  have hB := below_alloc w (Obj.cells (enA e) 25)
  have hF : Blk (w.alloc (Obj.cells (enA e) 25)) w.heap.size 25 (enA e) := Blk.new _ _ _
  have c0 := (hF.cell 0).trans (enA_at0 e)
  have c1 := (hF.cell 1).trans (enA_at1 e)
  have c2 := (hF.cell 2).trans (enA_at2 e)
  have c3 := (hF.cell 3).trans (enA_at3 e)
  have c4 := (hF.cell 4).trans (enA_at4 e)
  have c5 := (hF.cell 5).trans (enA_at5 e)
  have HB := Lib.hid hB
  have HF := Lib.hid hF
  clear hF hB
  have HR : Hid (rB e = false) := Lib.hid (by unfold rB; rw [h0, h1]; rfl)
  clear hl
  go_enter Try.func11, Try.ntmps11
  go_wp2_with (first | (go_at_call 22; refine (ewithin_any _ _ _ _).mono ?_; rintro e' w' ⟨rfl, rfl⟩))
  go_ret
  exact ⟨ret_bool (by rw [HR.out]), HB.out⟩

set_option maxRecDepth 100000 in
set_option maxHeartbeats 2000000 in
theorem eright_f2 (e : EnR) (w : World) (hl : e.y.length = 32) (h0 : wB e.f 0 281474976710655 = true) (h1 : wB e.b 0 255 = true) (h2 : wB e.t 0 65535 = false) :
    Calls Try.prog 11 #[.agg (enA e)] w fun en w' => en = .returned (.bool (rB e)) ∧ Below w.heap.size w w' := by
  have HL := Lib.hid hl
  have hB := below_alloc w (Obj.cells (enA e) 25)
  have hF : Blk (w.alloc (Obj.cells (enA e) 25)) w.heap.size 25 (enA e) := Blk.new _ _ _
  have c0 := (hF.cell 0).trans (enA_at0 e)
  have c1 := (hF.cell 1).trans (enA_at1 e)
  have c2 := (hF.cell 2).trans (enA_at2 e)
  have c3 := (hF.cell 3).trans (enA_at3 e)
  have c4 := (hF.cell 4).trans (enA_at4 e)
  have c5 := (hF.cell 5).trans (enA_at5 e)
  have HB := Lib.hid hB
  have HF := Lib.hid hF
  clear hF hB
  have HR : Hid (rB e = false) := Lib.hid (by unfold rB; rw [h0, h1, h2]; rfl)
  clear hl
  go_enter Try.func11, Try.ntmps11
  go_wp2_with (first | (go_at_call 22; refine (ewithin_any _ _ _ _).mono ?_; rintro e' w' ⟨rfl, rfl⟩))
  go_ret
  exact ⟨ret_bool (by rw [HR.out]), HB.out⟩

set_option maxRecDepth 100000 in
set_option maxHeartbeats 2000000 in
theorem eright_t (e : EnR) (w : World) (hl : e.y.length = 32) (h1 : wB e.f 0 281474976710655 = true) (h2 : wB e.b 0 255 = true) (h3 : wB e.t 0 65535 = true) :
    Calls Try.prog 11 #[.agg (enA e)] w fun en w' => en = .returned (.bool (rB e)) ∧ Below w.heap.size w w' := by
  have HL := Lib.hid hl
  have hB := below_alloc w (Obj.cells (enA e) 25)
  have hF : Blk (w.alloc (Obj.cells (enA e) 25)) w.heap.size 25 (enA e) := Blk.new _ _ _
  have c0 := (hF.cell 0).trans (enA_at0 e)
  have c1 := (hF.cell 1).trans (enA_at1 e)
  have c2 := (hF.cell 2).trans (enA_at2 e)
  have c3 := (hF.cell 3).trans (enA_at3 e)
  have c4 := (hF.cell 4).trans (enA_at4 e)
  have c5 := (hF.cell 5).trans (enA_at5 e)
  have HB := Lib.hid hB
  have HF := Lib.hid hF
  clear hF hB
  have HR : Hid (kindB e = rB e) := Lib.hid (by unfold rB; rw [h1, h2, h3]; rfl)
  have Hb := Lib.hid ((wB_iff _ _ _).1 h2)
  clear hl
  go_enter Try.func11, Try.ntmps11
  go_wp2_with (first | (go_at_call 22; refine (ewithin_any _ _ _ _).mono ?_; rintro e' w' ⟨rfl, rfl⟩) | (refine wpl_load_g (by rfl) _ rfl (w.heap.size) rfl _ _ _ HF.out Try.underlying25 rfl (info_enA HL.out) ?_; go_frame))
  refine (fits_kind e _ HL.out Hb.out).mono ?_
  rintro en w1 ⟨rfl, hb1⟩
  rw [HR.out]
  go_wp2_with fail
  go_ret
  exact ⟨rfl, bthen HB.out hb1⟩

theorem eright_any (e : EnR) (w : World) (hl : e.y.length = 32) :
    Calls Try.prog 11 #[.agg (enA e)] w fun en w' => en = .returned (.bool (rB e)) ∧ Below w.heap.size w w' := by
  cases h0 : wB e.f 0 281474976710655 with
  | false => exact eright_f0 e w hl h0
  | true =>
    cases h1 : wB e.b 0 255 with
    | false => exact eright_f1 e w hl h0 h1
    | true =>
      cases h2 : wB e.t 0 65535 with
      | false => exact eright_f2 e w hl h0 h1 h2
      | true => exact eright_t e w hl h0 h1 h2

end Go.Proofs.Ytdjnfikacjfkkaa
