/-
  Contracts of layer 4 (entry), fourth part: said.
-/
import Derived.Test.YtdjnfikacjfkkaaEntryD
namespace Go.Proofs.Ytdjnfikacjfkkaa
open Go.RowKit CrcM
set_option linter.unusedVariables false
set_option linter.unnecessarySimpa false
set_option linter.unusedSimpArgs false

/-- What a body says of that which its kind has. -/
def sd (k : Int) (bs : List Nat) : EnR := ⟨k, (num ((bs.drop 0).take 6) : Nat), (num ((bs.drop 6).take 1) : Nat), (num ((bs.drop 7).take 1) : Nat), if k = 2 then (num ((bs.drop 8).take 2) : Nat) else 0, (num ((bs.drop 10).take 2) : Nat), if k = 2 then zeros 32 else (bs.drop 12).take 32⟩
theorem sd_trim (bs : List Nat) : sd 2 bs = ⟨2, (num ((bs.drop 0).take 6) : Nat), (num ((bs.drop 6).take 1) : Nat), (num ((bs.drop 7).take 1) : Nat), (num ((bs.drop 8).take 2) : Nat), (num ((bs.drop 10).take 2) : Nat), zeros 32⟩ := rfl
theorem sd_other {k : Int} (h : k ≠ 2) (bs : List Nat) : sd k bs = ⟨k, (num ((bs.drop 0).take 6) : Nat), (num ((bs.drop 6).take 1) : Nat), (num ((bs.drop 7).take 1) : Nat), 0, (num ((bs.drop 10).take 2) : Nat), (bs.drop 12).take 32⟩ := by unfold sd; rw [if_neg h, if_neg h]
theorem sd_len {k : Int} {bs : List Nat} (h : bs.length = 44) : (sd k bs).y.length = 32 := by
  unfold sd; simp only; split
  · exact zeros_length 32
  · simp [h]
theorem sd_lt {k : Int} {bs : List Nat} (h : ∀ c ∈ bs, c < 256) : ∀ c ∈ (sd k bs).y, c < 256 := by
  unfold sd; simp only; split
  · exact zeros_lt 32
  · exact fun c hc => h c (List.mem_of_mem_drop (List.mem_of_mem_take hc))

theorem enA_set0 (e : EnR) (x : Int) : (enA e).setIfInBounds 0 (.int .i64 x) = enA { e with k := x } := by simp [enA, mixA, mixL, enZ]
theorem enA_set1 (e : EnR) (x : Int) : (enA e).setIfInBounds 1 (.int .i64 x) = enA { e with f := x } := by simp [enA, mixA, mixL, enZ]
theorem enA_set2 (e : EnR) (x : Int) : (enA e).setIfInBounds 2 (.int .i64 x) = enA { e with c := x } := by simp [enA, mixA, mixL, enZ]
theorem enA_set3 (e : EnR) (x : Int) : (enA e).setIfInBounds 3 (.int .i64 x) = enA { e with b := x } := by simp [enA, mixA, mixL, enZ]
theorem enA_set4 (e : EnR) (x : Int) : (enA e).setIfInBounds 4 (.int .i64 x) = enA { e with m := x } := by simp [enA, mixA, mixL, enZ]
theorem enA_set5 (e : EnR) (x : Int) : (enA e).setIfInBounds 5 (.int .i64 x) = enA { e with t := x } := by simp [enA, mixA, mixL, enZ]
theorem enA_body (e : EnR) (xs : List Nat) (hf : e.y.length = 32) (hx : xs.length = 32) : (splice (mixL (enZ e) e.y) 6 (bvals xs)).toArray = enA { e with y := xs } := by
  unfold splice enA mixA mixL
  rw [List.take_append_of_le_length (by simp [enZ]), List.drop_of_length_le (by simp [bvals_length, enZ, hf, hx])]
  simp [enZ]

/-- What said tells. -/
def SaidP (e : EnR) (w : World) (en : Ending) (w' : World) : Prop := en = .returned (.agg (enA e)) ∧ Below w.heap.size w w'

set_option maxRecDepth 100000 in
set_option maxHeartbeats 4000000 in
theorem said_trim (bs : List Nat) (w : World) (hl : bs.length = 44) (hb : ∀ c ∈ bs, c < 256) :
    Calls Try.prog 24 #[.int .i64 2, .agg (bA bs)] w (SaidP (sd 2 bs) w) := by
  have HL := Lib.hid hl
  have Hb := Lib.hid hb
  have hz := zero_en
  have hX0 : Blk ((w.alloc (Obj.cells (bA bs) 26)).alloc (Obj.cells (enA en0) 25)) w.heap.size 26 (bA bs) := Blk.alloc (Blk.new w 26 (bA bs)) _
  have HR := Lib.hid (row_of_blk hX0 hb 44 hl (by decide))
  have HO : Hid (Blk ((w.alloc (Obj.cells (bA bs) 26)).alloc (Obj.cells (enA en0) 25)) (w.heap.size + 1) 25 (enA en0)) := Lib.hid (by
    have h := Blk.new (w.alloc (Obj.cells (bA bs) 26)) 25 (enA en0)
    rwa [show (w.alloc (Obj.cells (bA bs) 26)).heap.size = w.heap.size + 1 by simp] at h)
  have HB : Hid (Below w.heap.size w ((w.alloc (Obj.cells (bA bs) 26)).alloc (Obj.cells (enA en0) 25))) := Lib.hid (bthen (below_alloc _ _) (below_alloc _ _))
  have s1 := run_slice_44z
  clear hX0 hl hb
  go_enter Try.func24, Try.ntmps24
  go_wp2_with fail
  clear s1
  refine (rdF_new _ _ _ bs _ HR.out (by decide)).mono ?_
  rintro en w1 ⟨r, rfl, hr1, hR1, hb1⟩
  have HRs : Hid (w.heap.size + 1 < r ∧ r < w1.heap.size) := Lib.hid ⟨by simp at hr1; omega, by obtain ⟨_, _, _, h, _⟩ := hR1; exact h⟩
  have HF1 : Hid (Blk (w1.alloc (Obj.cells (enA ⟨2, 0, 0, 0, 0, 0, zeros 32⟩) 25)) w1.heap.size 25 (enA ⟨2, 0, 0, 0, 0, 0, zeros 32⟩)) := Lib.hid (Blk.new _ _ _)
  have HR1 : Hid (RdF w1.heap.size (w1.alloc (Obj.cells (enA ⟨2, 0, 0, 0, 0, 0, zeros 32⟩) 25)) r bs 0) := Lib.hid (hR1.keep (Kept.of_below (S := fun _ => False) (below_alloc _ _)) (fun _ _ h => h))
  have HB1 : Hid (Below w.heap.size w (w1.alloc (Obj.cells (enA ⟨2, 0, 0, 0, 0, 0, zeros 32⟩) 25))) := Lib.hid (bthen (bthen HB.out hb1) (below_alloc _ _))
  have HO1 : Hid (Blk (w1.alloc (Obj.cells (enA ⟨2, 0, 0, 0, 0, 0, zeros 32⟩) 25)) (w.heap.size + 1) 25 (enA en0)) := Lib.hid ((HO.out.below hb1 HO.out.lt).alloc _)
  have HL1 : Hid (w.heap.size + 1 < w1.heap.size) := Lib.hid (by have := HRs.out; omega)
  clear HR HO hr1 hb1 hR1 HB
  go_wp2_with (first | (refine wpl_build (by kernel_rfl) 25 _ rfl (.agg (enA ⟨2, 0, 0, 0, 0, 0, zeros 32⟩)) (fun _ => by kernel_rfl) ?_; go_frame) | (refine wpl_store_new rfl _ _ rfl (enA ⟨2, 0, 0, 0, 0, 0, zeros 32⟩) w1 25 (enA en0) rfl rfl rfl (info_enA (zeros_length 32)) rfl enA_one ?_; go_frame))
  clear hz
  generalize w1.alloc (Obj.cells (enA ⟨2, 0, 0, 0, 0, 0, zeros 32⟩) 25) = v1 at *
  refine (rdF_num 6 w1.heap.size r bs 0 6 v1 rfl HR1.out (by decide) (by decide) (by have := HL.out; omega)).mono ?_
  rintro en v2 ⟨rfl, hR, hk⟩
  generalize hx1 : num ((bs.drop 0).take 6) = x1 at *
  have Hx1 := Lib.hid hx1
  clear hx1
  have HR2 : Hid (RdF w1.heap.size v2 r bs 6) := Lib.hid hR
  have HF2 := Lib.hid (HF1.out.kept hk (by have := HRs.out; omega))
  have HO2 := Lib.hid (HO1.out.kept hk (by have := HRs.out; omega))
  have HB2 := Lib.hid (bkept HB1.out (Nat.le_refl _) hk (fun i hi h => by have := HRs.out; omega))
  clear hR hk HR1 HF1 HO1 HB1
  have c0 := (HF2.out.cell 1).trans (enA_at1 _)
  have f0 := HF2.out.frozen 1
  go_wp2_with fail
  clear c0 f0
  have hk : Kept (· = w1.heap.size) v2 (v2.setCell ⟨w1.heap.size, 1, none⟩ (.int .i64 (x1 : Nat))) := (Kept.refl (· = w1.heap.size) _).setCell rfl _
  have hF := HF2.out.set 1 (.int .i64 (x1 : Nat))
  rw [enA_set1] at hF
  have HF3 := Lib.hid hF
  have HR3 := Lib.hid (HR2.out.keep hk (fun i hi h => by omega))
  have HO3 := Lib.hid (HO2.out.kept hk (by have := HL1.out; omega))
  have HB3 := Lib.hid (bkept HB2.out (Nat.le_refl _) hk (fun i hi h => by have := HL1.out; omega))
  clear hk hF HF2 HR2 HO2 HB2
  generalize v2.setCell ⟨w1.heap.size, 1, none⟩ (.int .i64 (x1 : Nat)) = v3 at *
  refine (rdF_num 1 w1.heap.size r bs 6 1 v3 rfl HR3.out (by decide) (by decide) (by have := HL.out; omega)).mono ?_
  rintro en v4 ⟨rfl, hR, hk⟩
  generalize hx2 : num ((bs.drop 6).take 1) = x2 at *
  have Hx2 := Lib.hid hx2
  clear hx2
  have HR4 : Hid (RdF w1.heap.size v4 r bs 7) := Lib.hid hR
  have HF4 := Lib.hid (HF3.out.kept hk (by have := HRs.out; omega))
  have HO4 := Lib.hid (HO3.out.kept hk (by have := HRs.out; omega))
  have HB4 := Lib.hid (bkept HB3.out (Nat.le_refl _) hk (fun i hi h => by have := HRs.out; omega))
  clear hR hk HR3 HF3 HO3 HB3
  have c0 := (HF4.out.cell 2).trans (enA_at2 _)
  have f0 := HF4.out.frozen 2
  go_wp2_with fail
  clear c0 f0
  have hk : Kept (· = w1.heap.size) v4 (v4.setCell ⟨w1.heap.size, 2, none⟩ (.int .i64 (x2 : Nat))) := (Kept.refl (· = w1.heap.size) _).setCell rfl _
  have hF := HF4.out.set 2 (.int .i64 (x2 : Nat))
  rw [enA_set2] at hF
  have HF5 := Lib.hid hF
  have HR5 := Lib.hid (HR4.out.keep hk (fun i hi h => by omega))
  have HO5 := Lib.hid (HO4.out.kept hk (by have := HL1.out; omega))
  have HB5 := Lib.hid (bkept HB4.out (Nat.le_refl _) hk (fun i hi h => by have := HL1.out; omega))
  clear hk hF HF4 HR4 HO4 HB4
  generalize v4.setCell ⟨w1.heap.size, 2, none⟩ (.int .i64 (x2 : Nat)) = v5 at *
  refine (rdF_num 1 w1.heap.size r bs 7 1 v5 rfl HR5.out (by decide) (by decide) (by have := HL.out; omega)).mono ?_
  rintro en v6 ⟨rfl, hR, hk⟩
  generalize hx3 : num ((bs.drop 7).take 1) = x3 at *
  have Hx3 := Lib.hid hx3
  clear hx3
  have HR6 : Hid (RdF w1.heap.size v6 r bs 8) := Lib.hid hR
  have HF6 := Lib.hid (HF5.out.kept hk (by have := HRs.out; omega))
  have HO6 := Lib.hid (HO5.out.kept hk (by have := HRs.out; omega))
  have HB6 := Lib.hid (bkept HB5.out (Nat.le_refl _) hk (fun i hi h => by have := HRs.out; omega))
  clear hR hk HR5 HF5 HO5 HB5
  have c0 := (HF6.out.cell 3).trans (enA_at3 _)
  have f0 := HF6.out.frozen 3
  go_wp2_with fail
  clear c0 f0
  have hk : Kept (· = w1.heap.size) v6 (v6.setCell ⟨w1.heap.size, 3, none⟩ (.int .i64 (x3 : Nat))) := (Kept.refl (· = w1.heap.size) _).setCell rfl _
  have hF := HF6.out.set 3 (.int .i64 (x3 : Nat))
  rw [enA_set3] at hF
  have HF7 := Lib.hid hF
  have HR7 := Lib.hid (HR6.out.keep hk (fun i hi h => by omega))
  have HO7 := Lib.hid (HO6.out.kept hk (by have := HL1.out; omega))
  have HB7 := Lib.hid (bkept HB6.out (Nat.le_refl _) hk (fun i hi h => by have := HL1.out; omega))
  clear hk hF HF6 HR6 HO6 HB6
  generalize v6.setCell ⟨w1.heap.size, 3, none⟩ (.int .i64 (x3 : Nat)) = v7 at *
  refine (rdF_num 2 w1.heap.size r bs 8 2 v7 rfl HR7.out (by decide) (by decide) (by have := HL.out; omega)).mono ?_
  rintro en v8 ⟨rfl, hR, hk⟩
  generalize hx4 : num ((bs.drop 8).take 2) = x4 at *
  have Hx4 := Lib.hid hx4
  clear hx4
  have HR8 : Hid (RdF w1.heap.size v8 r bs 10) := Lib.hid hR
  have HF8 := Lib.hid (HF7.out.kept hk (by have := HRs.out; omega))
  have HO8 := Lib.hid (HO7.out.kept hk (by have := HRs.out; omega))
  have HB8 := Lib.hid (bkept HB7.out (Nat.le_refl _) hk (fun i hi h => by have := HRs.out; omega))
  clear hR hk HR7 HF7 HO7 HB7
  go_wp2_with fail
  refine (rdF_num 2 w1.heap.size r bs 10 2 v8 rfl HR8.out (by decide) (by decide) (by have := HL.out; omega)).mono ?_
  rintro en v9 ⟨rfl, hR, hk⟩
  generalize hx5 : num ((bs.drop 10).take 2) = x5 at *
  have Hx5 := Lib.hid hx5
  clear hx5
  have HR9 : Hid (RdF w1.heap.size v9 r bs 12) := Lib.hid hR
  have HF9 := Lib.hid (HF8.out.kept hk (by have := HRs.out; omega))
  have HO9 := Lib.hid (HO8.out.kept hk (by have := HRs.out; omega))
  have HB9 := Lib.hid (bkept HB8.out (Nat.le_refl _) hk (fun i hi h => by have := HRs.out; omega))
  clear hR hk HR8 HF8 HO8 HB8
  have c5 := (HF9.out.cell 5).trans (enA_at5 _)
  have f5 := HF9.out.frozen 5
  have hF5 := HF9.out.set 5 (.int .i64 (x5 : Nat))
  rw [enA_set5] at hF5
  have c4 := (hF5.cell 4).trans (enA_at4 _)
  have f4 := hF5.frozen 4
  have hF4 := hF5.set 4 (.int .i64 (x4 : Nat))
  rw [enA_set4] at hF4
  have hk : Kept (· = w1.heap.size) v9 ((v9.setCell ⟨w1.heap.size, 5, none⟩ (.int .i64 (x5 : Nat))).setCell ⟨w1.heap.size, 4, none⟩ (.int .i64 (x4 : Nat))) := ((Kept.refl (· = w1.heap.size) _).setCell rfl _).setCell rfl _
  have hsd : (⟨2, (x1 : Nat), (x2 : Nat), (x3 : Nat), (x4 : Nat), (x5 : Nat), zeros 32⟩ : EnR) = sd 2 bs := by rw [sd_trim, ← Hx1.out, ← Hx2.out, ← Hx3.out, ← Hx4.out, ← Hx5.out]
  have HF10 : Hid (Blk ((v9.setCell ⟨w1.heap.size, 5, none⟩ (.int .i64 (x5 : Nat))).setCell ⟨w1.heap.size, 4, none⟩ (.int .i64 (x4 : Nat))) w1.heap.size 25 (enA (sd 2 bs))) := Lib.hid (hsd ▸ hF4)
  have HO10 := Lib.hid (HO9.out.kept hk (by have := HL1.out; omega))
  have HB10 := Lib.hid (bkept HB9.out (Nat.le_refl _) hk (fun i hi h => by have := HL1.out; omega))
  clear hk hF4 hF5 hsd HF9 HR9 HO9 HB9
  go_wp2_with (first | (refine wpl_load rfl _ rfl (w1.heap.size) rfl _ _ _ HF10.out Try.underlying25 rfl (info_enA (sd_len HL.out)) ?_; go_frame) | (refine wpl_store rfl _ _ rfl (w.heap.size + 1) (enA (sd 2 bs)) rfl rfl _ _ HO10.out (info_enA (sd_len HL.out)) ((enA_size en0_len).trans (enA_size (sd_len HL.out)).symm) enA_one ?_; intro w9 hS9 hK9; have HS9 := Lib.hid hS9; have HK9 := Lib.hid hK9; clear hS9 hK9; go_frame))
  exact bodyPost_ret (v := .agg (enA (sd 2 bs))) (results_cell_row Try.results24 _ _ (w.heap.size + 1) _ _ (0, 0) _ rfl HS9.out Try.underlying25 rfl (info_enA (sd_len HL.out))) rfl ⟨rfl, bkept HB10.out (Nat.le_refl _) HK9.out (fun i hi h => by omega)⟩

set_option maxRecDepth 100000 in
set_option maxHeartbeats 4000000 in
theorem said_other (k : Int) (bs : List Nat) (w : World) (hl : bs.length = 44) (hb : ∀ c ∈ bs, c < 256) (hk : k ≠ 2) :
    Calls Try.prog 24 #[.int .i64 k, .agg (bA bs)] w (SaidP (sd k bs) w) := by
  have HL := Lib.hid hl
  have Hb := Lib.hid hb
  have Hk := Lib.hid hk
  have dk : (k == 2) = false := by simpa using hk
  have hz := zero_en
  have hX0 : Blk ((w.alloc (Obj.cells (bA bs) 26)).alloc (Obj.cells (enA en0) 25)) w.heap.size 26 (bA bs) := Blk.alloc (Blk.new w 26 (bA bs)) _
  have HR := Lib.hid (row_of_blk hX0 hb 44 hl (by decide))
  have HO : Hid (Blk ((w.alloc (Obj.cells (bA bs) 26)).alloc (Obj.cells (enA en0) 25)) (w.heap.size + 1) 25 (enA en0)) := Lib.hid (by
    have h := Blk.new (w.alloc (Obj.cells (bA bs) 26)) 25 (enA en0)
    rwa [show (w.alloc (Obj.cells (bA bs) 26)).heap.size = w.heap.size + 1 by simp] at h)
  have HB : Hid (Below w.heap.size w ((w.alloc (Obj.cells (bA bs) 26)).alloc (Obj.cells (enA en0) 25))) := Lib.hid (bthen (below_alloc _ _) (below_alloc _ _))
  have s1 := run_slice_44z
  clear hX0 hl hb hk
  go_enter Try.func24, Try.ntmps24
  go_wp2_with fail
  clear s1
  refine (rdF_new _ _ _ bs _ HR.out (by decide)).mono ?_
  rintro en w1 ⟨r, rfl, hr1, hR1, hb1⟩
  have HRs : Hid (w.heap.size + 1 < r ∧ r < w1.heap.size) := Lib.hid ⟨by simp at hr1; omega, by obtain ⟨_, _, _, h, _⟩ := hR1; exact h⟩
  have HF1 : Hid (Blk (w1.alloc (Obj.cells (enA ⟨k, 0, 0, 0, 0, 0, zeros 32⟩) 25)) w1.heap.size 25 (enA ⟨k, 0, 0, 0, 0, 0, zeros 32⟩)) := Lib.hid (Blk.new _ _ _)
  have HR1 : Hid (RdF w1.heap.size (w1.alloc (Obj.cells (enA ⟨k, 0, 0, 0, 0, 0, zeros 32⟩) 25)) r bs 0) := Lib.hid (hR1.keep (Kept.of_below (S := fun _ => False) (below_alloc _ _)) (fun _ _ h => h))
  have HB1 : Hid (Below w.heap.size w (w1.alloc (Obj.cells (enA ⟨k, 0, 0, 0, 0, 0, zeros 32⟩) 25))) := Lib.hid (bthen (bthen HB.out hb1) (below_alloc _ _))
  have HO1 : Hid (Blk (w1.alloc (Obj.cells (enA ⟨k, 0, 0, 0, 0, 0, zeros 32⟩) 25)) (w.heap.size + 1) 25 (enA en0)) := Lib.hid ((HO.out.below hb1 HO.out.lt).alloc _)
  have HL1 : Hid (w.heap.size + 1 < w1.heap.size) := Lib.hid (by have := HRs.out; omega)
  clear HR HO hr1 hb1 hR1 HB
  go_wp2_with (first | (refine wpl_build (by kernel_rfl) 25 _ rfl (.agg (enA ⟨k, 0, 0, 0, 0, 0, zeros 32⟩)) (fun _ => by kernel_rfl) ?_; go_frame) | (refine wpl_store_new rfl _ _ rfl (enA ⟨k, 0, 0, 0, 0, 0, zeros 32⟩) w1 25 (enA en0) rfl rfl rfl (info_enA (zeros_length 32)) rfl enA_one ?_; go_frame))
  clear hz
  generalize w1.alloc (Obj.cells (enA ⟨k, 0, 0, 0, 0, 0, zeros 32⟩) 25) = v1 at *
  refine (rdF_num 6 w1.heap.size r bs 0 6 v1 rfl HR1.out (by decide) (by decide) (by have := HL.out; omega)).mono ?_
  rintro en v2 ⟨rfl, hR, hk⟩
  generalize hx1 : num ((bs.drop 0).take 6) = x1 at *
  have Hx1 := Lib.hid hx1
  clear hx1
  have HR2 : Hid (RdF w1.heap.size v2 r bs 6) := Lib.hid hR
  have HF2 := Lib.hid (HF1.out.kept hk (by have := HRs.out; omega))
  have HO2 := Lib.hid (HO1.out.kept hk (by have := HRs.out; omega))
  have HB2 := Lib.hid (bkept HB1.out (Nat.le_refl _) hk (fun i hi h => by have := HRs.out; omega))
  clear hR hk HR1 HF1 HO1 HB1
  have c0 := (HF2.out.cell 1).trans (enA_at1 _)
  have f0 := HF2.out.frozen 1
  go_wp2_with fail
  clear c0 f0
  have hk : Kept (· = w1.heap.size) v2 (v2.setCell ⟨w1.heap.size, 1, none⟩ (.int .i64 (x1 : Nat))) := (Kept.refl (· = w1.heap.size) _).setCell rfl _
  have hF := HF2.out.set 1 (.int .i64 (x1 : Nat))
  rw [enA_set1] at hF
  have HF3 := Lib.hid hF
  have HR3 := Lib.hid (HR2.out.keep hk (fun i hi h => by omega))
  have HO3 := Lib.hid (HO2.out.kept hk (by have := HL1.out; omega))
  have HB3 := Lib.hid (bkept HB2.out (Nat.le_refl _) hk (fun i hi h => by have := HL1.out; omega))
  clear hk hF HF2 HR2 HO2 HB2
  generalize v2.setCell ⟨w1.heap.size, 1, none⟩ (.int .i64 (x1 : Nat)) = v3 at *
  refine (rdF_num 1 w1.heap.size r bs 6 1 v3 rfl HR3.out (by decide) (by decide) (by have := HL.out; omega)).mono ?_
  rintro en v4 ⟨rfl, hR, hk⟩
  generalize hx2 : num ((bs.drop 6).take 1) = x2 at *
  have Hx2 := Lib.hid hx2
  clear hx2
  have HR4 : Hid (RdF w1.heap.size v4 r bs 7) := Lib.hid hR
  have HF4 := Lib.hid (HF3.out.kept hk (by have := HRs.out; omega))
  have HO4 := Lib.hid (HO3.out.kept hk (by have := HRs.out; omega))
  have HB4 := Lib.hid (bkept HB3.out (Nat.le_refl _) hk (fun i hi h => by have := HRs.out; omega))
  clear hR hk HR3 HF3 HO3 HB3
  have c0 := (HF4.out.cell 2).trans (enA_at2 _)
  have f0 := HF4.out.frozen 2
  go_wp2_with fail
  clear c0 f0
  have hk : Kept (· = w1.heap.size) v4 (v4.setCell ⟨w1.heap.size, 2, none⟩ (.int .i64 (x2 : Nat))) := (Kept.refl (· = w1.heap.size) _).setCell rfl _
  have hF := HF4.out.set 2 (.int .i64 (x2 : Nat))
  rw [enA_set2] at hF
  have HF5 := Lib.hid hF
  have HR5 := Lib.hid (HR4.out.keep hk (fun i hi h => by omega))
  have HO5 := Lib.hid (HO4.out.kept hk (by have := HL1.out; omega))
  have HB5 := Lib.hid (bkept HB4.out (Nat.le_refl _) hk (fun i hi h => by have := HL1.out; omega))
  clear hk hF HF4 HR4 HO4 HB4
  generalize v4.setCell ⟨w1.heap.size, 2, none⟩ (.int .i64 (x2 : Nat)) = v5 at *
  refine (rdF_num 1 w1.heap.size r bs 7 1 v5 rfl HR5.out (by decide) (by decide) (by have := HL.out; omega)).mono ?_
  rintro en v6 ⟨rfl, hR, hk⟩
  generalize hx3 : num ((bs.drop 7).take 1) = x3 at *
  have Hx3 := Lib.hid hx3
  clear hx3
  have HR6 : Hid (RdF w1.heap.size v6 r bs 8) := Lib.hid hR
  have HF6 := Lib.hid (HF5.out.kept hk (by have := HRs.out; omega))
  have HO6 := Lib.hid (HO5.out.kept hk (by have := HRs.out; omega))
  have HB6 := Lib.hid (bkept HB5.out (Nat.le_refl _) hk (fun i hi h => by have := HRs.out; omega))
  clear hR hk HR5 HF5 HO5 HB5
  have c0 := (HF6.out.cell 3).trans (enA_at3 _)
  have f0 := HF6.out.frozen 3
  go_wp2_with fail
  clear c0 f0
  have hk : Kept (· = w1.heap.size) v6 (v6.setCell ⟨w1.heap.size, 3, none⟩ (.int .i64 (x3 : Nat))) := (Kept.refl (· = w1.heap.size) _).setCell rfl _
  have hF := HF6.out.set 3 (.int .i64 (x3 : Nat))
  rw [enA_set3] at hF
  have HF7 := Lib.hid hF
  have HR7 := Lib.hid (HR6.out.keep hk (fun i hi h => by omega))
  have HO7 := Lib.hid (HO6.out.kept hk (by have := HL1.out; omega))
  have HB7 := Lib.hid (bkept HB6.out (Nat.le_refl _) hk (fun i hi h => by have := HL1.out; omega))
  clear hk hF HF6 HR6 HO6 HB6
  generalize v6.setCell ⟨w1.heap.size, 3, none⟩ (.int .i64 (x3 : Nat)) = v7 at *
  refine (rdF_num 2 w1.heap.size r bs 8 2 v7 rfl HR7.out (by decide) (by decide) (by have := HL.out; omega)).mono ?_
  rintro en v8 ⟨rfl, hR, hk⟩
  generalize hx4 : num ((bs.drop 8).take 2) = x4 at *
  have Hx4 := Lib.hid hx4
  clear hx4
  have HR8 : Hid (RdF w1.heap.size v8 r bs 10) := Lib.hid hR
  have HF8 := Lib.hid (HF7.out.kept hk (by have := HRs.out; omega))
  have HO8 := Lib.hid (HO7.out.kept hk (by have := HRs.out; omega))
  have HB8 := Lib.hid (bkept HB7.out (Nat.le_refl _) hk (fun i hi h => by have := HRs.out; omega))
  clear hR hk HR7 HF7 HO7 HB7
  go_wp2_with fail
  refine (rdF_num 2 w1.heap.size r bs 10 2 v8 rfl HR8.out (by decide) (by decide) (by have := HL.out; omega)).mono ?_
  rintro en v9 ⟨rfl, hR, hk⟩
  generalize hx5 : num ((bs.drop 10).take 2) = x5 at *
  have Hx5 := Lib.hid hx5
  clear hx5
  have HR9 : Hid (RdF w1.heap.size v9 r bs 12) := Lib.hid hR
  have HF9 := Lib.hid (HF8.out.kept hk (by have := HRs.out; omega))
  have HO9 := Lib.hid (HO8.out.kept hk (by have := HRs.out; omega))
  have HB9 := Lib.hid (bkept HB8.out (Nat.le_refl _) hk (fun i hi h => by have := HRs.out; omega))
  clear hR hk HR8 HF8 HO8 HB8
  have c5 := (HF9.out.cell 5).trans (enA_at5 _)
  have f5 := HF9.out.frozen 5
  have hF5 := HF9.out.set 5 (.int .i64 (x5 : Nat))
  rw [enA_set5] at hF5
  have hk : Kept (· = w1.heap.size) v9 (v9.setCell ⟨w1.heap.size, 5, none⟩ (.int .i64 (x5 : Nat))) := (Kept.refl (· = w1.heap.size) _).setCell rfl _
  have HR10 : Hid (RdF w1.heap.size (v9.setCell ⟨w1.heap.size, 5, none⟩ (.int .i64 (x5 : Nat))).drew r bs 12) := Lib.hid (HR9.out.keep hk.drew (fun i hi h => by omega))
  have HF10 : Hid (Blk (v9.setCell ⟨w1.heap.size, 5, none⟩ (.int .i64 (x5 : Nat))).drew w1.heap.size 25 (mixL (enZ ⟨k, (x1 : Nat), (x2 : Nat), (x3 : Nat), 0, (x5 : Nat), zeros 32⟩) (zeros 32)).toArray) := Lib.hid hF5
  have HO10 : Hid (Blk (v9.setCell ⟨w1.heap.size, 5, none⟩ (.int .i64 (x5 : Nat))).drew (w.heap.size + 1) 25 (enA en0)) := Lib.hid (HO9.out.kept hk.drew (by have := HL1.out; omega))
  have HB10 : Hid (Below w.heap.size w (v9.setCell ⟨w1.heap.size, 5, none⟩ (.int .i64 (x5 : Nat))).drew) := Lib.hid (bkept HB9.out (Nat.le_refl _) hk (fun i hi h => by have := HL1.out; omega)).drew
  clear hk hF5 HF9 HR9 HO9 HB9
  go_wp2_with fail
  clear c5 f5
  refine wp_region_any (by kernel_rfl) ?_
  change wpAny _ _ _ _ _ _ _ (World.drew _)
  generalize (v9.setCell ⟨w1.heap.size, 5, none⟩ (.int .i64 (x5 : Nat))).drew = u0 at *
  refine take_one (i := 0) (d := 30) (v := .pointer (some ⟨w1.heap.size, 6, none⟩)) rfl (by kernel_rfl) (by kernel_rfl) (by kernel_rfl) (by kernel_rfl) (fun _ _ _ h => h) (Or.inl ⟨by kernel_rfl, fun w => by (first | kernel_rfl | go_simp)⟩) ?_
  go_frame
  refine take_one (i := 1) (d := 31) (v := .slice (some ⟨w1.heap.size, 6, none⟩) 32 32) rfl (by kernel_rfl) (by kernel_rfl) (by kernel_rfl) (by kernel_rfl) (fun _ _ _ h => h) (Or.inl ⟨by kernel_rfl, fun w => by (first | kernel_rfl | go_simp)⟩) ?_
  go_frame
  refine take_one (i := 2) (d := 32) (v := .pointer (some ⟨r, 0, none⟩)) rfl (by kernel_rfl) (by kernel_rfl) (by kernel_rfl) (by kernel_rfl) (fun _ _ _ h => h) (Or.inl ⟨by kernel_rfl, fun w => by kernel_rfl⟩) ?_
  go_frame
  refine next_one (i := 3) rfl (by kernel_rfl) (by kernel_rfl) (fun K' hK => ?_)
  go_wp2_with fail
  refine (rdF_bytes 32 w1.heap.size r bs 12 32 u0 rfl HR10.out (by have := HL.out; omega)).mono ?_
  rintro en u1 ⟨a1, rfl, hrow, hk⟩
  have HRow := Lib.hid hrow
  have HF11 := Lib.hid (HF10.out.kept hk (by have := HRs.out; omega))
  have HO11 := Lib.hid (HO10.out.kept hk (by have := HRs.out; omega))
  have HB11 := Lib.hid (bkept HB10.out (Nat.le_refl _) hk (fun i hi h => by have := HRs.out; omega))
  clear hrow hk HR10 HF10 HO10 HB10
  refine hK _ _ ?_
  clear hK K'
  refine next_one (i := 4) rfl (by kernel_rfl) (by kernel_rfl) (fun K' hK => ?_)
  refine wp_copy_at rfl (.tmp 31) (.tmp 33) _ _ rfl Try.underlying51 infoByteSize w1.heap.size 6 32 32 _ _ HF11.out rfl (by simp [mixL, enZ, bvals_length, zeros_length]) _ _ _ ((bs.drop 12).take 32) rfl HRow.out ?_
  intro u2 hF hb
  rw [List.take_take, Nat.min_self, enA_body ⟨k, (x1 : Nat), (x2 : Nat), (x3 : Nat), 0, (x5 : Nat), zeros 32⟩ _ (zeros_length 32) (by rw [List.length_take, List.length_drop, HL.out]; decide)] at hF
  have hsd : (⟨k, (x1 : Nat), (x2 : Nat), (x3 : Nat), 0, (x5 : Nat), (bs.drop 12).take 32⟩ : EnR) = sd k bs := by rw [sd_other Hk.out, ← Hx1.out, ← Hx2.out, ← Hx3.out, ← Hx5.out]
  have HF12 : Hid (Blk u2 w1.heap.size 25 (enA (sd k bs))) := Lib.hid (hsd ▸ hF)
  have HO12 := Lib.hid (HO11.out.below hb HL1.out)
  have HB12 := Lib.hid (HB11.out.trans (hb.mono (by have := HL1.out; omega)))
  clear hF hb HF11 HO11 HB11 HRow hsd
  refine hK _ _ ?_
  clear hK K'
  refine wpAny_done (by kernel_rfl) ?_ _
  show Exit.then _ _ _ (Act.put _ (some 34) _) _
  go_frame
  go_wp2_with (first | (refine wpl_load rfl _ rfl (w1.heap.size) rfl _ _ _ HF12.out Try.underlying25 rfl (info_enA (sd_len HL.out)) ?_; go_frame) | (refine wpl_store rfl _ _ rfl (w.heap.size + 1) (enA (sd k bs)) rfl rfl _ _ HO12.out (info_enA (sd_len HL.out)) ((enA_size en0_len).trans (enA_size (sd_len HL.out)).symm) enA_one ?_; intro w9 hS9 hK9; have HS9 := Lib.hid hS9; have HK9 := Lib.hid hK9; clear hS9 hK9; go_frame))
  exact bodyPost_ret (v := .agg (enA (sd k bs))) (results_cell_row Try.results24 _ _ (w.heap.size + 1) _ _ (0, 0) _ rfl HS9.out Try.underlying25 rfl (info_enA (sd_len HL.out))) rfl ⟨rfl, bkept HB12.out (Nat.le_refl _) HK9.out (fun i hi h => by omega)⟩

theorem said_any (k : Int) (bs : List Nat) (w : World) (hl : bs.length = 44) (hb : ∀ c ∈ bs, c < 256) : Calls Try.prog 24 #[.int .i64 k, .agg (bA bs)] w (SaidP (sd k bs) w) := by
  by_cases hk : k = 2
  · subst hk; exact said_trim bs w hl hb
  · exact said_other k bs w hl hb hk

end Go.Proofs.Ytdjnfikacjfkkaa
