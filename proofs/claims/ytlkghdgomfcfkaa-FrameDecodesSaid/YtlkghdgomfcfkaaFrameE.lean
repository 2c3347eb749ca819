/-
  Layer 3 (frame), fourth part: read.
-/
import Derived.Test.YtlkghdgomfcfkaaFrameD
namespace Go.Proofs.Ytlkghdgomfcfkaa
open Go.RowKit CrcM
set_option linter.unusedVariables false
set_option linter.unnecessarySimpa false
set_option linter.unusedSimpArgs false

/-- A reader that has come to byte j of bs; B: a bound of its blocks. -/
def RdF (B : Nat) (w : World) (r : Nat) (bs : List Nat) (j : Nat) : Prop := ∃ a cap, RdA w r a (bs.length - j) cap (bs.drop j) ∧ r < B ∧ ∀ ad, a = some ad → ad.block < B

theorem RdF.keep {S : Nat → Prop} {B r j : Nat} {bs : List Nat} {w w' : World} (h : RdF B w r bs j) (k : Kept S w w') (hS : ∀ i, i < B → ¬ S i) : RdF B w' r bs j := by
  obtain ⟨a, cap, ⟨h1, h2, h3⟩, h4, h5⟩ := h
  exact ⟨a, cap, ⟨h1.kept k (hS r h4), h2.kept k (fun _ ad he => hS _ (h5 ad he)), h3⟩, h4, h5⟩

/-- What Num tells of it. -/
def RdFTold (B r : Nat) (bs : List Nat) (j k : Nat) (w : World) (e : Ending) (w' : World) : Prop :=
  e = .returned (.int .i64 (num ((bs.drop j).take k) : Nat)) ∧ RdF B w' r bs (j + k) ∧ Kept (· = r) w w'

theorem rdF_num (K : Int) (B r : Nat) (bs : List Nat) (j k : Nat) (w : World) (hK : K = k) (h : RdF B w r bs j) (h1 : 1 ≤ k) (h7 : k ≤ 7) (hx : j + k ≤ bs.length) :
    Calls Try.prog 31 #[.pointer (some ⟨r, 0, none⟩), .int .i64 K] w (RdFTold B r bs j k w) := by
  subst hK
  obtain ⟨a, cap, hA, h4, h5⟩ := h
  refine (rdNum_ok r a (bs.length - j) cap (bs.drop j) k w hA h1 h7 (by omega)).mono ?_
  rintro e w' ⟨rfl, hA', hk⟩
  refine ⟨rfl, ⟨slAddr a cap k, cap - k, ?_, h4, fun ad had => ?_⟩, hk⟩
  · rw [List.drop_drop, show bs.length - j - k = bs.length - (j + k) by omega] at hA'
    exact hA'
  · obtain ⟨ad', e1, e2⟩ := slAddr_block a cap k ad had
    rw [← e2]; exact h5 ad' e1

/-- What Bytes tells of it. -/
def RdFGave (bs : List Nat) (j k r : Nat) (w : World) (e : Ending) (w' : World) : Prop :=
  ∃ a, e = .returned (.slice a k k) ∧ RowB w' a k k ((bs.drop j).take k) ∧ Kept (· = r) w w'

theorem rdF_bytes (K : Int) (B r : Nat) (bs : List Nat) (j k : Nat) (w : World) (hK : K = k) (h : RdF B w r bs j) (hx : j + k ≤ bs.length) :
    Calls Try.prog 38 #[.pointer (some ⟨r, 0, none⟩), .int .i64 K] w (RdFGave bs j k r w) := by
  obtain ⟨a, cap, hA, h4, h5⟩ := h
  refine (rdBytes_okI K r a (bs.length - j) cap (bs.drop j) k hK w hA (by omega)).mono ?_
  rintro e w' ⟨rfl, hA', hr, hk⟩
  exact ⟨_, rfl, hr, hk⟩

/-- What New tells. -/
theorem rdF_new (a : Option Addr) (len cap : Nat) (bs : List Nat) (w : World) (hr : RowB w a len cap bs) (hs : len ≤ 1000000000) :
    Calls Try.prog 30 #[.slice a len cap] w fun e w' => ∃ r, e = .returned (.pointer (some ⟨r, 0, none⟩)) ∧ w.heap.size ≤ r ∧ RdF w'.heap.size w' r bs 0 ∧ Below w.heap.size w w' := by
  refine (newRd_any a len cap bs w hr hs).mono ?_
  rintro e w' ⟨r, g, rfl, h1, h2, h3, h4, h5, h6⟩
  refine ⟨r, rfl, h1, ⟨some ⟨g, 0, none⟩, bs.length, ⟨?_, ?_, ?_⟩, h4.lt, ?_⟩, h6⟩
  · exact h4
  · exact row_of_blk h5 hr.lt _ rfl (by have := hr.length; omega)
  · intro ad had; cases had; exact h3
  · intro ad had; cases had; exact h5.lt

/-- The frame that stands ahead of a sum, right or not. -/
def rd (bs : List Nat) : FrR := ⟨(num ((bs.drop 0).take 1) : Nat), (num ((bs.drop 2).take 2) : Nat), (num ((bs.drop 4).take 2) : Nat), (num ((bs.drop 6).take 4) : Nat), (num ((bs.drop 10).take 6) : Nat), (bs.drop 16).take 44⟩
/-- Its version. -/
def ver (bs : List Nat) : Nat := num ((bs.drop 1).take 1)

theorem rd_len {bs : List Nat} (h : bs.length = 60) : (rd bs).b.length = 44 := by simp [rd, h]
theorem rd_lt {bs : List Nat} (h : ∀ c ∈ bs, c < 256) : ∀ c ∈ (rd bs).b, c < 256 := fun c hc => h c (List.mem_of_mem_drop (List.mem_of_mem_take hc))

theorem fr0_len : fr0.b.length = 44 := zeros_length 44
theorem frA_set0 (f : FrR) (x : Int) : (frA f).setIfInBounds 0 (.int .i64 x) = frA { f with k := x } := by simp [frA, frL]
theorem frA_set1 (f : FrR) (x : Int) : (frA f).setIfInBounds 1 (.int .i64 x) = frA { f with z := x } := by simp [frA, frL]
theorem frA_set2 (f : FrR) (x : Int) : (frA f).setIfInBounds 2 (.int .i64 x) = frA { f with o := x } := by simp [frA, frL]
theorem frA_set3 (f : FrR) (x : Int) : (frA f).setIfInBounds 3 (.int .i64 x) = frA { f with e := x } := by simp [frA, frL]
theorem frA_set4 (f : FrR) (x : Int) : (frA f).setIfInBounds 4 (.int .i64 x) = frA { f with s := x } := by simp [frA, frL]
theorem frL_body (f : FrR) (xs : List Nat) (hf : f.b.length = 44) (hx : xs.length = 44) : (splice (frL f) 5 (bvals xs)).toArray = frA { f with b := xs } := by
  unfold splice frA frL
  rw [List.take_append_of_le_length (by simp), List.drop_of_length_le (by simp [bvals_length, hf, hx])]
  simp

/-- What read tells. -/
def ReadPost (bs : List Nat) (w : World) (e : Ending) (w' : World) : Prop := e = .returned (.tuple #[.agg (frA (rd bs)), .int .i64 (ver bs : Nat)]) ∧ Below w.heap.size w w'

set_option maxRecDepth 100000 in
set_option maxHeartbeats 2000000 in
theorem read_any (a : Option Addr) (cap : Nat) (bs : List Nat) (w : World) (hr : RowB w a 60 cap bs) :
    Calls Try.prog 26 #[.slice a 60 cap] w (ReadPost bs w) := by
  have hz := zero_fr
  have HL := Lib.hid hr.length
  have HR := Lib.hid (hr.below (below_alloc w (Obj.cells (frA fr0) 24)))
  have hO : Blk (w.alloc (Obj.cells (frA fr0) 24)) w.heap.size 24 (frA fr0) := Blk.new _ _ _
  have HO := Lib.hid hO
  clear hr hO
  go_enter Try.func26, Try.ntmps26
  go_wp2_with fail
  refine (rdF_new _ _ _ bs _ HR.out (by decide)).mono ?_
  rintro e w1 ⟨r, rfl, hr1, hR1, hb1⟩
  have HB1 := Lib.hid (bthen (below_alloc w _) hb1)
  have HO1 := Lib.hid (HO.out.below hb1 HO.out.lt)
  have HRs : Hid (w.heap.size < r ∧ r < w1.heap.size) := Lib.hid ⟨by simp at hr1; omega, by obtain ⟨_, _, _, h, _⟩ := hR1; exact h⟩
  have HF0 : Hid (Blk (w1.alloc (Obj.cells (frA fr0) 24)) w1.heap.size 24 (frA fr0)) := Lib.hid (Blk.new _ _ _)
  have HR0 : Hid (RdF w1.heap.size (w1.alloc (Obj.cells (frA fr0) 24)) r bs 0) := Lib.hid (hR1.keep (Kept.of_below (S := fun _ => False) (below_alloc _ _)) (fun _ _ h => h))
  have HB0 : Hid (Below w.heap.size w (w1.alloc (Obj.cells (frA fr0) 24))) := Lib.hid (bthen HB1.out (below_alloc _ _))
  have HO0 : Hid (Blk (w1.alloc (Obj.cells (frA fr0) 24)) w.heap.size 24 (frA fr0)) := Lib.hid (HO1.out.alloc _)
  have HL1 : Hid (w.heap.size < w1.heap.size) := Lib.hid HO1.out.lt
  clear HR HO hr1 hb1 hR1 HB1 HO1
  go_wp2_with fail
  clear hz
  generalize w1.alloc (Obj.cells (frA fr0) 24) = v0 at *
  refine (rdF_num 1 w1.heap.size r bs 0 1 v0 rfl HR0.out (by decide) (by decide) (by have := HL.out; omega)).mono ?_
  rintro e v1 ⟨rfl, hR, hk⟩
  generalize hx0 : num ((bs.drop 0).take 1) = x0 at *
  have HX0 := Lib.hid hx0
  clear hx0
  have HR1 : Hid (RdF w1.heap.size v1 r bs 1) := Lib.hid hR
  have HF1 := Lib.hid (HF0.out.kept hk (by have := HRs.out; omega))
  have HO1 := Lib.hid (HO0.out.kept hk (by have := HRs.out; omega))
  have HB1 := Lib.hid (bkept HB0.out (Nat.le_refl _) hk (fun i hi h => by have := HRs.out; omega))
  clear hR hk HR0 HF0 HO0 HB0
  have c0 := (HF1.out.cell 0).trans (frA_at0 _)
  have f0 := HF1.out.frozen 0
  go_wp2_with fail
  clear c0 f0
  have hk : Kept (· = w1.heap.size) v1 (v1.setCell ⟨w1.heap.size, 0, none⟩ (.int .i64 (x0 : Nat))) := (Kept.refl (· = w1.heap.size) _).setCell rfl _
  have hF := HF1.out.set 0 (.int .i64 (x0 : Nat))
  rw [frA_set0] at hF
  have HF2 := Lib.hid hF
  have HR2 := Lib.hid (HR1.out.keep hk (fun i hi h => by omega))
  have HO2 := Lib.hid (HO1.out.kept hk (by have := HL1.out; omega))
  have HB2 := Lib.hid (bkept HB1.out (Nat.le_refl _) hk (fun i hi h => by have := HL1.out; omega))
  clear hk hF HF1 HR1 HO1 HB1
  generalize v1.setCell ⟨w1.heap.size, 0, none⟩ (.int .i64 (x0 : Nat)) = v2 at *
  refine (rdF_num 1 w1.heap.size r bs 1 1 v2 rfl HR2.out (by decide) (by decide) (by have := HL.out; omega)).mono ?_
  rintro e v3 ⟨rfl, hR, hk⟩
  generalize hx1 : num ((bs.drop 1).take 1) = x1 at *
  have HX1 := Lib.hid hx1
  clear hx1
  have HR3 : Hid (RdF w1.heap.size v3 r bs 2) := Lib.hid hR
  have HF3 := Lib.hid (HF2.out.kept hk (by have := HRs.out; omega))
  have HO3 := Lib.hid (HO2.out.kept hk (by have := HRs.out; omega))
  have HB3 := Lib.hid (bkept HB2.out (Nat.le_refl _) hk (fun i hi h => by have := HRs.out; omega))
  clear hR hk HR2 HF2 HO2 HB2
  go_wp2_with fail
  refine (rdF_num 2 w1.heap.size r bs 2 2 v3 rfl HR3.out (by decide) (by decide) (by have := HL.out; omega)).mono ?_
  rintro e v4 ⟨rfl, hR, hk⟩
  generalize hx2 : num ((bs.drop 2).take 2) = x2 at *
  have HX2 := Lib.hid hx2
  clear hx2
  have HR4 : Hid (RdF w1.heap.size v4 r bs 4) := Lib.hid hR
  have HF4 := Lib.hid (HF3.out.kept hk (by have := HRs.out; omega))
  have HO4 := Lib.hid (HO3.out.kept hk (by have := HRs.out; omega))
  have HB4 := Lib.hid (bkept HB3.out (Nat.le_refl _) hk (fun i hi h => by have := HRs.out; omega))
  clear hR hk HR3 HF3 HO3 HB3
  have c0 := (HF4.out.cell 1).trans (frA_at1 _)
  have f0 := HF4.out.frozen 1
  go_wp2_with fail
  clear c0 f0
  have hk : Kept (· = w1.heap.size) v4 (v4.setCell ⟨w1.heap.size, 1, none⟩ (.int .i64 (x2 : Nat))) := (Kept.refl (· = w1.heap.size) _).setCell rfl _
  have hF := HF4.out.set 1 (.int .i64 (x2 : Nat))
  rw [frA_set1] at hF
  have HF5 := Lib.hid hF
  have HR5 := Lib.hid (HR4.out.keep hk (fun i hi h => by omega))
  have HO5 := Lib.hid (HO4.out.kept hk (by have := HL1.out; omega))
  have HB5 := Lib.hid (bkept HB4.out (Nat.le_refl _) hk (fun i hi h => by have := HL1.out; omega))
  clear hk hF HF4 HR4 HO4 HB4
  generalize v4.setCell ⟨w1.heap.size, 1, none⟩ (.int .i64 (x2 : Nat)) = v5 at *
  refine (rdF_num 2 w1.heap.size r bs 4 2 v5 rfl HR5.out (by decide) (by decide) (by have := HL.out; omega)).mono ?_
  rintro e v6 ⟨rfl, hR, hk⟩
  generalize hx3 : num ((bs.drop 4).take 2) = x3 at *
  have HX3 := Lib.hid hx3
  clear hx3
  have HR6 : Hid (RdF w1.heap.size v6 r bs 6) := Lib.hid hR
  have HF6 := Lib.hid (HF5.out.kept hk (by have := HRs.out; omega))
  have HO6 := Lib.hid (HO5.out.kept hk (by have := HRs.out; omega))
  have HB6 := Lib.hid (bkept HB5.out (Nat.le_refl _) hk (fun i hi h => by have := HRs.out; omega))
  clear hR hk HR5 HF5 HO5 HB5
  have c0 := (HF6.out.cell 2).trans (frA_at2 _)
  have f0 := HF6.out.frozen 2
  go_wp2_with fail
  clear c0 f0
  have hk : Kept (· = w1.heap.size) v6 (v6.setCell ⟨w1.heap.size, 2, none⟩ (.int .i64 (x3 : Nat))) := (Kept.refl (· = w1.heap.size) _).setCell rfl _
  have hF := HF6.out.set 2 (.int .i64 (x3 : Nat))
  rw [frA_set2] at hF
  have HF7 := Lib.hid hF
  have HR7 := Lib.hid (HR6.out.keep hk (fun i hi h => by omega))
  have HO7 := Lib.hid (HO6.out.kept hk (by have := HL1.out; omega))
  have HB7 := Lib.hid (bkept HB6.out (Nat.le_refl _) hk (fun i hi h => by have := HL1.out; omega))
  clear hk hF HF6 HR6 HO6 HB6
  generalize v6.setCell ⟨w1.heap.size, 2, none⟩ (.int .i64 (x3 : Nat)) = v7 at *
  refine (rdF_num 4 w1.heap.size r bs 6 4 v7 rfl HR7.out (by decide) (by decide) (by have := HL.out; omega)).mono ?_
  rintro e v8 ⟨rfl, hR, hk⟩
  generalize hx4 : num ((bs.drop 6).take 4) = x4 at *
  have HX4 := Lib.hid hx4
  clear hx4
  have HR8 : Hid (RdF w1.heap.size v8 r bs 10) := Lib.hid hR
  have HF8 := Lib.hid (HF7.out.kept hk (by have := HRs.out; omega))
  have HO8 := Lib.hid (HO7.out.kept hk (by have := HRs.out; omega))
  have HB8 := Lib.hid (bkept HB7.out (Nat.le_refl _) hk (fun i hi h => by have := HRs.out; omega))
  clear hR hk HR7 HF7 HO7 HB7
  have c0 := (HF8.out.cell 3).trans (frA_at3 _)
  have f0 := HF8.out.frozen 3
  go_wp2_with fail
  clear c0 f0
  have hk : Kept (· = w1.heap.size) v8 (v8.setCell ⟨w1.heap.size, 3, none⟩ (.int .i64 (x4 : Nat))) := (Kept.refl (· = w1.heap.size) _).setCell rfl _
  have hF := HF8.out.set 3 (.int .i64 (x4 : Nat))
  rw [frA_set3] at hF
  have HF9 := Lib.hid hF
  have HR9 := Lib.hid (HR8.out.keep hk (fun i hi h => by omega))
  have HO9 := Lib.hid (HO8.out.kept hk (by have := HL1.out; omega))
  have HB9 := Lib.hid (bkept HB8.out (Nat.le_refl _) hk (fun i hi h => by have := HL1.out; omega))
  clear hk hF HF8 HR8 HO8 HB8
  generalize v8.setCell ⟨w1.heap.size, 3, none⟩ (.int .i64 (x4 : Nat)) = v9 at *
  refine (rdF_num 6 w1.heap.size r bs 10 6 v9 rfl HR9.out (by decide) (by decide) (by have := HL.out; omega)).mono ?_
  rintro e v10 ⟨rfl, hR, hk⟩
  generalize hx5 : num ((bs.drop 10).take 6) = x5 at *
  have HX5 := Lib.hid hx5
  clear hx5
  have HR10 : Hid (RdF w1.heap.size v10 r bs 16) := Lib.hid hR
  have HF10 := Lib.hid (HF9.out.kept hk (by have := HRs.out; omega))
  have HO10 := Lib.hid (HO9.out.kept hk (by have := HRs.out; omega))
  have HB10 := Lib.hid (bkept HB9.out (Nat.le_refl _) hk (fun i hi h => by have := HRs.out; omega))
  clear hR hk HR9 HF9 HO9 HB9
  have c0 := (HF10.out.cell 4).trans (frA_at4 _)
  have f0 := HF10.out.frozen 4
  go_wp2_with fail
  clear c0 f0
  have hk : Kept (· = w1.heap.size) v10 (v10.setCell ⟨w1.heap.size, 4, none⟩ (.int .i64 (x5 : Nat))) := (Kept.refl (· = w1.heap.size) _).setCell rfl _
  have hF := HF10.out.set 4 (.int .i64 (x5 : Nat))
  rw [frA_set4] at hF
  have HF11 := Lib.hid hF
  have HR11 := Lib.hid (HR10.out.keep hk (fun i hi h => by omega))
  have HO11 := Lib.hid (HO10.out.kept hk (by have := HL1.out; omega))
  have HB11 := Lib.hid (bkept HB10.out (Nat.le_refl _) hk (fun i hi h => by have := HL1.out; omega))
  clear hk hF HF10 HR10 HO10 HB10
  generalize v10.setCell ⟨w1.heap.size, 4, none⟩ (.int .i64 (x5 : Nat)) = v11 at *
  have HR9 : Hid (RdF w1.heap.size v11.drew r bs 16) := Lib.hid (HR11.out.keep (Kept.refl (fun _ => False) v11).drew (fun _ _ h => h))
  have HF9 : Hid (Blk v11.drew w1.heap.size 24 (frL ⟨(x0 : Nat), (x2 : Nat), (x3 : Nat), (x4 : Nat), (x5 : Nat), zeros 44⟩).toArray) := Lib.hid HF11.out
  have HO9 : Hid (Blk v11.drew w.heap.size 24 (frA fr0)) := Lib.hid HO11.out
  have HB9 : Hid (Below w.heap.size w v11.drew) := Lib.hid HB11.out.drew
  clear HR11 HF11 HO11 HB11
  refine wp_region_any (by kernel_rfl) ?_
  change wpAny _ _ _ _ _ _ _ (World.drew _)
  generalize v11.drew = u0 at *
  refine take_one (i := 0) (d := 26) (v := .pointer (some ⟨w1.heap.size, 5, none⟩)) rfl (by kernel_rfl) (by kernel_rfl) (by kernel_rfl) (by kernel_rfl) (fun _ _ _ h => h) (Or.inl ⟨by kernel_rfl, fun w => by (first | kernel_rfl | go_simp)⟩) ?_
  go_frame
  refine take_one (i := 1) (d := 27) (v := .slice (some ⟨w1.heap.size, 5, none⟩) 44 44) rfl (by kernel_rfl) (by kernel_rfl) (by kernel_rfl) (by kernel_rfl) (fun _ _ _ h => h) (Or.inl ⟨by kernel_rfl, fun w => by (first | kernel_rfl | go_simp)⟩) ?_
  go_frame
  refine take_one (i := 2) (d := 28) (v := .pointer (some ⟨r, 0, none⟩)) rfl (by kernel_rfl) (by kernel_rfl) (by kernel_rfl) (by kernel_rfl) (fun _ _ _ h => h) (Or.inl ⟨by kernel_rfl, fun w => by kernel_rfl⟩) ?_
  go_frame
  refine next_one (i := 3) rfl (by kernel_rfl) (by kernel_rfl) (fun K' hK => ?_)
  go_wp2_with fail
  refine (rdF_bytes 44 w1.heap.size r bs 16 44 u0 rfl HR9.out (by have := HL.out; omega)).mono ?_
  rintro e u1 ⟨a1, rfl, hrow, hk⟩
  have HRow := Lib.hid hrow
  have HF10 := Lib.hid (HF9.out.kept hk (by have := HRs.out; omega))
  have HO10 := Lib.hid (HO9.out.kept hk (by have := HRs.out; omega))
  have HB10 := Lib.hid (bkept HB9.out (Nat.le_refl _) hk (fun i hi h => by have := HRs.out; omega))
  clear hrow hk HR9 HF9 HO9 HB9
  refine hK _ _ ?_
  clear hK K'
  refine next_one (i := 4) rfl (by kernel_rfl) (by kernel_rfl) (fun K' hK => ?_)
  refine wp_copy_at rfl (.tmp 27) (.tmp 29) _ _ rfl Try.underlying47 infoByteSize w1.heap.size 5 44 44 _ _ HF10.out rfl (by simp [frL, bvals_length, zeros_length]) _ _ _ ((bs.drop 16).take 44) rfl HRow.out ?_
  intro u2 hF hb
  rw [List.take_take, Nat.min_self, frL_body _ _ (zeros_length 44) (by rw [List.length_take, List.length_drop, HL.out]; decide)] at hF
  have hrd : (⟨(x0 : Nat), (x2 : Nat), (x3 : Nat), (x4 : Nat), (x5 : Nat), (bs.drop 16).take 44⟩ : FrR) = rd bs := by rw [← HX0.out, ← HX2.out, ← HX3.out, ← HX4.out, ← HX5.out]; rfl
  have HF11 : Hid (Blk u2 w1.heap.size 24 (frA (rd bs))) := Lib.hid (hrd ▸ hF)
  have HO11 := Lib.hid (HO10.out.below hb HL1.out)
  have HB11 := Lib.hid (HB10.out.trans (hb.mono (by have := HL1.out; omega)))
  clear hF hb HF10 HO10 HB10 HRow hrd
  refine hK _ _ ?_
  clear hK K'
  refine wpAny_done (by kernel_rfl) ?_ _
  go_frame
  go_wp2_with (first | (refine wpl_load rfl _ rfl (w1.heap.size) rfl _ _ _ HF11.out Try.underlying24 rfl (info_frA (rd_len HL.out)) ?_; go_frame) | (refine wpl_store rfl _ _ rfl (w.heap.size) (frA (rd bs)) rfl rfl _ _ HO11.out (info_frA (rd_len HL.out)) (by rw [frA_size fr0_len, frA_size (rd_len HL.out)]) frA_one ?_; intro w9 hS9 hK9; have HS9 := Lib.hid hS9; have HK9 := Lib.hid hK9; clear hS9 hK9; go_frame))
  refine bodyPost_ret (v := .tuple #[.agg (frA (rd bs)), .int .i64 (x1 : Nat)]) (results_cell_slot Try.results26 _ _ w.heap.size _ _ _ _ rfl rfl HS9.out Try.underlying24 rfl (info_frA (rd_len HL.out))) rfl ⟨by rw [← HX1.out]; rfl, ?_⟩
  exact bkept HB11.out (Nat.le_refl _) HK9.out (fun i hi h => by omega)

end Go.Proofs.Ytlkghdgomfcfkaa
