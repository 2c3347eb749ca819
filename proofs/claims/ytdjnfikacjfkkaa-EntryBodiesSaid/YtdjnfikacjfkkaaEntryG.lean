/-
  Contracts of layer 4 (entry), sixth part: Frame and Read.
-/
import Derived.Test.YtdjnfikacjfkkaaEntryF
namespace Go.Proofs.Ytdjnfikacjfkkaa
open Go.RowKit CrcM
set_option linter.unusedVariables false
set_option linter.unnecessarySimpa false
set_option linter.unusedSimpArgs false

set_option maxRecDepth 100000 in
set_option maxHeartbeats 4000000 in
theorem eframe_form (e : EnR) (z o ep sq : Int) (w : World) (hl : e.y.length = 32) (hb : ∀ c ∈ e.y, c < 256) (hs : sq ≤ 9223372036854775807) (hr : rB e = false) :
    Calls Try.prog 17 #[.agg (enA e), .int .i64 z, .int .i64 o, .int .i64 ep, .int .i64 sq] w (DecPost fr0 10 w) := by
  have HL := Lib.hid hl
  have Hb := Lib.hid hb
  have Hq := Lib.hid hs
  have Hr := Lib.hid hr
  clear hr
  have hz := zero_fr
  have hz4 := zero_44
  have HX0 : Hid (Blk ((w.alloc (Obj.cells (enA e) 25)).alloc (Obj.cells (frA fr0) 41)) w.heap.size 25 (enA e)) := Lib.hid (Blk.alloc (Blk.new w 25 (enA e)) _)
  have HO0 : Hid (Blk ((w.alloc (Obj.cells (enA e) 25)).alloc (Obj.cells (frA fr0) 41)) (w.heap.size + 1) 41 (frA fr0)) := Lib.hid (by
    have h := Blk.new (w.alloc (Obj.cells (enA e) 25)) 41 (frA fr0)
    rwa [show (w.alloc (Obj.cells (enA e) 25)).heap.size = w.heap.size + 1 by simp] at h)
  have HB0 : Hid (Below w.heap.size w ((w.alloc (Obj.cells (enA e) 25)).alloc (Obj.cells (frA fr0) 41))) := Lib.hid (bthen (below_alloc _ _) (below_alloc _ _))
  clear hl hb hs
  go_enter Try.func17, Try.ntmps17
  go_wp2_with (first | (refine wpl_load rfl _ rfl (w.heap.size) rfl _ _ _ HX0.out Try.underlying25 rfl (info_enA HL.out) ?_; go_frame))
  refine (body_bad e _ HL.out Hb.out Hr.out).mono ?_
  rintro en w1 ⟨rfl, hb1⟩
  have HX1 : Hid (Blk (w1.alloc (Obj.cells (bA (zeros 44)) 26)) w.heap.size 25 (enA e)) := Lib.hid ((HX0.out.below hb1 HX0.out.lt).alloc _)
  have HO1 : Hid (Blk (w1.alloc (Obj.cells (bA (zeros 44)) 26)) (w.heap.size + 1) 41 (frA fr0)) := Lib.hid ((HO0.out.below hb1 HO0.out.lt).alloc _)
  have HE1 : Hid (Blk (w1.alloc (Obj.cells (bA (zeros 44)) 26)) w1.heap.size 26 (bA (zeros 44))) := Lib.hid (Blk.new _ _ _)
  have HB1 : Hid (Below w.heap.size w (w1.alloc (Obj.cells (bA (zeros 44)) 26))) := Lib.hid (bthen (bthen HB0.out hb1) (below_alloc _ _))
  have HZ1 : Hid ((w1.alloc (Obj.cells (bA (zeros 44)) 26)).heap.size = w1.heap.size + 1) := Lib.hid (by simp)
  have c0 := (HX1.out.cell 0).trans (enA_at0 e)
  have HX2 : Hid (Blk ((w1.alloc (Obj.cells (bA (zeros 44)) 26)).alloc (Obj.cells (frA ⟨e.k, z, o, ep, sq, zeros 44⟩) 41)) w.heap.size 25 (enA e)) := Lib.hid (HX1.out.alloc _)
  have HO2 : Hid (Blk ((w1.alloc (Obj.cells (bA (zeros 44)) 26)).alloc (Obj.cells (frA ⟨e.k, z, o, ep, sq, zeros 44⟩) 41)) (w.heap.size + 1) 41 (frA fr0)) := Lib.hid (HO1.out.alloc _)
  have HN2 : Hid (Blk ((w1.alloc (Obj.cells (bA (zeros 44)) 26)).alloc (Obj.cells (frA ⟨e.k, z, o, ep, sq, zeros 44⟩) 41)) (w1.heap.size + 1) 41 (frA ⟨e.k, z, o, ep, sq, zeros 44⟩)) := Lib.hid (by have h := Blk.new (w1.alloc (Obj.cells (bA (zeros 44)) 26)) 41 (frA ⟨e.k, z, o, ep, sq, zeros 44⟩); rwa [HZ1.out] at h)
  have HB2 : Hid (Below w.heap.size w ((w1.alloc (Obj.cells (bA (zeros 44)) 26)).alloc (Obj.cells (frA ⟨e.k, z, o, ep, sq, zeros 44⟩) 41))) := Lib.hid (bthen HB1.out (below_alloc _ _))
  clear hb1 HX0 HO0 HB0
  go_wp2_with (first | (refine wpl_store_new rfl _ _ rfl (bA (zeros 44)) w1 26 (bA (zeros 44)) rfl rfl rfl (info_44 (zeros_length 44)) rfl (bA_one _) ?_; go_frame) | (refine wpl_load rfl _ rfl (w1.heap.size) rfl _ _ _ HE1.out Try.underlying26 rfl (info_44 (zeros_length 44)) ?_; go_frame) | (refine wpl_build (by kernel_rfl) 41 _ rfl (.agg (frA ⟨e.k, z, o, ep, sq, zeros 44⟩)) (fun _ => by kernel_rfl) ?_; clear c0; go_frame) | (refine wpl_store_new rfl _ _ rfl (frA ⟨e.k, z, o, ep, sq, zeros 44⟩) (w1.alloc (Obj.cells (bA (zeros 44)) 26)) 41 (frA fr0) rfl (by rw [HZ1.out]; rfl) rfl (info_frA (zeros_length 44)) ((frA_size fr0_len).trans (frA_size (zeros_length 44)).symm) frA_one ?_; go_frame) | (refine wpl_build (by kernel_rfl) 41 _ rfl (.agg (frA fr0)) (fun _ => by kernel_rfl) ?_; go_frame) | (refine wpl_store rfl _ _ rfl (w.heap.size + 1) (frA fr0) rfl rfl _ _ HO2.out (info_frA fr0_len) rfl frA_one ?_; intro w9 hS9 hK9; have HS9 := Lib.hid hS9; have HK9 := Lib.hid hK9; clear hS9 hK9; go_frame))
  exact bodyPost_ret (v := .tuple #[.agg (frA fr0), .int .i64 10]) (results_cell_slot Try.results17 _ _ (w.heap.size + 1) _ _ _ _ rfl rfl HS9.out Try.underlying41 rfl (info_frA fr0_len)) rfl ⟨rfl, bkept HB2.out (Nat.le_refl _) HK9.out (fun i hi h => by omega)⟩

set_option maxRecDepth 100000 in
set_option maxHeartbeats 4000000 in
theorem eframe_am (e : EnR) (z o ep sq : Int) (w : World) (hl : e.y.length = 32) (hb : ∀ c ∈ e.y, c < 256) (hs : sq ≤ 9223372036854775807) (hr : rB e = true) (ha : amB e sq = false) :
    Calls Try.prog 17 #[.agg (enA e), .int .i64 z, .int .i64 o, .int .i64 ep, .int .i64 sq] w (DecPost fr0 10 w) := by
  have HL := Lib.hid hl
  have Hb := Lib.hid hb
  have Hq := Lib.hid hs
  have Hr := Lib.hid hr
  have H0 : Hid (0 ≤ e.f) := Lib.hid (rB_ranges hr).1.1
  have Ha := Lib.hid ha
  clear hr ha
  have hz := zero_fr
  have hz4 := zero_44
  have HX0 : Hid (Blk ((w.alloc (Obj.cells (enA e) 25)).alloc (Obj.cells (frA fr0) 41)) w.heap.size 25 (enA e)) := Lib.hid (Blk.alloc (Blk.new w 25 (enA e)) _)
  have HO0 : Hid (Blk ((w.alloc (Obj.cells (enA e) 25)).alloc (Obj.cells (frA fr0) 41)) (w.heap.size + 1) 41 (frA fr0)) := Lib.hid (by
    have h := Blk.new (w.alloc (Obj.cells (enA e) 25)) 41 (frA fr0)
    rwa [show (w.alloc (Obj.cells (enA e) 25)).heap.size = w.heap.size + 1 by simp] at h)
  have HB0 : Hid (Below w.heap.size w ((w.alloc (Obj.cells (enA e) 25)).alloc (Obj.cells (frA fr0) 41))) := Lib.hid (bthen (below_alloc _ _) (below_alloc _ _))
  obtain ⟨B, hg⟩ : ∃ B, ebod e = B := ⟨_, rfl⟩
  have Hg : Hid (B.length = 44) := Lib.hid (hg ▸ ebod_length hl)
  have HG := Lib.hid hg
  clear hg
  clear hl hb hs
  go_enter Try.func17, Try.ntmps17
  go_wp2_with (first | (refine wpl_load rfl _ rfl (w.heap.size) rfl _ _ _ HX0.out Try.underlying25 rfl (info_enA HL.out) ?_; go_frame))
  refine (body_ok e _ HL.out Hb.out Hr.out).mono ?_
  rintro en w1 ⟨rfl, hb1⟩
  rw [HG.out]
  have HX1 : Hid (Blk (w1.alloc (Obj.cells (bA (B)) 26)) w.heap.size 25 (enA e)) := Lib.hid ((HX0.out.below hb1 HX0.out.lt).alloc _)
  have HO1 : Hid (Blk (w1.alloc (Obj.cells (bA (B)) 26)) (w.heap.size + 1) 41 (frA fr0)) := Lib.hid ((HO0.out.below hb1 HO0.out.lt).alloc _)
  have HE1 : Hid (Blk (w1.alloc (Obj.cells (bA (B)) 26)) w1.heap.size 26 (bA (B))) := Lib.hid (Blk.new _ _ _)
  have HB1 : Hid (Below w.heap.size w (w1.alloc (Obj.cells (bA (B)) 26))) := Lib.hid (bthen (bthen HB0.out hb1) (below_alloc _ _))
  have HZ1 : Hid ((w1.alloc (Obj.cells (bA (B)) 26)).heap.size = w1.heap.size + 1) := Lib.hid (by simp)
  have c0 := (HX1.out.cell 0).trans (enA_at0 e)
  have HX2 : Hid (Blk ((w1.alloc (Obj.cells (bA (B)) 26)).alloc (Obj.cells (frA ⟨e.k, z, o, ep, sq, B⟩) 41)) w.heap.size 25 (enA e)) := Lib.hid (HX1.out.alloc _)
  have HO2 : Hid (Blk ((w1.alloc (Obj.cells (bA (B)) 26)).alloc (Obj.cells (frA ⟨e.k, z, o, ep, sq, B⟩) 41)) (w.heap.size + 1) 41 (frA fr0)) := Lib.hid (HO1.out.alloc _)
  have HN2 : Hid (Blk ((w1.alloc (Obj.cells (bA (B)) 26)).alloc (Obj.cells (frA ⟨e.k, z, o, ep, sq, B⟩) 41)) (w1.heap.size + 1) 41 (frA ⟨e.k, z, o, ep, sq, B⟩)) := Lib.hid (by have h := Blk.new (w1.alloc (Obj.cells (bA (B)) 26)) 41 (frA ⟨e.k, z, o, ep, sq, B⟩); rwa [HZ1.out] at h)
  have HB2 : Hid (Below w.heap.size w ((w1.alloc (Obj.cells (bA (B)) 26)).alloc (Obj.cells (frA ⟨e.k, z, o, ep, sq, B⟩) 41))) := Lib.hid (bthen HB1.out (below_alloc _ _))
  clear hb1 HX0 HO0 HB0
  go_wp2_with (first | (refine wpl_store_new rfl _ _ rfl (bA (B)) w1 26 (bA (zeros 44)) rfl rfl rfl (info_44 Hg.out) ((bA_size _).trans ((zeros_length 44).trans ((bA_size _).trans Hg.out).symm)) (bA_one _) ?_; go_frame) | (refine wpl_load rfl _ rfl (w1.heap.size) rfl _ _ _ HE1.out Try.underlying26 rfl (info_44 Hg.out) ?_; go_frame) | (refine wpl_build (by kernel_rfl) 41 _ rfl (.agg (frA ⟨e.k, z, o, ep, sq, B⟩)) (fun _ => by obtain ⟨g, rfl⟩ := list_as Hg.out; kernel_rfl) ?_; go_frame) | (refine wpl_store_new rfl _ _ rfl (frA ⟨e.k, z, o, ep, sq, B⟩) (w1.alloc (Obj.cells (bA (B)) 26)) 41 (frA fr0) rfl (by rw [HZ1.out]; rfl) rfl (info_frA Hg.out) ((frA_size fr0_len).trans (frA_size Hg.out).symm) frA_one ?_; go_frame) | (refine wpl_load_g (by kernel_rfl) _ rfl (w.heap.size) rfl _ _ _ HX2.out Try.underlying25 rfl (info_enA HL.out) ?_; go_frame))
  clear c0 hz4
  generalize (w1.alloc (Obj.cells (bA (B)) 26)).alloc (Obj.cells (frA ⟨e.k, z, o, ep, sq, B⟩) 41) = v2 at *
  refine (among_any e sq _ H0.out Hq.out).mono ?_
  rintro en w3 ⟨rfl, hb3⟩
  rw [Ha.out]
  have HX3 := Lib.hid (HX2.out.below hb3 HX2.out.lt)
  have HO3 := Lib.hid (HO2.out.below hb3 HO2.out.lt)
  have HN3 := Lib.hid (HN2.out.below hb3 HN2.out.lt)
  have HB3 := Lib.hid (bthen HB2.out hb3)
  clear hb3 HX1 HO1 HE1 HB1 HX2 HO2 HN2 HB2
  go_wp2_with (first | (refine wpl_build (by kernel_rfl) 41 _ rfl (.agg (frA fr0)) (fun _ => by kernel_rfl) ?_; go_frame) | (refine wpl_store rfl _ _ rfl (w.heap.size + 1) (frA fr0) rfl rfl _ _ HO3.out (info_frA fr0_len) rfl frA_one ?_; intro w9 hS9 hK9; have HS9 := Lib.hid hS9; have HK9 := Lib.hid hK9; clear hS9 hK9; go_frame))
  exact bodyPost_ret (v := .tuple #[.agg (frA fr0), .int .i64 10]) (results_cell_slot Try.results17 _ _ (w.heap.size + 1) _ _ _ _ rfl rfl HS9.out Try.underlying41 rfl (info_frA fr0_len)) rfl ⟨rfl, bkept HB3.out (Nat.le_refl _) HK9.out (fun i hi h => by omega)⟩

set_option maxRecDepth 100000 in
set_option maxHeartbeats 4000000 in
theorem eframe_fr (e : EnR) (z o ep sq : Int) (w : World) (hl : e.y.length = 32) (hb : ∀ c ∈ e.y, c < 256) (hs : sq ≤ 9223372036854775807) (hr : rB e = true) (ha : amB e sq = true) (hf : rightB ⟨e.k, z, o, ep, sq, ebod e⟩ = false) :
    Calls Try.prog 17 #[.agg (enA e), .int .i64 z, .int .i64 o, .int .i64 ep, .int .i64 sq] w (DecPost fr0 10 w) := by
  have HL := Lib.hid hl
  have Hb := Lib.hid hb
  have Hq := Lib.hid hs
  have Hr := Lib.hid hr
  have H0 : Hid (0 ≤ e.f) := Lib.hid (rB_ranges hr).1.1
  have Ha := Lib.hid ha
  clear hr ha
  have Hf : ∀ xs : List Nat, rightB ⟨e.k, z, o, ep, sq, xs⟩ = false := fun _ => hf
  have Hf := Lib.hid Hf
  clear hf
  have hz := zero_fr
  have hz4 := zero_44
  have HX0 : Hid (Blk ((w.alloc (Obj.cells (enA e) 25)).alloc (Obj.cells (frA fr0) 41)) w.heap.size 25 (enA e)) := Lib.hid (Blk.alloc (Blk.new w 25 (enA e)) _)
  have HO0 : Hid (Blk ((w.alloc (Obj.cells (enA e) 25)).alloc (Obj.cells (frA fr0) 41)) (w.heap.size + 1) 41 (frA fr0)) := Lib.hid (by
    have h := Blk.new (w.alloc (Obj.cells (enA e) 25)) 41 (frA fr0)
    rwa [show (w.alloc (Obj.cells (enA e) 25)).heap.size = w.heap.size + 1 by simp] at h)
  have HB0 : Hid (Below w.heap.size w ((w.alloc (Obj.cells (enA e) 25)).alloc (Obj.cells (frA fr0) 41))) := Lib.hid (bthen (below_alloc _ _) (below_alloc _ _))
  obtain ⟨B, hg⟩ : ∃ B, ebod e = B := ⟨_, rfl⟩
  have Hg : Hid (B.length = 44) := Lib.hid (hg ▸ ebod_length hl)
  have HG := Lib.hid hg
  clear hg
  clear hl hb hs
  go_enter Try.func17, Try.ntmps17
  go_wp2_with (first | (refine wpl_load rfl _ rfl (w.heap.size) rfl _ _ _ HX0.out Try.underlying25 rfl (info_enA HL.out) ?_; go_frame))
  refine (body_ok e _ HL.out Hb.out Hr.out).mono ?_
  rintro en w1 ⟨rfl, hb1⟩
  rw [HG.out]
  have HX1 : Hid (Blk (w1.alloc (Obj.cells (bA (B)) 26)) w.heap.size 25 (enA e)) := Lib.hid ((HX0.out.below hb1 HX0.out.lt).alloc _)
  have HO1 : Hid (Blk (w1.alloc (Obj.cells (bA (B)) 26)) (w.heap.size + 1) 41 (frA fr0)) := Lib.hid ((HO0.out.below hb1 HO0.out.lt).alloc _)
  have HE1 : Hid (Blk (w1.alloc (Obj.cells (bA (B)) 26)) w1.heap.size 26 (bA (B))) := Lib.hid (Blk.new _ _ _)
  have HB1 : Hid (Below w.heap.size w (w1.alloc (Obj.cells (bA (B)) 26))) := Lib.hid (bthen (bthen HB0.out hb1) (below_alloc _ _))
  have HZ1 : Hid ((w1.alloc (Obj.cells (bA (B)) 26)).heap.size = w1.heap.size + 1) := Lib.hid (by simp)
  have c0 := (HX1.out.cell 0).trans (enA_at0 e)
  have HX2 : Hid (Blk ((w1.alloc (Obj.cells (bA (B)) 26)).alloc (Obj.cells (frA ⟨e.k, z, o, ep, sq, B⟩) 41)) w.heap.size 25 (enA e)) := Lib.hid (HX1.out.alloc _)
  have HO2 : Hid (Blk ((w1.alloc (Obj.cells (bA (B)) 26)).alloc (Obj.cells (frA ⟨e.k, z, o, ep, sq, B⟩) 41)) (w.heap.size + 1) 41 (frA fr0)) := Lib.hid (HO1.out.alloc _)
  have HN2 : Hid (Blk ((w1.alloc (Obj.cells (bA (B)) 26)).alloc (Obj.cells (frA ⟨e.k, z, o, ep, sq, B⟩) 41)) (w1.heap.size + 1) 41 (frA ⟨e.k, z, o, ep, sq, B⟩)) := Lib.hid (by have h := Blk.new (w1.alloc (Obj.cells (bA (B)) 26)) 41 (frA ⟨e.k, z, o, ep, sq, B⟩); rwa [HZ1.out] at h)
  have HB2 : Hid (Below w.heap.size w ((w1.alloc (Obj.cells (bA (B)) 26)).alloc (Obj.cells (frA ⟨e.k, z, o, ep, sq, B⟩) 41))) := Lib.hid (bthen HB1.out (below_alloc _ _))
  clear hb1 HX0 HO0 HB0
  go_wp2_with (first | (refine wpl_store_new rfl _ _ rfl (bA (B)) w1 26 (bA (zeros 44)) rfl rfl rfl (info_44 Hg.out) ((bA_size _).trans ((zeros_length 44).trans ((bA_size _).trans Hg.out).symm)) (bA_one _) ?_; go_frame) | (refine wpl_load rfl _ rfl (w1.heap.size) rfl _ _ _ HE1.out Try.underlying26 rfl (info_44 Hg.out) ?_; go_frame) | (refine wpl_build (by kernel_rfl) 41 _ rfl (.agg (frA ⟨e.k, z, o, ep, sq, B⟩)) (fun _ => by obtain ⟨g, rfl⟩ := list_as Hg.out; kernel_rfl) ?_; go_frame) | (refine wpl_store_new rfl _ _ rfl (frA ⟨e.k, z, o, ep, sq, B⟩) (w1.alloc (Obj.cells (bA (B)) 26)) 41 (frA fr0) rfl (by rw [HZ1.out]; rfl) rfl (info_frA Hg.out) ((frA_size fr0_len).trans (frA_size Hg.out).symm) frA_one ?_; go_frame) | (refine wpl_load_g (by kernel_rfl) _ rfl (w.heap.size) rfl _ _ _ HX2.out Try.underlying25 rfl (info_enA HL.out) ?_; go_frame))
  clear c0 hz4
  generalize (w1.alloc (Obj.cells (bA (B)) 26)).alloc (Obj.cells (frA ⟨e.k, z, o, ep, sq, B⟩) 41) = v2 at *
  refine (among_any e sq _ H0.out Hq.out).mono ?_
  rintro en w3 ⟨rfl, hb3⟩
  rw [Ha.out]
  have HX3 := Lib.hid (HX2.out.below hb3 HX2.out.lt)
  have HO3 := Lib.hid (HO2.out.below hb3 HO2.out.lt)
  have HN3 := Lib.hid (HN2.out.below hb3 HN2.out.lt)
  have HB3 := Lib.hid (bthen HB2.out hb3)
  clear hb3 HX1 HO1 HE1 HB1 HX2 HO2 HN2 HB2
  go_wp2_with (first | (refine wpl_load_g (by kernel_rfl) _ rfl (w1.heap.size + 1) rfl _ _ _ HN3.out Try.underlying41 rfl (info_frA Hg.out) ?_; go_frame))
  refine (right_any ⟨e.k, z, o, ep, sq, B⟩ _).mono ?_
  rintro en w4 ⟨rfl, hb4⟩
  rw [Hf.out _]
  have HO4 := Lib.hid (HO3.out.below hb4 HO3.out.lt)
  have HN4 := Lib.hid (HN3.out.below hb4 HN3.out.lt)
  have HB4 := Lib.hid (bthen HB3.out hb4)
  clear hb4 HX3 HO3 HN3 HB3
  go_wp2_with (first | (refine wpl_build (by kernel_rfl) 41 _ rfl (.agg (frA fr0)) (fun _ => by kernel_rfl) ?_; go_frame) | (refine wpl_store rfl _ _ rfl (w.heap.size + 1) (frA fr0) rfl rfl _ _ HO4.out (info_frA fr0_len) rfl frA_one ?_; intro w9 hS9 hK9; have HS9 := Lib.hid hS9; have HK9 := Lib.hid hK9; clear hS9 hK9; go_frame))
  exact bodyPost_ret (v := .tuple #[.agg (frA fr0), .int .i64 10]) (results_cell_slot Try.results17 _ _ (w.heap.size + 1) _ _ _ _ rfl rfl HS9.out Try.underlying41 rfl (info_frA fr0_len)) rfl ⟨rfl, bkept HB4.out (Nat.le_refl _) HK9.out (fun i hi h => by omega)⟩

set_option maxRecDepth 100000 in
set_option maxHeartbeats 4000000 in
theorem eframe_ok (e : EnR) (z o ep sq : Int) (w : World) (hl : e.y.length = 32) (hb : ∀ c ∈ e.y, c < 256) (hs : sq ≤ 9223372036854775807) (hr : rB e = true) (ha : amB e sq = true) (hf : rightB ⟨e.k, z, o, ep, sq, ebod e⟩ = true) :
    Calls Try.prog 17 #[.agg (enA e), .int .i64 z, .int .i64 o, .int .i64 ep, .int .i64 sq] w (DecPost ⟨e.k, z, o, ep, sq, ebod e⟩ 0 w) := by
  have HL := Lib.hid hl
  have Hb := Lib.hid hb
  have Hq := Lib.hid hs
  have Hr := Lib.hid hr
  have H0 : Hid (0 ≤ e.f) := Lib.hid (rB_ranges hr).1.1
  have Ha := Lib.hid ha
  clear hr ha
  have Hf : ∀ xs : List Nat, rightB ⟨e.k, z, o, ep, sq, xs⟩ = true := fun _ => hf
  have Hf := Lib.hid Hf
  clear hf
  have hz := zero_fr
  have hz4 := zero_44
  have HX0 : Hid (Blk ((w.alloc (Obj.cells (enA e) 25)).alloc (Obj.cells (frA fr0) 41)) w.heap.size 25 (enA e)) := Lib.hid (Blk.alloc (Blk.new w 25 (enA e)) _)
  have HO0 : Hid (Blk ((w.alloc (Obj.cells (enA e) 25)).alloc (Obj.cells (frA fr0) 41)) (w.heap.size + 1) 41 (frA fr0)) := Lib.hid (by
    have h := Blk.new (w.alloc (Obj.cells (enA e) 25)) 41 (frA fr0)
    rwa [show (w.alloc (Obj.cells (enA e) 25)).heap.size = w.heap.size + 1 by simp] at h)
  have HB0 : Hid (Below w.heap.size w ((w.alloc (Obj.cells (enA e) 25)).alloc (Obj.cells (frA fr0) 41))) := Lib.hid (bthen (below_alloc _ _) (below_alloc _ _))
  obtain ⟨B, hg⟩ : ∃ B, ebod e = B := ⟨_, rfl⟩
  have Hg : Hid (B.length = 44) := Lib.hid (hg ▸ ebod_length hl)
  have HG := Lib.hid hg
  clear hg
  clear hl hb hs
  go_enter Try.func17, Try.ntmps17
  go_wp2_with (first | (refine wpl_load rfl _ rfl (w.heap.size) rfl _ _ _ HX0.out Try.underlying25 rfl (info_enA HL.out) ?_; go_frame))
  refine (body_ok e _ HL.out Hb.out Hr.out).mono ?_
  rintro en w1 ⟨rfl, hb1⟩
  rw [HG.out]
  have HX1 : Hid (Blk (w1.alloc (Obj.cells (bA (B)) 26)) w.heap.size 25 (enA e)) := Lib.hid ((HX0.out.below hb1 HX0.out.lt).alloc _)
  have HO1 : Hid (Blk (w1.alloc (Obj.cells (bA (B)) 26)) (w.heap.size + 1) 41 (frA fr0)) := Lib.hid ((HO0.out.below hb1 HO0.out.lt).alloc _)
  have HE1 : Hid (Blk (w1.alloc (Obj.cells (bA (B)) 26)) w1.heap.size 26 (bA (B))) := Lib.hid (Blk.new _ _ _)
  have HB1 : Hid (Below w.heap.size w (w1.alloc (Obj.cells (bA (B)) 26))) := Lib.hid (bthen (bthen HB0.out hb1) (below_alloc _ _))
  have HZ1 : Hid ((w1.alloc (Obj.cells (bA (B)) 26)).heap.size = w1.heap.size + 1) := Lib.hid (by simp)
  have c0 := (HX1.out.cell 0).trans (enA_at0 e)
  have HX2 : Hid (Blk ((w1.alloc (Obj.cells (bA (B)) 26)).alloc (Obj.cells (frA ⟨e.k, z, o, ep, sq, B⟩) 41)) w.heap.size 25 (enA e)) := Lib.hid (HX1.out.alloc _)
  have HO2 : Hid (Blk ((w1.alloc (Obj.cells (bA (B)) 26)).alloc (Obj.cells (frA ⟨e.k, z, o, ep, sq, B⟩) 41)) (w.heap.size + 1) 41 (frA fr0)) := Lib.hid (HO1.out.alloc _)
  have HN2 : Hid (Blk ((w1.alloc (Obj.cells (bA (B)) 26)).alloc (Obj.cells (frA ⟨e.k, z, o, ep, sq, B⟩) 41)) (w1.heap.size + 1) 41 (frA ⟨e.k, z, o, ep, sq, B⟩)) := Lib.hid (by have h := Blk.new (w1.alloc (Obj.cells (bA (B)) 26)) 41 (frA ⟨e.k, z, o, ep, sq, B⟩); rwa [HZ1.out] at h)
  have HB2 : Hid (Below w.heap.size w ((w1.alloc (Obj.cells (bA (B)) 26)).alloc (Obj.cells (frA ⟨e.k, z, o, ep, sq, B⟩) 41))) := Lib.hid (bthen HB1.out (below_alloc _ _))
  clear hb1 HX0 HO0 HB0
  go_wp2_with (first | (refine wpl_store_new rfl _ _ rfl (bA (B)) w1 26 (bA (zeros 44)) rfl rfl rfl (info_44 Hg.out) ((bA_size _).trans ((zeros_length 44).trans ((bA_size _).trans Hg.out).symm)) (bA_one _) ?_; go_frame) | (refine wpl_load rfl _ rfl (w1.heap.size) rfl _ _ _ HE1.out Try.underlying26 rfl (info_44 Hg.out) ?_; go_frame) | (refine wpl_build (by kernel_rfl) 41 _ rfl (.agg (frA ⟨e.k, z, o, ep, sq, B⟩)) (fun _ => by obtain ⟨g, rfl⟩ := list_as Hg.out; kernel_rfl) ?_; go_frame) | (refine wpl_store_new rfl _ _ rfl (frA ⟨e.k, z, o, ep, sq, B⟩) (w1.alloc (Obj.cells (bA (B)) 26)) 41 (frA fr0) rfl (by rw [HZ1.out]; rfl) rfl (info_frA Hg.out) ((frA_size fr0_len).trans (frA_size Hg.out).symm) frA_one ?_; go_frame) | (refine wpl_load_g (by kernel_rfl) _ rfl (w.heap.size) rfl _ _ _ HX2.out Try.underlying25 rfl (info_enA HL.out) ?_; go_frame))
  clear c0 hz4
  generalize (w1.alloc (Obj.cells (bA (B)) 26)).alloc (Obj.cells (frA ⟨e.k, z, o, ep, sq, B⟩) 41) = v2 at *
  refine (among_any e sq _ H0.out Hq.out).mono ?_
  rintro en w3 ⟨rfl, hb3⟩
  rw [Ha.out]
  have HX3 := Lib.hid (HX2.out.below hb3 HX2.out.lt)
  have HO3 := Lib.hid (HO2.out.below hb3 HO2.out.lt)
  have HN3 := Lib.hid (HN2.out.below hb3 HN2.out.lt)
  have HB3 := Lib.hid (bthen HB2.out hb3)
  clear hb3 HX1 HO1 HE1 HB1 HX2 HO2 HN2 HB2
  go_wp2_with (first | (refine wpl_load_g (by kernel_rfl) _ rfl (w1.heap.size + 1) rfl _ _ _ HN3.out Try.underlying41 rfl (info_frA Hg.out) ?_; go_frame))
  refine (right_any ⟨e.k, z, o, ep, sq, B⟩ _).mono ?_
  rintro en w4 ⟨rfl, hb4⟩
  rw [Hf.out _]
  have HO4 := Lib.hid (HO3.out.below hb4 HO3.out.lt)
  have HN4 := Lib.hid (HN3.out.below hb4 HN3.out.lt)
  have HB4 := Lib.hid (bthen HB3.out hb4)
  clear hb4 HX3 HO3 HN3 HB3
  go_wp2_with (first | (refine wpl_load rfl _ rfl (w1.heap.size + 1) rfl _ _ _ HN4.out Try.underlying41 rfl (info_frA Hg.out) ?_; go_frame) | (refine wpl_store rfl _ _ rfl (w.heap.size + 1) (frA ⟨e.k, z, o, ep, sq, B⟩) rfl rfl _ _ HO4.out (info_frA Hg.out) ((frA_size fr0_len).trans (frA_size Hg.out).symm) frA_one ?_; intro w9 hS9 hK9; have HS9 := Lib.hid hS9; have HK9 := Lib.hid hK9; clear hS9 hK9; go_frame))
  rw [HG.out]
  exact bodyPost_ret (v := .tuple #[.agg (frA ⟨e.k, z, o, ep, sq, B⟩), .int .i64 0]) (results_cell_slot Try.results17 _ _ (w.heap.size + 1) _ _ _ _ rfl rfl HS9.out Try.underlying41 rfl (info_frA Hg.out)) rfl ⟨rfl, bkept HB4.out (Nat.le_refl _) HK9.out (fun i hi h => by omega)⟩

/-- Has an entry a frame there? -/
def frmB (e : EnR) (z o ep sq : Int) : Bool := rB e && amB e sq && rightB ⟨e.k, z, o, ep, sq, ebod e⟩
def frmV (e : EnR) (z o ep sq : Int) : FrR := if frmB e z o ep sq = true then ⟨e.k, z, o, ep, sq, ebod e⟩ else fr0
def frmE (e : EnR) (z o ep sq : Int) : Int := if frmB e z o ep sq = true then 0 else 10
theorem frmV_ok {e : EnR} {z o ep sq : Int} (h : frmB e z o ep sq = true) : frmV e z o ep sq = ⟨e.k, z, o, ep, sq, ebod e⟩ := if_pos h
theorem frmE_ok {e : EnR} {z o ep sq : Int} (h : frmB e z o ep sq = true) : frmE e z o ep sq = 0 := if_pos h
theorem frmV_bad {e : EnR} {z o ep sq : Int} (h : frmB e z o ep sq = false) : frmV e z o ep sq = fr0 := if_neg (by rw [h]; decide)
theorem frmE_bad {e : EnR} {z o ep sq : Int} (h : frmB e z o ep sq = false) : frmE e z o ep sq = 10 := if_neg (by rw [h]; decide)
theorem frmV_len {e : EnR} {z o ep sq : Int} (h : e.y.length = 32) : (frmV e z o ep sq).b.length = 44 := by
  unfold frmV; split
  · exact ebod_length h
  · exact fr0_len
theorem eframe_any (e : EnR) (z o ep sq : Int) (w : World) (hl : e.y.length = 32) (hb : ∀ c ∈ e.y, c < 256) (hs : sq ≤ 9223372036854775807) :
    Calls Try.prog 17 #[.agg (enA e), .int .i64 z, .int .i64 o, .int .i64 ep, .int .i64 sq] w (DecPost (frmV e z o ep sq) (frmE e z o ep sq) w) := by
  cases hr : rB e with
  | false =>
    have h : frmB e z o ep sq = false := by unfold frmB; rw [hr]; rfl
    rw [frmV_bad h, frmE_bad h]; exact eframe_form e z o ep sq w hl hb hs hr
  | true =>
    cases ha : amB e sq with
    | false =>
      have h : frmB e z o ep sq = false := by unfold frmB; rw [hr, ha]; rfl
      rw [frmV_bad h, frmE_bad h]; exact eframe_am e z o ep sq w hl hb hs hr ha
    | true =>
      cases hf : rightB ⟨e.k, z, o, ep, sq, ebod e⟩ with
      | false =>
        have h : frmB e z o ep sq = false := by unfold frmB; rw [hr, ha, hf]; rfl
        rw [frmV_bad h, frmE_bad h]; exact eframe_fr e z o ep sq w hl hb hs hr ha hf
      | true =>
        have h : frmB e z o ep sq = true := by unfold frmB; rw [hr, ha, hf]; rfl
        rw [frmV_ok h, frmE_ok h]; exact eframe_ok e z o ep sq w hl hb hs hr ha hf

set_option maxRecDepth 100000 in
set_option maxHeartbeats 4000000 in
theorem eread_of (f : FrR) (w : World) (hl : f.b.length = 44) (hb : ∀ c ∈ f.b, c < 256) (hs : f.s ≤ 9223372036854775807) (h : ofB f.k f.b = false) :
    Calls Try.prog 19 #[.agg (frA f)] w (EnP en0 10 w) := by
  have HL := Lib.hid hl
  have Hb := Lib.hid hb
  have Hq := Lib.hid hs
  have Hv := Lib.hid (ofV_bad h)
  have He := Lib.hid (ofE_bad h)
  clear h
  have hz := zero_en
  have hz4 := zero_fr
  have HX0 : Hid (Blk ((w.alloc (Obj.cells (frA f) 41)).alloc (Obj.cells (enA en0) 25)) w.heap.size 41 (frA f)) := Lib.hid (Blk.alloc (Blk.new w 41 (frA f)) _)
  have HO0 : Hid (Blk ((w.alloc (Obj.cells (frA f) 41)).alloc (Obj.cells (enA en0) 25)) (w.heap.size + 1) 25 (enA en0)) := Lib.hid (by
    have h := Blk.new (w.alloc (Obj.cells (frA f) 41)) 25 (enA en0)
    rwa [show (w.alloc (Obj.cells (frA f) 41)).heap.size = w.heap.size + 1 by simp] at h)
  have HB0 : Hid (Below w.heap.size w ((w.alloc (Obj.cells (frA f) 41)).alloc (Obj.cells (enA en0) 25))) := Lib.hid (bthen (below_alloc _ _) (below_alloc _ _))
  have c0 := (HX0.out.cell 0).trans (frA_at0 f)
  clear hl hb hs
  go_enter Try.func19, Try.ntmps19
  go_wp2_with (first | (refine wpl_load_mid (by rfl) 26 _ rfl (w.heap.size) 5 rfl f.b _ (fr_range HX0.out) Try.underlying26 rfl (info_44_l HL.out) ?_; go_frame))
  clear c0
  refine (eof_any f.k f.b _ HL.out Hb.out).mono ?_
  rintro en w1 ⟨rfl, hb1⟩
  rw [Hv.out, He.out]
  have HX1 : Hid (Blk (w1.alloc (Obj.cells (enA (en0)) 25)) w.heap.size 41 (frA f)) := Lib.hid ((HX0.out.below hb1 HX0.out.lt).alloc _)
  have HO1 : Hid (Blk (w1.alloc (Obj.cells (enA (en0)) 25)) (w.heap.size + 1) 25 (enA en0)) := Lib.hid ((HO0.out.below hb1 HO0.out.lt).alloc _)
  have HE1 : Hid (Blk (w1.alloc (Obj.cells (enA (en0)) 25)) w1.heap.size 25 (enA (en0))) := Lib.hid (Blk.new _ _ _)
  have HB1 : Hid (Below w.heap.size w (w1.alloc (Obj.cells (enA (en0)) 25))) := Lib.hid (bthen (bthen HB0.out hb1) (below_alloc _ _))
  clear hb1 HX0 HO0 HB0
  go_wp2_with (first | (refine wpl_store_new rfl _ _ rfl (enA en0) w1 25 (enA en0) rfl rfl rfl (info_enA en0_len) rfl enA_one ?_; go_frame) | (refine wpl_build (by kernel_rfl) 25 _ rfl (.agg (enA en0)) (fun _ => by kernel_rfl) ?_; go_frame) | (refine wpl_store rfl _ _ rfl (w.heap.size + 1) (enA en0) rfl rfl _ _ HO1.out (info_enA en0_len) rfl enA_one ?_; intro w9 hS9 hK9; have HS9 := Lib.hid hS9; have HK9 := Lib.hid hK9; clear hS9 hK9; go_frame))
  exact bodyPost_ret (v := .tuple #[.agg (enA en0), .int .i64 10]) (results_cell_slot Try.results19 _ _ (w.heap.size + 1) _ _ _ _ rfl rfl HS9.out Try.underlying25 rfl (info_enA en0_len)) rfl ⟨rfl, bkept HB1.out (Nat.le_refl _) HK9.out (fun i hi h => by omega)⟩

set_option maxRecDepth 100000 in
set_option maxHeartbeats 4000000 in
theorem eread_fr (f : FrR) (w : World) (hl : f.b.length = 44) (hb : ∀ c ∈ f.b, c < 256) (hs : f.s ≤ 9223372036854775807) (h : ofB f.k f.b = true) (hf : frmB (sd f.k f.b) f.z f.o f.e f.s = false) :
    Calls Try.prog 19 #[.agg (frA f)] w (EnP en0 10 w) := by
  have HL := Lib.hid hl
  have Hb := Lib.hid hb
  have Hq := Lib.hid hs
  have Hv := Lib.hid (ofV_ok h)
  have He := Lib.hid (ofE_ok h)
  have Hs : Hid ((sd f.k f.b).y.length = 32) := Lib.hid (sd_len hl)
  have Hsb : Hid (∀ c ∈ (sd f.k f.b).y, c < 256) := Lib.hid (sd_lt hb)
  have Hfv := Lib.hid (frmV_bad hf)
  have Hfe := Lib.hid (frmE_bad hf)
  clear h hf
  have hz := zero_en
  have hz4 := zero_fr
  have HX0 : Hid (Blk ((w.alloc (Obj.cells (frA f) 41)).alloc (Obj.cells (enA en0) 25)) w.heap.size 41 (frA f)) := Lib.hid (Blk.alloc (Blk.new w 41 (frA f)) _)
  have HO0 : Hid (Blk ((w.alloc (Obj.cells (frA f) 41)).alloc (Obj.cells (enA en0) 25)) (w.heap.size + 1) 25 (enA en0)) := Lib.hid (by
    have h := Blk.new (w.alloc (Obj.cells (frA f) 41)) 25 (enA en0)
    rwa [show (w.alloc (Obj.cells (frA f) 41)).heap.size = w.heap.size + 1 by simp] at h)
  have HB0 : Hid (Below w.heap.size w ((w.alloc (Obj.cells (frA f) 41)).alloc (Obj.cells (enA en0) 25))) := Lib.hid (bthen (below_alloc _ _) (below_alloc _ _))
  have c0 := (HX0.out.cell 0).trans (frA_at0 f)
  clear hl hb hs
  go_enter Try.func19, Try.ntmps19
  go_wp2_with (first | (refine wpl_load_mid (by rfl) 26 _ rfl (w.heap.size) 5 rfl f.b _ (fr_range HX0.out) Try.underlying26 rfl (info_44_l HL.out) ?_; go_frame))
  clear c0
  refine (eof_any f.k f.b _ HL.out Hb.out).mono ?_
  rintro en w1 ⟨rfl, hb1⟩
  rw [Hv.out, He.out]
  generalize hsd : sd f.k f.b = e at *
  have HX1 : Hid (Blk (w1.alloc (Obj.cells (enA (e)) 25)) w.heap.size 41 (frA f)) := Lib.hid ((HX0.out.below hb1 HX0.out.lt).alloc _)
  have HO1 : Hid (Blk (w1.alloc (Obj.cells (enA (e)) 25)) (w.heap.size + 1) 25 (enA en0)) := Lib.hid ((HO0.out.below hb1 HO0.out.lt).alloc _)
  have HE1 : Hid (Blk (w1.alloc (Obj.cells (enA (e)) 25)) w1.heap.size 25 (enA (e))) := Lib.hid (Blk.new _ _ _)
  have HB1 : Hid (Below w.heap.size w (w1.alloc (Obj.cells (enA (e)) 25))) := Lib.hid (bthen (bthen HB0.out hb1) (below_alloc _ _))
  clear hb1 HX0 HO0 HB0
  have c1 := (HX1.out.cell 1).trans (frA_at1 f)
  have c2 := (HX1.out.cell 2).trans (frA_at2 f)
  have c3 := (HX1.out.cell 3).trans (frA_at3 f)
  have c4 := (HX1.out.cell 4).trans (frA_at4 f)
  go_wp2_with (first | (refine wpl_store_new rfl _ _ rfl (enA e) w1 25 (enA en0) rfl rfl rfl (info_enA Hs.out) ((enA_size en0_len).trans (enA_size Hs.out).symm) enA_one ?_; go_frame) | (refine wpl_load rfl _ rfl (w1.heap.size) rfl _ _ _ HE1.out Try.underlying25 rfl (info_enA Hs.out) ?_; go_frame))
  clear c1 c2 c3 c4 hz
  generalize w1.alloc (Obj.cells (enA e) 25) = v1 at *
  refine (eframe_any e f.z f.o f.e f.s _ Hs.out Hsb.out Hq.out).mono ?_
  rintro en w2 ⟨rfl, hb2⟩
  rw [Hfv.out, Hfe.out]
  have HO2 : Hid (Blk (w2.alloc (Obj.cells (frA (fr0)) 41)) (w.heap.size + 1) 25 (enA en0)) := Lib.hid ((HO1.out.below hb2 HO1.out.lt).alloc _)
  have HE2 : Hid (Blk (w2.alloc (Obj.cells (frA (fr0)) 41)) w1.heap.size 25 (enA e)) := Lib.hid ((HE1.out.below hb2 HE1.out.lt).alloc _)
  have HB2 : Hid (Below w.heap.size w (w2.alloc (Obj.cells (frA (fr0)) 41))) := Lib.hid (bthen (bthen HB1.out hb2) (below_alloc _ _))
  clear hb2 HX1 HO1 HE1 HB1
  go_wp2_with (first | (refine wpl_store_new rfl _ _ rfl (frA fr0) w2 41 (frA fr0) rfl rfl rfl (info_frA fr0_len) rfl frA_one ?_; go_frame) | (refine wpl_build (by kernel_rfl) 25 _ rfl (.agg (enA en0)) (fun _ => by kernel_rfl) ?_; go_frame) | (refine wpl_store rfl _ _ rfl (w.heap.size + 1) (enA en0) rfl rfl _ _ HO2.out (info_enA en0_len) rfl enA_one ?_; intro w9 hS9 hK9; have HS9 := Lib.hid hS9; have HK9 := Lib.hid hK9; clear hS9 hK9; go_frame))
  exact bodyPost_ret (v := .tuple #[.agg (enA en0), .int .i64 10]) (results_cell_slot Try.results19 _ _ (w.heap.size + 1) _ _ _ _ rfl rfl HS9.out Try.underlying25 rfl (info_enA en0_len)) rfl ⟨rfl, bkept HB2.out (Nat.le_refl _) HK9.out (fun i hi h => by omega)⟩

set_option maxRecDepth 100000 in
set_option maxHeartbeats 4000000 in
theorem eread_ok (f : FrR) (w : World) (hl : f.b.length = 44) (hb : ∀ c ∈ f.b, c < 256) (hs : f.s ≤ 9223372036854775807) (h : ofB f.k f.b = true) (hf : frmB (sd f.k f.b) f.z f.o f.e f.s = true) :
    Calls Try.prog 19 #[.agg (frA f)] w (EnP (sd f.k f.b) 0 w) := by
  have HL := Lib.hid hl
  have Hb := Lib.hid hb
  have Hq := Lib.hid hs
  have Hv := Lib.hid (ofV_ok h)
  have He := Lib.hid (ofE_ok h)
  have Hs : Hid ((sd f.k f.b).y.length = 32) := Lib.hid (sd_len hl)
  have Hsb : Hid (∀ c ∈ (sd f.k f.b).y, c < 256) := Lib.hid (sd_lt hb)
  have Hfv := Lib.hid (frmV_ok hf)
  have Hfe := Lib.hid (frmE_ok hf)
  clear h hf
  have hz := zero_en
  have hz4 := zero_fr
  have HX0 : Hid (Blk ((w.alloc (Obj.cells (frA f) 41)).alloc (Obj.cells (enA en0) 25)) w.heap.size 41 (frA f)) := Lib.hid (Blk.alloc (Blk.new w 41 (frA f)) _)
  have HO0 : Hid (Blk ((w.alloc (Obj.cells (frA f) 41)).alloc (Obj.cells (enA en0) 25)) (w.heap.size + 1) 25 (enA en0)) := Lib.hid (by
    have h := Blk.new (w.alloc (Obj.cells (frA f) 41)) 25 (enA en0)
    rwa [show (w.alloc (Obj.cells (frA f) 41)).heap.size = w.heap.size + 1 by simp] at h)
  have HB0 : Hid (Below w.heap.size w ((w.alloc (Obj.cells (frA f) 41)).alloc (Obj.cells (enA en0) 25))) := Lib.hid (bthen (below_alloc _ _) (below_alloc _ _))
  have c0 := (HX0.out.cell 0).trans (frA_at0 f)
  clear hl hb hs
  go_enter Try.func19, Try.ntmps19
  go_wp2_with (first | (refine wpl_load_mid (by rfl) 26 _ rfl (w.heap.size) 5 rfl f.b _ (fr_range HX0.out) Try.underlying26 rfl (info_44_l HL.out) ?_; go_frame))
  clear c0
  refine (eof_any f.k f.b _ HL.out Hb.out).mono ?_
  rintro en w1 ⟨rfl, hb1⟩
  rw [Hv.out, He.out]
  generalize hsd : sd f.k f.b = e at *
  have HX1 : Hid (Blk (w1.alloc (Obj.cells (enA (e)) 25)) w.heap.size 41 (frA f)) := Lib.hid ((HX0.out.below hb1 HX0.out.lt).alloc _)
  have HO1 : Hid (Blk (w1.alloc (Obj.cells (enA (e)) 25)) (w.heap.size + 1) 25 (enA en0)) := Lib.hid ((HO0.out.below hb1 HO0.out.lt).alloc _)
  have HE1 : Hid (Blk (w1.alloc (Obj.cells (enA (e)) 25)) w1.heap.size 25 (enA (e))) := Lib.hid (Blk.new _ _ _)
  have HB1 : Hid (Below w.heap.size w (w1.alloc (Obj.cells (enA (e)) 25))) := Lib.hid (bthen (bthen HB0.out hb1) (below_alloc _ _))
  clear hb1 HX0 HO0 HB0
  have c1 := (HX1.out.cell 1).trans (frA_at1 f)
  have c2 := (HX1.out.cell 2).trans (frA_at2 f)
  have c3 := (HX1.out.cell 3).trans (frA_at3 f)
  have c4 := (HX1.out.cell 4).trans (frA_at4 f)
  go_wp2_with (first | (refine wpl_store_new rfl _ _ rfl (enA e) w1 25 (enA en0) rfl rfl rfl (info_enA Hs.out) ((enA_size en0_len).trans (enA_size Hs.out).symm) enA_one ?_; go_frame) | (refine wpl_load rfl _ rfl (w1.heap.size) rfl _ _ _ HE1.out Try.underlying25 rfl (info_enA Hs.out) ?_; go_frame))
  clear c1 c2 c3 c4 hz
  generalize w1.alloc (Obj.cells (enA e) 25) = v1 at *
  refine (eframe_any e f.z f.o f.e f.s _ Hs.out Hsb.out Hq.out).mono ?_
  rintro en w2 ⟨rfl, hb2⟩
  rw [Hfv.out, Hfe.out]
  have HO2 : Hid (Blk (w2.alloc (Obj.cells (frA (⟨e.k, f.z, f.o, f.e, f.s, ebod e⟩)) 41)) (w.heap.size + 1) 25 (enA en0)) := Lib.hid ((HO1.out.below hb2 HO1.out.lt).alloc _)
  have HE2 : Hid (Blk (w2.alloc (Obj.cells (frA (⟨e.k, f.z, f.o, f.e, f.s, ebod e⟩)) 41)) w1.heap.size 25 (enA e)) := Lib.hid ((HE1.out.below hb2 HE1.out.lt).alloc _)
  have HB2 : Hid (Below w.heap.size w (w2.alloc (Obj.cells (frA (⟨e.k, f.z, f.o, f.e, f.s, ebod e⟩)) 41))) := Lib.hid (bthen (bthen HB1.out hb2) (below_alloc _ _))
  clear hb2 HX1 HO1 HE1 HB1
  go_wp2_with (first | (refine wpl_store_new rfl _ _ rfl (frA ⟨e.k, f.z, f.o, f.e, f.s, ebod e⟩) w2 41 (frA fr0) rfl rfl rfl (info_frA (ebod_length Hs.out)) ((frA_size fr0_len).trans (frA_size (ebod_length Hs.out)).symm) frA_one ?_; go_frame) | (refine wpl_load rfl _ rfl (w1.heap.size) rfl _ _ _ HE2.out Try.underlying25 rfl (info_enA Hs.out) ?_; go_frame) | (refine wpl_store rfl _ _ rfl (w.heap.size + 1) (enA e) rfl rfl _ _ HO2.out (info_enA Hs.out) ((enA_size en0_len).trans (enA_size Hs.out).symm) enA_one ?_; intro w9 hS9 hK9; have HS9 := Lib.hid hS9; have HK9 := Lib.hid hK9; clear hS9 hK9; go_frame))
  exact bodyPost_ret (v := .tuple #[.agg (enA e), .int .i64 0]) (results_cell_slot Try.results19 _ _ (w.heap.size + 1) _ _ _ _ rfl rfl HS9.out Try.underlying25 rfl (info_enA Hs.out)) rfl ⟨rfl, bkept HB2.out (Nat.le_refl _) HK9.out (fun i hi h => by omega)⟩

/-- Is a frame an entry's? -/
def rdB (f : FrR) : Bool := ofB f.k f.b && frmB (sd f.k f.b) f.z f.o f.e f.s
def rdV (f : FrR) : EnR := if rdB f = true then sd f.k f.b else en0
def rdE (f : FrR) : Int := if rdB f = true then 0 else 10
theorem rdV_ok {f : FrR} (h : rdB f = true) : rdV f = sd f.k f.b := if_pos h
theorem rdE_ok {f : FrR} (h : rdB f = true) : rdE f = 0 := if_pos h
theorem rdV_bad {f : FrR} (h : rdB f = false) : rdV f = en0 := if_neg (by rw [h]; decide)
theorem rdE_bad {f : FrR} (h : rdB f = false) : rdE f = 10 := if_neg (by rw [h]; decide)
theorem eread_any (f : FrR) (w : World) (hl : f.b.length = 44) (hb : ∀ c ∈ f.b, c < 256) (hs : f.s ≤ 9223372036854775807) : Calls Try.prog 19 #[.agg (frA f)] w (EnP (rdV f) (rdE f) w) := by
  cases h : ofB f.k f.b with
  | false =>
    have hh : rdB f = false := by unfold rdB; rw [h]; rfl
    rw [rdV_bad hh, rdE_bad hh]; exact eread_of f w hl hb hs h
  | true =>
    cases hf : frmB (sd f.k f.b) f.z f.o f.e f.s with
    | false =>
      have hh : rdB f = false := by unfold rdB; rw [h, hf]; rfl
      rw [rdV_bad hh, rdE_bad hh]; exact eread_fr f w hl hb hs h hf
    | true =>
      have hh : rdB f = true := by unfold rdB; rw [h, hf]; rfl
      rw [rdV_ok hh, rdE_ok hh]; exact eread_ok f w hl hb hs h hf

end Go.Proofs.Ytdjnfikacjfkkaa
