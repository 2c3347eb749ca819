/-
  The walk of FrameSpoilt.
-/
import Derived.Test.YtlkghdgomfcfkaaFrameK
import Derived.Test.YtlkghdgomfcfkaaCrcI
namespace Go.Proofs.Ytlkghdgomfcfkaa
open Go.RowKit CrcM
set_option linter.unusedVariables false
set_option linter.unnecessarySimpa false
set_option linter.unusedSimpArgs false

theorem zx_at (xs ys : List Nat) (j : Nat) (h : j < 64) : (zx xs ys 64).getD j 0 = xs.getD j 0 ^^^ ys.getD j 0 := by simp [zx, List.getD, h]

set_option maxRecDepth 100000 in
set_option maxHeartbeats 4000000 in
theorem walkSpoilt_bad (f : FrR) (p : List Nat) (w : World) (hl : f.b.length = 44) (hb : ∀ c ∈ f.b, c < 256) (hp : p.length = 64) (hpb : ∀ c ∈ p, c < 256) (hr : rightB f = false) :
    Calls Try.prog 5 #[.agg (frA f), .agg (bA p)] w fun e w' => e = .returned (.bool true) ∧ Below w.heap.size w w' := by
  have HL := Lib.hid hl
  have Hb := Lib.hid hb
  have HPl := Lib.hid hp
  have HPb := Lib.hid hpb
  have Hr := Lib.hid hr
  have hz1 := zero_tab
  have hz2 := zero_sec
  have hz3 := zero_fr
  have HF0 : Hid (Blk ((w.alloc (Obj.cells (frA f) 24)).alloc (Obj.cells (bA p) 32)) w.heap.size 24 (frA f)) := Lib.hid (Blk.alloc (Blk.new w 24 (frA f)) _)
  have HP0 : Hid (Blk ((w.alloc (Obj.cells (frA f) 24)).alloc (Obj.cells (bA p) 32)) (w.heap.size + 1) 32 (bA p)) := Lib.hid (by
    have h := Blk.new (w.alloc (Obj.cells (frA f) 24)) 32 (bA p)
    rwa [show (w.alloc (Obj.cells (frA f) 24)).heap.size = w.heap.size + 1 by simp] at h)
  have HB0 : Hid (Below w.heap.size w ((w.alloc (Obj.cells (frA f) 24)).alloc (Obj.cells (bA p) 32))) := Lib.hid (bthen (below_alloc _ _) (below_alloc _ _))
  clear hl hb hp hpb hr
  go_enter Try.func5, Try.ntmps5
  go_wp2_with fail
  refine (anchor3_any _).mono ?_
  rintro e w1 ⟨rfl, hb1⟩
  have HF1 := Lib.hid (HF0.out.below hb1 HF0.out.lt)
  have HP1 := Lib.hid (HP0.out.below hb1 HP0.out.lt)
  have HB1 := Lib.hid (bthen HB0.out hb1)
  clear hb1 HB0 HF0 HP0
  go_wp2_with fail
  refine (new_any _).mono ?_
  rintro e w2 ⟨rfl, hb2⟩
  have HT3 : Hid (Blk (w2.alloc (Obj.cells tbl 28)) w2.heap.size 28 tbl) := Lib.hid (Blk.new _ _ _)
  have HF3 := Lib.hid ((HF1.out.below hb2 HF1.out.lt).alloc (Obj.cells tbl 28))
  have HP3 := Lib.hid ((HP1.out.below hb2 HP1.out.lt).alloc (Obj.cells tbl 28))
  have HB3 : Hid (Below w.heap.size w (w2.alloc (Obj.cells tbl 28))) := Lib.hid (bthen (bthen HB1.out hb2) (below_alloc _ _))
  clear hb2 HB1 HF1 HP1
  go_wp2_with (first | (refine wpl_store_new rfl _ _ rfl (tbl) w2 28 (pt 0) rfl rfl rfl info_tbl (by rw [pt_size, tbl_size]) tbl_cells ?_; go_frame) | (refine wpl_load rfl _ rfl (w2.heap.size) rfl _ _ _ HT3.out Try.underlying28 rfl info_tbl ?_; go_frame) | (refine wpl_load rfl _ rfl (w.heap.size) rfl _ _ _ HF3.out Try.underlying24 rfl (info_frA HL.out) ?_; go_frame))
  clear hz1
  generalize w2.alloc (Obj.cells tbl 28) = w3 at *
  refine (encode_bad f _ HL.out Hb.out Hr.out).mono ?_
  rintro e w4 ⟨rfl, hb4⟩
  have HB4 := Lib.hid (bthen HB3.out hb4)
  clear hb4 HB3 HT3 HF3 HP3
  go_wp2_with (first | (refine wpl_store_new rfl _ _ rfl (bA (zeros 64)) w4 32 (bA (zeros 64)) rfl rfl rfl (info_sec (zeros_length 64)) ((bA_size _).trans ((zeros_length 64).trans ((bA_size _).trans (zeros_length 64)).symm)) (bA_one _) ?_; go_frame))
  go_ret
  exact ⟨rfl, bthen HB4.out (below_alloc _ _)⟩

set_option maxRecDepth 100000 in
set_option maxHeartbeats 4000000 in
theorem walkSpoilt_mult (f : FrR) (p : List Nat) (w : World) (hl : f.b.length = 44) (hb : ∀ c ∈ f.b, c < 256) (hp : p.length = 64) (hpb : ∀ c ∈ p, c < 256) (hr : rightB f = true) (h0 : ovr 0 p = 0) :
    Calls Try.prog 5 #[.agg (frA f), .agg (bA p)] w fun e w' => e = .returned (.bool true) ∧ Below w.heap.size w w' := by
  have HL := Lib.hid hl
  have Hb := Lib.hid hb
  have HPl := Lib.hid hp
  have HPb := Lib.hid hpb
  have Hr := Lib.hid hr
  have hz1 := zero_tab
  have hz2 := zero_sec
  have hz3 := zero_fr
  have HF0 : Hid (Blk ((w.alloc (Obj.cells (frA f) 24)).alloc (Obj.cells (bA p) 32)) w.heap.size 24 (frA f)) := Lib.hid (Blk.alloc (Blk.new w 24 (frA f)) _)
  have HP0 : Hid (Blk ((w.alloc (Obj.cells (frA f) 24)).alloc (Obj.cells (bA p) 32)) (w.heap.size + 1) 32 (bA p)) := Lib.hid (by
    have h := Blk.new (w.alloc (Obj.cells (frA f) 24)) 32 (bA p)
    rwa [show (w.alloc (Obj.cells (frA f) 24)).heap.size = w.heap.size + 1 by simp] at h)
  have HB0 : Hid (Below w.heap.size w ((w.alloc (Obj.cells (frA f) 24)).alloc (Obj.cells (bA p) 32))) := Lib.hid (bthen (below_alloc _ _) (below_alloc _ _))
  have Hq : Hid (decide (ovr 0 p = 0) = true) := Lib.hid (decide_eq_true h0)
  have Hx : Hid ((decE (zx (sec f) p 64) == 11) = false) := Lib.hid (by rw [decE_sum, spoilt_iff f p hl hb hp hpb, Hq.out]; rfl)
  clear h0
  clear hl hb hp hpb hr
  go_enter Try.func5, Try.ntmps5
  go_wp2_with fail
  refine (anchor3_any _).mono ?_
  rintro e w1 ⟨rfl, hb1⟩
  have HF1 := Lib.hid (HF0.out.below hb1 HF0.out.lt)
  have HP1 := Lib.hid (HP0.out.below hb1 HP0.out.lt)
  have HB1 := Lib.hid (bthen HB0.out hb1)
  clear hb1 HB0 HF0 HP0
  go_wp2_with fail
  refine (new_any _).mono ?_
  rintro e w2 ⟨rfl, hb2⟩
  have HT3 : Hid (Blk (w2.alloc (Obj.cells tbl 28)) w2.heap.size 28 tbl) := Lib.hid (Blk.new _ _ _)
  have HF3 := Lib.hid ((HF1.out.below hb2 HF1.out.lt).alloc (Obj.cells tbl 28))
  have HP3 := Lib.hid ((HP1.out.below hb2 HP1.out.lt).alloc (Obj.cells tbl 28))
  have HB3 : Hid (Below w.heap.size w (w2.alloc (Obj.cells tbl 28))) := Lib.hid (bthen (bthen HB1.out hb2) (below_alloc _ _))
  clear hb2 HB1 HF1 HP1
  go_wp2_with (first | (refine wpl_store_new rfl _ _ rfl (tbl) w2 28 (pt 0) rfl rfl rfl info_tbl (by rw [pt_size, tbl_size]) tbl_cells ?_; go_frame) | (refine wpl_load rfl _ rfl (w2.heap.size) rfl _ _ _ HT3.out Try.underlying28 rfl info_tbl ?_; go_frame) | (refine wpl_load rfl _ rfl (w.heap.size) rfl _ _ _ HF3.out Try.underlying24 rfl (info_frA HL.out) ?_; go_frame))
  clear hz1
  generalize w2.alloc (Obj.cells tbl 28) = w3 at *
  refine (encode_ok f _ HL.out Hb.out Hr.out).mono ?_
  rintro e w4 ⟨rfl, hb4⟩
  have HSl : Hid ((sec f).length = 64) := Lib.hid (sec_length HL.out)
  have HSb : Hid (∀ c ∈ sec f, c < 256) := Lib.hid (sec_lt Hb.out)
  have HT4 := Lib.hid (HT3.out.below hb4 HT3.out.lt)
  have HP4 := Lib.hid (HP3.out.below hb4 HP3.out.lt)
  have HB4 := Lib.hid (bthen HB3.out hb4)
  clear hb4 HB3 HT3 HP3
  have HS5 : Hid (Blk (w4.alloc (Obj.cells (bA (sec f)) 32)) w4.heap.size 32 (bA (sec f))) := Lib.hid (Blk.new _ _ _)
  have HT5 := Lib.hid (HT4.out.alloc (Obj.cells (bA (sec f)) 32))
  have HP5 := Lib.hid (HP4.out.alloc (Obj.cells (bA (sec f)) 32))
  have HB5 := Lib.hid (bthen HB4.out (below_alloc w4 (Obj.cells (bA (sec f)) 32)))
  clear HB4 HT4 HP4
  go_wp2_with (first | (refine wpl_store_new rfl _ _ rfl (bA (sec f)) w4 32 (bA (zeros 64)) rfl rfl rfl (info_sec HSl.out) ((bA_size _).trans ((zeros_length 64).trans ((bA_size _).trans HSl.out).symm)) (bA_one _) ?_; go_frame) | (refine wpl_load rfl _ rfl (w4.heap.size) rfl _ _ _ HS5.out Try.underlying32 rfl (info_sec HSl.out) ?_; go_frame) | (refine wpl_load rfl _ rfl (w.heap.size + 1) rfl _ _ _ HP5.out Try.underlying32 rfl (info_sec HPl.out) ?_; go_frame))
  generalize w4.alloc (Obj.cells (bA (sec f)) 32) = w5 at *
  refine (xor_any (sec f) p _ HSl.out HPl.out HSb.out HPb.out).mono ?_
  rintro e w6 ⟨rfl, hb6⟩
  have HXl : Hid ((zx (sec f) p 64).length = 64) := Lib.hid (zx_length _ _ _)
  have HXb : Hid (∀ c ∈ zx (sec f) p 64, c < 256) := Lib.hid (zx_lt HSb.out HPb.out 64)
  have HT6 := Lib.hid (HT5.out.below hb6 HT5.out.lt)
  have HS6 := Lib.hid (HS5.out.below hb6 HS5.out.lt)
  have HP6 := Lib.hid (HP5.out.below hb6 HP5.out.lt)
  have HB6 := Lib.hid (bthen HB5.out hb6)
  clear hb6 HB5 HT5 HS5 HP5
  have HX7 : Hid (Blk (w6.alloc (Obj.cells (bA (zx (sec f) p 64)) 32)) w6.heap.size 32 (bA (zx (sec f) p 64))) := Lib.hid (Blk.new _ _ _)
  have HT7 := Lib.hid (HT6.out.alloc (Obj.cells (bA (zx (sec f) p 64)) 32))
  have HS7 := Lib.hid (HS6.out.alloc (Obj.cells (bA (zx (sec f) p 64)) 32))
  have HP7 := Lib.hid (HP6.out.alloc (Obj.cells (bA (zx (sec f) p 64)) 32))
  have HB7 := Lib.hid (bthen HB6.out (below_alloc w6 (Obj.cells (bA (zx (sec f) p 64)) 32)))
  clear HB6 HT6 HS6 HP6
  go_wp2_with (first | (refine wpl_store_new rfl _ _ rfl (bA (zx (sec f) p 64)) w6 32 (bA (zeros 64)) rfl rfl rfl (info_sec HXl.out) ((bA_size _).trans ((zeros_length 64).trans ((bA_size _).trans HXl.out).symm)) (bA_one _) ?_; go_frame) | (refine wpl_load rfl _ rfl (w2.heap.size) rfl _ _ _ HT7.out Try.underlying28 rfl info_tbl ?_; go_frame) | (refine wpl_load rfl _ rfl (w6.heap.size) rfl _ _ _ HX7.out Try.underlying32 rfl (info_sec HXl.out) ?_; go_frame))
  clear hz2
  generalize w6.alloc (Obj.cells (bA (zx (sec f) p 64)) 32) = w7 at *
  refine (decode_any (zx (sec f) p 64) _ HXl.out HXb.out).mono ?_
  rintro e w8 ⟨rfl, hb8⟩
  have HLd : Hid ((decF (zx (sec f) p 64)).b.length = 44) := Lib.hid (decF_len HXl.out)
  have HS8 := Lib.hid (HS7.out.below hb8 HS7.out.lt)
  have HP8 := Lib.hid (HP7.out.below hb8 HP7.out.lt)
  have HX8 := Lib.hid (HX7.out.below hb8 HX7.out.lt)
  have HB8 := Lib.hid (bthen HB7.out hb8)
  clear hb8 HB7 HS7 HP7 HX7
  have HS9 := Lib.hid (HS8.out.alloc (Obj.cells (frA (decF (zx (sec f) p 64))) 24))
  have HP9 := Lib.hid (HP8.out.alloc (Obj.cells (frA (decF (zx (sec f) p 64))) 24))
  have HX9 := Lib.hid (HX8.out.alloc (Obj.cells (frA (decF (zx (sec f) p 64))) 24))
  have HB9 := Lib.hid (bthen HB8.out (below_alloc w8 (Obj.cells (frA (decF (zx (sec f) p 64))) 24)))
  clear HB8 HS8 HP8 HX8
  generalize decE (zx (sec f) p 64) = xe at *
  go_wp2_with (first | (refine wpl_store_new rfl _ _ rfl (frA (decF (zx (sec f) p 64))) w8 24 (frA fr0) rfl rfl rfl (info_frA HLd.out) ((frA_size fr0_len).trans (frA_size HLd.out).symm) frA_one ?_; go_frame))
  clear hz3
  generalize w8.alloc (Obj.cells (frA (decF (zx (sec f) p 64))) 24) = w9 at *
  go_loopw [34] (fun i wr => ∃ (j q : Nat), j ≤ 64 ∧ i = .int .i64 j ∧ wr = w9.drewN q) (fun i _ => 64 - (intOf i).toNat)
  case atStart => exact ⟨0, 0, Nat.zero_le _, rfl, rfl⟩
  case round =>
    obtain ⟨j, q, hj, rfl, rfl⟩ := hrel
    by_cases hlt : j < 64
    · have cX := (HX9.out.cell j).trans (bA_at _ j (by rw [HXl.out]; exact hlt))
      have cS := (HS9.out.cell j).trans (bA_at _ j (by rw [HSl.out]; exact hlt))
      have cP := (HP9.out.cell j).trans (bA_at _ j (by rw [HPl.out]; exact hlt))
      rw [zx_at _ _ j hlt] at cX
      have hx := u8_xor_nat _ _ (getD_lt HSb.out j) (getD_lt HPb.out j)
      have lS := getD_lt HSb.out j
      have lP := getD_lt HPb.out j
      generalize (sec f).getD j 0 ^^^ p.getD j 0 = z at *
      generalize (sec f).getD j 0 = x at *
      generalize p.getD j 0 = y at *
      have hn := bne_same z
      have hj0 : (0 : Int) ≤ (j : Int) := by omega
      have hj1 : (j : Int) < 64 := by omega
      go_wp2_with fail
      go_quiet (fail)
      go_wp2_with fail
      go_roundw
      case rel => exact ⟨j + 1, q + nq, by omega, by go_num, rfl⟩
      case measure => simp [intOf]; omega
    · obtain rfl : j = 64 := by omega
      go_wp2_with fail
      have HS10 : Hid (Blk (w9.drewN q).drew w4.heap.size 32 (bA (sec f))) := Lib.hid (HS9.out.drewN q)
      have HP10 : Hid (Blk (w9.drewN q).drew (w.heap.size + 1) 32 (bA p)) := Lib.hid (HP9.out.drewN q)
      have HX10 : Hid (Blk (w9.drewN q).drew w6.heap.size 32 (bA (zx (sec f) p 64))) := Lib.hid (HX9.out.drewN q)
      have HB10 : Hid (Below w.heap.size w (w9.drewN q).drew) := Lib.hid (below_drewN HB9.out q).drew
      have HR10 : Hid (RowB (w9.drewN q).drew (some ⟨w.heap.size + 1, 0, none⟩) 64 64 p) := Lib.hid (row_of_blk HP10.out HPb.out 64 HPl.out (by decide))
      clear HS9 HP9 HX9 HB9
      refine wp_region_held (S := fun w' => Below (w9.drewN q).drew.heap.size (w9.drewN q).drew w') (by kernel_rfl) ?_
      change wpAnyH _ _ _ _ _ _ _ _ (World.drew _)
      generalize (w9.drewN q).drew = u0 at *
      have hS : Below u0.heap.size u0 u0 := Below.refl _ _
      refine takeH hS (i := 0) (d := 49) (v := .agg (bA (zx (sec f) p 64))) rfl rfl (by kernel_rfl) (by kernel_rfl) (by kernel_rfl) (fun _ _ _ h => h) (Or.inl ⟨by kernel_rfl, fun w' hw' => by exact exec_load _ rfl (w6.heap.size) rfl (HX10.out.below hw' HX10.out.lt) Try.underlying32 rfl (info_sec HXl.out)⟩) ?_
      refine takeH hS (i := 1) (d := 50) (v := .agg (bA p)) rfl rfl (by kernel_rfl) (by kernel_rfl) (by kernel_rfl) (fun _ _ _ h => h) (Or.inl ⟨by kernel_rfl, fun w' hw' => by exact exec_load _ rfl (w.heap.size + 1) rfl (HP10.out.below hw' HP10.out.lt) Try.underlying32 rfl (info_sec HPl.out)⟩) ?_
      refine takeH hS (i := 3) (d := 52) (v := .agg (bA (sec f))) rfl rfl (by kernel_rfl) (by kernel_rfl) (by kernel_rfl) (fun _ _ _ h => h) (Or.inl ⟨by kernel_rfl, fun w' hw' => by exact exec_load _ rfl (w4.heap.size) rfl (HS10.out.below hw' HS10.out.lt) Try.underlying32 rfl (info_sec HSl.out)⟩) ?_
      go_frame
      refine nextH (i := 2) rfl (by kernel_rfl) (by kernel_rfl) (fun K' hK => ?_)
      go_wp2_with fail
      refine (xor_any (zx (sec f) p 64) p _ HXl.out HPl.out HXb.out HPb.out).mono ?_
      rintro e u1 ⟨rfl, hbx⟩
      rw [zx_twice (sec f) p HSl.out HSb.out]
      have hS1 := bel_next hS hbx
      refine hK.out _ _ ⟨hS1, ?_⟩
      clear hK K' hbx
      refine takeH hS1 (i := 4) (d := 53) (v := .bool true) rfl rfl (by kernel_rfl) (by kernel_rfl) (by kernel_rfl) (fun _ _ _ h => h) (Or.inl ⟨by kernel_rfl, fun w' hw' => by exact exec_eql_sector tySec _ _ _ rfl (sec f) (sec f) rfl rfl HSl.out HSl.out true (by simp)⟩) ?_
      refine takeH hS1 (i := 5) (d := 54) (v := .bool true) rfl rfl (by kernel_rfl) (by kernel_rfl) (by kernel_rfl) (fun _ _ _ h => h) (Or.inl ⟨by kernel_rfl, fun w' hw' => by kernel_rfl⟩) ?_
      refine takeH hS1 (i := 6) (d := 55) (v := .int .i64 xe) rfl rfl (by kernel_rfl) (by kernel_rfl) (by kernel_rfl) (fun _ _ _ h => h) (Or.inl ⟨by kernel_rfl, fun w' hw' => by kernel_rfl⟩) ?_
      go_frame
      refine takeH hS1 (i := 7) (d := 56) (v := .bool false) rfl rfl (by kernel_rfl) (by kernel_rfl) (by kernel_rfl) (fun _ _ _ h => h) (Or.inl ⟨by kernel_rfl, fun w' hw' => by (have hq := Hx.out; go_simp)⟩) ?_
      refine takeH hS1 (i := 8) (d := 57) (v := .slice (some ⟨w.heap.size + 1, 0, none⟩) 64 64) rfl rfl (by kernel_rfl) (by kernel_rfl) (by kernel_rfl) (fun _ _ _ h => h) (Or.inl ⟨by kernel_rfl, fun w' hw' => by kernel_rfl⟩) ?_
      go_frame
      refine nextH (i := 9) rfl (by kernel_rfl) (by kernel_rfl) (fun K' hK => ?_)
      go_wp2_with fail
      refine (div_all _ 64 64 p _ (HR10.out.below hS1) (by decide)).mono ?_
      rintro e u2 ⟨rfl, hbx⟩
      rw [Hq.out]
      have hS2 := bel_next hS1 hbx
      refine hK.out _ _ ⟨hS2, ?_⟩
      clear hK K' hbx
      refine takeH hS2 (i := 10) (d := 59) (v := .bool false) rfl rfl (by kernel_rfl) (by kernel_rfl) (by kernel_rfl) (fun _ _ _ h => h) (Or.inl ⟨by kernel_rfl, fun w' hw' => by kernel_rfl⟩) ?_
      refine takeH hS2 (i := 11) (d := 60) (v := .bool true) rfl rfl (by kernel_rfl) (by kernel_rfl) (by kernel_rfl) (fun _ _ _ h => h) (Or.inl ⟨by kernel_rfl, fun w' hw' => by kernel_rfl⟩) ?_
      refine takeH hS2 (i := 12) (d := 61) (v := .bool true) rfl rfl (by kernel_rfl) (by kernel_rfl) (by kernel_rfl) (fun _ _ _ h => h) (Or.inl ⟨by kernel_rfl, fun w' hw' => by kernel_rfl⟩) ?_
      refine takeH hS2 (i := 13) (d := 4) (v := .bool true) rfl rfl (by kernel_rfl) (by kernel_rfl) (by kernel_rfl) (fun _ _ _ h => h) (Or.inl ⟨by kernel_rfl, fun w' hw' => by kernel_rfl⟩) ?_
      refine wpAnyH_done (by kernel_rfl) ?_ _
      go_frame
      go_wp2_with fail
      go_ret
      exact ⟨rfl, bthen HB10.out hS2⟩

set_option maxRecDepth 100000 in
set_option maxHeartbeats 4000000 in
theorem walkSpoilt_no (f : FrR) (p : List Nat) (w : World) (hl : f.b.length = 44) (hb : ∀ c ∈ f.b, c < 256) (hp : p.length = 64) (hpb : ∀ c ∈ p, c < 256) (hr : rightB f = true) (h0 : ovr 0 p ≠ 0) :
    Calls Try.prog 5 #[.agg (frA f), .agg (bA p)] w fun e w' => e = .returned (.bool true) ∧ Below w.heap.size w w' := by
  have HL := Lib.hid hl
  have Hb := Lib.hid hb
  have HPl := Lib.hid hp
  have HPb := Lib.hid hpb
  have Hr := Lib.hid hr
  have hz1 := zero_tab
  have hz2 := zero_sec
  have hz3 := zero_fr
  have HF0 : Hid (Blk ((w.alloc (Obj.cells (frA f) 24)).alloc (Obj.cells (bA p) 32)) w.heap.size 24 (frA f)) := Lib.hid (Blk.alloc (Blk.new w 24 (frA f)) _)
  have HP0 : Hid (Blk ((w.alloc (Obj.cells (frA f) 24)).alloc (Obj.cells (bA p) 32)) (w.heap.size + 1) 32 (bA p)) := Lib.hid (by
    have h := Blk.new (w.alloc (Obj.cells (frA f) 24)) 32 (bA p)
    rwa [show (w.alloc (Obj.cells (frA f) 24)).heap.size = w.heap.size + 1 by simp] at h)
  have HB0 : Hid (Below w.heap.size w ((w.alloc (Obj.cells (frA f) 24)).alloc (Obj.cells (bA p) 32))) := Lib.hid (bthen (below_alloc _ _) (below_alloc _ _))
  have Hq : Hid (decide (ovr 0 p = 0) = false) := Lib.hid (decide_eq_false h0)
  have Hx : Hid ((decE (zx (sec f) p 64) == 11) = true) := Lib.hid (by rw [decE_sum, spoilt_iff f p hl hb hp hpb, Hq.out]; rfl)
  clear h0
  clear hl hb hp hpb hr
  go_enter Try.func5, Try.ntmps5
  go_wp2_with fail
  refine (anchor3_any _).mono ?_
  rintro e w1 ⟨rfl, hb1⟩
  have HF1 := Lib.hid (HF0.out.below hb1 HF0.out.lt)
  have HP1 := Lib.hid (HP0.out.below hb1 HP0.out.lt)
  have HB1 := Lib.hid (bthen HB0.out hb1)
  clear hb1 HB0 HF0 HP0
  go_wp2_with fail
  refine (new_any _).mono ?_
  rintro e w2 ⟨rfl, hb2⟩
  have HT3 : Hid (Blk (w2.alloc (Obj.cells tbl 28)) w2.heap.size 28 tbl) := Lib.hid (Blk.new _ _ _)
  have HF3 := Lib.hid ((HF1.out.below hb2 HF1.out.lt).alloc (Obj.cells tbl 28))
  have HP3 := Lib.hid ((HP1.out.below hb2 HP1.out.lt).alloc (Obj.cells tbl 28))
  have HB3 : Hid (Below w.heap.size w (w2.alloc (Obj.cells tbl 28))) := Lib.hid (bthen (bthen HB1.out hb2) (below_alloc _ _))
  clear hb2 HB1 HF1 HP1
  go_wp2_with (first | (refine wpl_store_new rfl _ _ rfl (tbl) w2 28 (pt 0) rfl rfl rfl info_tbl (by rw [pt_size, tbl_size]) tbl_cells ?_; go_frame) | (refine wpl_load rfl _ rfl (w2.heap.size) rfl _ _ _ HT3.out Try.underlying28 rfl info_tbl ?_; go_frame) | (refine wpl_load rfl _ rfl (w.heap.size) rfl _ _ _ HF3.out Try.underlying24 rfl (info_frA HL.out) ?_; go_frame))
  clear hz1
  generalize w2.alloc (Obj.cells tbl 28) = w3 at *
  refine (encode_ok f _ HL.out Hb.out Hr.out).mono ?_
  rintro e w4 ⟨rfl, hb4⟩
  have HSl : Hid ((sec f).length = 64) := Lib.hid (sec_length HL.out)
  have HSb : Hid (∀ c ∈ sec f, c < 256) := Lib.hid (sec_lt Hb.out)
  have HT4 := Lib.hid (HT3.out.below hb4 HT3.out.lt)
  have HP4 := Lib.hid (HP3.out.below hb4 HP3.out.lt)
  have HB4 := Lib.hid (bthen HB3.out hb4)
  clear hb4 HB3 HT3 HP3
  have HS5 : Hid (Blk (w4.alloc (Obj.cells (bA (sec f)) 32)) w4.heap.size 32 (bA (sec f))) := Lib.hid (Blk.new _ _ _)
  have HT5 := Lib.hid (HT4.out.alloc (Obj.cells (bA (sec f)) 32))
  have HP5 := Lib.hid (HP4.out.alloc (Obj.cells (bA (sec f)) 32))
  have HB5 := Lib.hid (bthen HB4.out (below_alloc w4 (Obj.cells (bA (sec f)) 32)))
  clear HB4 HT4 HP4
  go_wp2_with (first | (refine wpl_store_new rfl _ _ rfl (bA (sec f)) w4 32 (bA (zeros 64)) rfl rfl rfl (info_sec HSl.out) ((bA_size _).trans ((zeros_length 64).trans ((bA_size _).trans HSl.out).symm)) (bA_one _) ?_; go_frame) | (refine wpl_load rfl _ rfl (w4.heap.size) rfl _ _ _ HS5.out Try.underlying32 rfl (info_sec HSl.out) ?_; go_frame) | (refine wpl_load rfl _ rfl (w.heap.size + 1) rfl _ _ _ HP5.out Try.underlying32 rfl (info_sec HPl.out) ?_; go_frame))
  generalize w4.alloc (Obj.cells (bA (sec f)) 32) = w5 at *
  refine (xor_any (sec f) p _ HSl.out HPl.out HSb.out HPb.out).mono ?_
  rintro e w6 ⟨rfl, hb6⟩
  have HXl : Hid ((zx (sec f) p 64).length = 64) := Lib.hid (zx_length _ _ _)
  have HXb : Hid (∀ c ∈ zx (sec f) p 64, c < 256) := Lib.hid (zx_lt HSb.out HPb.out 64)
  have HT6 := Lib.hid (HT5.out.below hb6 HT5.out.lt)
  have HS6 := Lib.hid (HS5.out.below hb6 HS5.out.lt)
  have HP6 := Lib.hid (HP5.out.below hb6 HP5.out.lt)
  have HB6 := Lib.hid (bthen HB5.out hb6)
  clear hb6 HB5 HT5 HS5 HP5
  have HX7 : Hid (Blk (w6.alloc (Obj.cells (bA (zx (sec f) p 64)) 32)) w6.heap.size 32 (bA (zx (sec f) p 64))) := Lib.hid (Blk.new _ _ _)
  have HT7 := Lib.hid (HT6.out.alloc (Obj.cells (bA (zx (sec f) p 64)) 32))
  have HS7 := Lib.hid (HS6.out.alloc (Obj.cells (bA (zx (sec f) p 64)) 32))
  have HP7 := Lib.hid (HP6.out.alloc (Obj.cells (bA (zx (sec f) p 64)) 32))
  have HB7 := Lib.hid (bthen HB6.out (below_alloc w6 (Obj.cells (bA (zx (sec f) p 64)) 32)))
  clear HB6 HT6 HS6 HP6
  go_wp2_with (first | (refine wpl_store_new rfl _ _ rfl (bA (zx (sec f) p 64)) w6 32 (bA (zeros 64)) rfl rfl rfl (info_sec HXl.out) ((bA_size _).trans ((zeros_length 64).trans ((bA_size _).trans HXl.out).symm)) (bA_one _) ?_; go_frame) | (refine wpl_load rfl _ rfl (w2.heap.size) rfl _ _ _ HT7.out Try.underlying28 rfl info_tbl ?_; go_frame) | (refine wpl_load rfl _ rfl (w6.heap.size) rfl _ _ _ HX7.out Try.underlying32 rfl (info_sec HXl.out) ?_; go_frame))
  clear hz2
  generalize w6.alloc (Obj.cells (bA (zx (sec f) p 64)) 32) = w7 at *
  refine (decode_any (zx (sec f) p 64) _ HXl.out HXb.out).mono ?_
  rintro e w8 ⟨rfl, hb8⟩
  have HLd : Hid ((decF (zx (sec f) p 64)).b.length = 44) := Lib.hid (decF_len HXl.out)
  have HS8 := Lib.hid (HS7.out.below hb8 HS7.out.lt)
  have HP8 := Lib.hid (HP7.out.below hb8 HP7.out.lt)
  have HX8 := Lib.hid (HX7.out.below hb8 HX7.out.lt)
  have HB8 := Lib.hid (bthen HB7.out hb8)
  clear hb8 HB7 HS7 HP7 HX7
  have HS9 := Lib.hid (HS8.out.alloc (Obj.cells (frA (decF (zx (sec f) p 64))) 24))
  have HP9 := Lib.hid (HP8.out.alloc (Obj.cells (frA (decF (zx (sec f) p 64))) 24))
  have HX9 := Lib.hid (HX8.out.alloc (Obj.cells (frA (decF (zx (sec f) p 64))) 24))
  have HB9 := Lib.hid (bthen HB8.out (below_alloc w8 (Obj.cells (frA (decF (zx (sec f) p 64))) 24)))
  clear HB8 HS8 HP8 HX8
  generalize decE (zx (sec f) p 64) = xe at *
  go_wp2_with (first | (refine wpl_store_new rfl _ _ rfl (frA (decF (zx (sec f) p 64))) w8 24 (frA fr0) rfl rfl rfl (info_frA HLd.out) ((frA_size fr0_len).trans (frA_size HLd.out).symm) frA_one ?_; go_frame))
  clear hz3
  generalize w8.alloc (Obj.cells (frA (decF (zx (sec f) p 64))) 24) = w9 at *
  go_loopw [34] (fun i wr => ∃ (j q : Nat), j ≤ 64 ∧ i = .int .i64 j ∧ wr = w9.drewN q) (fun i _ => 64 - (intOf i).toNat)
  case atStart => exact ⟨0, 0, Nat.zero_le _, rfl, rfl⟩
  case round =>
    obtain ⟨j, q, hj, rfl, rfl⟩ := hrel
    by_cases hlt : j < 64
    · have cX := (HX9.out.cell j).trans (bA_at _ j (by rw [HXl.out]; exact hlt))
      have cS := (HS9.out.cell j).trans (bA_at _ j (by rw [HSl.out]; exact hlt))
      have cP := (HP9.out.cell j).trans (bA_at _ j (by rw [HPl.out]; exact hlt))
      rw [zx_at _ _ j hlt] at cX
      have hx := u8_xor_nat _ _ (getD_lt HSb.out j) (getD_lt HPb.out j)
      have lS := getD_lt HSb.out j
      have lP := getD_lt HPb.out j
      generalize (sec f).getD j 0 ^^^ p.getD j 0 = z at *
      generalize (sec f).getD j 0 = x at *
      generalize p.getD j 0 = y at *
      have hn := bne_same z
      have hj0 : (0 : Int) ≤ (j : Int) := by omega
      have hj1 : (j : Int) < 64 := by omega
      go_wp2_with fail
      go_quiet (fail)
      go_wp2_with fail
      go_roundw
      case rel => exact ⟨j + 1, q + nq, by omega, by go_num, rfl⟩
      case measure => simp [intOf]; omega
    · obtain rfl : j = 64 := by omega
      go_wp2_with fail
      have HS10 : Hid (Blk (w9.drewN q).drew w4.heap.size 32 (bA (sec f))) := Lib.hid (HS9.out.drewN q)
      have HP10 : Hid (Blk (w9.drewN q).drew (w.heap.size + 1) 32 (bA p)) := Lib.hid (HP9.out.drewN q)
      have HX10 : Hid (Blk (w9.drewN q).drew w6.heap.size 32 (bA (zx (sec f) p 64))) := Lib.hid (HX9.out.drewN q)
      have HB10 : Hid (Below w.heap.size w (w9.drewN q).drew) := Lib.hid (below_drewN HB9.out q).drew
      have HR10 : Hid (RowB (w9.drewN q).drew (some ⟨w.heap.size + 1, 0, none⟩) 64 64 p) := Lib.hid (row_of_blk HP10.out HPb.out 64 HPl.out (by decide))
      clear HS9 HP9 HX9 HB9
      refine wp_region_held (S := fun w' => Below (w9.drewN q).drew.heap.size (w9.drewN q).drew w') (by kernel_rfl) ?_
      change wpAnyH _ _ _ _ _ _ _ _ (World.drew _)
      generalize (w9.drewN q).drew = u0 at *
      have hS : Below u0.heap.size u0 u0 := Below.refl _ _
      refine takeH hS (i := 0) (d := 49) (v := .agg (bA (zx (sec f) p 64))) rfl rfl (by kernel_rfl) (by kernel_rfl) (by kernel_rfl) (fun _ _ _ h => h) (Or.inl ⟨by kernel_rfl, fun w' hw' => by exact exec_load _ rfl (w6.heap.size) rfl (HX10.out.below hw' HX10.out.lt) Try.underlying32 rfl (info_sec HXl.out)⟩) ?_
      refine takeH hS (i := 1) (d := 50) (v := .agg (bA p)) rfl rfl (by kernel_rfl) (by kernel_rfl) (by kernel_rfl) (fun _ _ _ h => h) (Or.inl ⟨by kernel_rfl, fun w' hw' => by exact exec_load _ rfl (w.heap.size + 1) rfl (HP10.out.below hw' HP10.out.lt) Try.underlying32 rfl (info_sec HPl.out)⟩) ?_
      refine takeH hS (i := 3) (d := 52) (v := .agg (bA (sec f))) rfl rfl (by kernel_rfl) (by kernel_rfl) (by kernel_rfl) (fun _ _ _ h => h) (Or.inl ⟨by kernel_rfl, fun w' hw' => by exact exec_load _ rfl (w4.heap.size) rfl (HS10.out.below hw' HS10.out.lt) Try.underlying32 rfl (info_sec HSl.out)⟩) ?_
      go_frame
      refine nextH (i := 2) rfl (by kernel_rfl) (by kernel_rfl) (fun K' hK => ?_)
      go_wp2_with fail
      refine (xor_any (zx (sec f) p 64) p _ HXl.out HPl.out HXb.out HPb.out).mono ?_
      rintro e u1 ⟨rfl, hbx⟩
      rw [zx_twice (sec f) p HSl.out HSb.out]
      have hS1 := bel_next hS hbx
      refine hK.out _ _ ⟨hS1, ?_⟩
      clear hK K' hbx
      refine takeH hS1 (i := 4) (d := 53) (v := .bool true) rfl rfl (by kernel_rfl) (by kernel_rfl) (by kernel_rfl) (fun _ _ _ h => h) (Or.inl ⟨by kernel_rfl, fun w' hw' => by exact exec_eql_sector tySec _ _ _ rfl (sec f) (sec f) rfl rfl HSl.out HSl.out true (by simp)⟩) ?_
      refine takeH hS1 (i := 5) (d := 54) (v := .bool true) rfl rfl (by kernel_rfl) (by kernel_rfl) (by kernel_rfl) (fun _ _ _ h => h) (Or.inl ⟨by kernel_rfl, fun w' hw' => by kernel_rfl⟩) ?_
      refine takeH hS1 (i := 6) (d := 55) (v := .int .i64 xe) rfl rfl (by kernel_rfl) (by kernel_rfl) (by kernel_rfl) (fun _ _ _ h => h) (Or.inl ⟨by kernel_rfl, fun w' hw' => by kernel_rfl⟩) ?_
      go_frame
      refine takeH hS1 (i := 7) (d := 56) (v := .bool true) rfl rfl (by kernel_rfl) (by kernel_rfl) (by kernel_rfl) (fun _ _ _ h => h) (Or.inl ⟨by kernel_rfl, fun w' hw' => by (have hq := Hx.out; go_simp)⟩) ?_
      refine takeH hS1 (i := 8) (d := 57) (v := .slice (some ⟨w.heap.size + 1, 0, none⟩) 64 64) rfl rfl (by kernel_rfl) (by kernel_rfl) (by kernel_rfl) (fun _ _ _ h => h) (Or.inl ⟨by kernel_rfl, fun w' hw' => by kernel_rfl⟩) ?_
      go_frame
      refine nextH (i := 9) rfl (by kernel_rfl) (by kernel_rfl) (fun K' hK => ?_)
      go_wp2_with fail
      refine (div_all _ 64 64 p _ (HR10.out.below hS1) (by decide)).mono ?_
      rintro e u2 ⟨rfl, hbx⟩
      rw [Hq.out]
      have hS2 := bel_next hS1 hbx
      refine hK.out _ _ ⟨hS2, ?_⟩
      clear hK K' hbx
      refine takeH hS2 (i := 10) (d := 59) (v := .bool true) rfl rfl (by kernel_rfl) (by kernel_rfl) (by kernel_rfl) (fun _ _ _ h => h) (Or.inl ⟨by kernel_rfl, fun w' hw' => by kernel_rfl⟩) ?_
      refine takeH hS2 (i := 11) (d := 60) (v := .bool true) rfl rfl (by kernel_rfl) (by kernel_rfl) (by kernel_rfl) (fun _ _ _ h => h) (Or.inl ⟨by kernel_rfl, fun w' hw' => by kernel_rfl⟩) ?_
      refine takeH hS2 (i := 12) (d := 61) (v := .bool true) rfl rfl (by kernel_rfl) (by kernel_rfl) (by kernel_rfl) (fun _ _ _ h => h) (Or.inl ⟨by kernel_rfl, fun w' hw' => by kernel_rfl⟩) ?_
      refine takeH hS2 (i := 13) (d := 4) (v := .bool true) rfl rfl (by kernel_rfl) (by kernel_rfl) (by kernel_rfl) (fun _ _ _ h => h) (Or.inl ⟨by kernel_rfl, fun w' hw' => by kernel_rfl⟩) ?_
      refine wpAnyH_done (by kernel_rfl) ?_ _
      go_frame
      go_wp2_with fail
      go_ret
      exact ⟨rfl, bthen HB10.out hS2⟩

theorem walkFrameSpoilt (f : FrR) (p : List Nat) (w : World) (hf : FrOk f) (hp : p.length = 64) (hpb : ∀ c ∈ p, c < 256) :
    Calls Try.prog 5 #[.agg (frA f), .agg (bA p)] w fun e w' => e = .returned (.bool true) ∧ Below w.heap.size w w' := by
  cases hr : rightB f with
  | false => exact walkSpoilt_bad f p w hf.len hf.lt hp hpb hr
  | true =>
    by_cases h0 : ovr 0 p = 0
    · exact walkSpoilt_mult f p w hf.len hf.lt hp hpb hr h0
    · exact walkSpoilt_no f p w hf.len hf.lt hp hpb hr h0

end Go.Proofs.Ytlkghdgomfcfkaa
