/-
  The walk of FrameDecodes.
-/
import Derived.Test.YtlkghdgomfcfkaaFrameK
namespace Go.Proofs.Ytlkghdgomfcfkaa
open Go.RowKit CrcM
set_option linter.unusedVariables false
set_option linter.unnecessarySimpa false
set_option linter.unusedSimpArgs false

theorem num_tail (bs : List Nat) (h : bs.length = 64) : num (bs.drop 60) = bs.getD 60 0 + 256 * bs.getD 61 0 + 65536 * bs.getD 62 0 + 16777216 * bs.getD 63 0 := by
  have e : bs.drop 60 = [bs.getD 60 0, bs.getD 61 0, bs.getD 62 0, bs.getD 63 0] := by
    apply List.ext_getElem
    · simp; omega
    · intro i h1 h2
      simp at h2
      match i, h2 with
      | 0, _ => simp [List.getD, h]
      | 1, _ => simp [List.getD, h]
      | 2, _ => simp [List.getD, h]
      | 3, _ => simp [List.getD, h]
  rw [e]; simp only [num]; omega

set_option maxRecDepth 100000 in
set_option maxHeartbeats 4000000 in
theorem walkFrameDecodes (bs : List Nat) (w : World) (hl : bs.length = 64) (hb : ∀ c ∈ bs, c < 256) :
    Calls Try.prog 4 #[.agg (bA bs)] w fun e w' => e = .returned (.bool true) ∧ Below w.heap.size w w' := by
  have HL := Lib.hid hl
  have Hb := Lib.hid hb
  have hz1 := zero_tab
  have hz2 := zero_sec
  have hz3 := zero_fr
  have HX0 : Hid (Blk (w.alloc (Obj.cells (bA bs) 32)) w.heap.size 32 (bA bs)) := Lib.hid (Blk.new w 32 (bA bs))
  have HB0 : Hid (Below w.heap.size w (w.alloc (Obj.cells (bA bs) 32))) := Lib.hid (below_alloc _ _)
  have Hnum : Hid (((num (bs.drop 60) : Nat) : Int) = (bs.getD 60 0 : Nat) + 256 * (bs.getD 61 0 : Nat) + 65536 * (bs.getD 62 0 : Nat) + 16777216 * (bs.getD 63 0 : Nat)) := Lib.hid (by rw [num_tail bs hl]; omega)
  have h60 := getD_lt hb 60
  have h61 := getD_lt hb 61
  have h62 := getD_lt hb 62
  have h63 := getD_lt hb 63
  have A60 : Hid ((bA bs)[60]? = some (.int .u8 (bs.getD 60 0 : Nat))) := Lib.hid (bA_at bs 60 (by omega))
  have A61 : Hid ((bA bs)[61]? = some (.int .u8 (bs.getD 61 0 : Nat))) := Lib.hid (bA_at bs 61 (by omega))
  have A62 : Hid ((bA bs)[62]? = some (.int .u8 (bs.getD 62 0 : Nat))) := Lib.hid (bA_at bs 62 (by omega))
  have A63 : Hid ((bA bs)[63]? = some (.int .u8 (bs.getD 63 0 : Nat))) := Lib.hid (bA_at bs 63 (by omega))
  have HLf : Hid ((decF bs).b.length = 44) := Lib.hid (decF_len hl)
  clear hl hb
  go_enter Try.func4, Try.ntmps4
  go_wp2_with fail
  refine (anchor3_any _).mono ?_
  rintro e w1 ⟨rfl, hb1⟩
  have HX1 := Lib.hid (HX0.out.below hb1 HX0.out.lt)
  have HB1 := Lib.hid (bthen HB0.out hb1)
  clear hb1 HB0 HX0
  have hzr := zero_rf
  clear hz1 hz2
  go_wp2_with fail
  have HX2 : Hid (Blk w1.drew w.heap.size 32 (bA bs)) := Lib.hid HX1.out
  have HB2 : Hid (Below w.heap.size w w1.drew) := Lib.hid HB1.out.drew
  clear HX1 HB1
  generalize bs.getD 60 0 = b0 at *
  generalize bs.getD 61 0 = b1 at *
  generalize bs.getD 62 0 = b2 at *
  generalize bs.getD 63 0 = b3 at *
  refine wp_region_held (S := fun w' => Below w1.drew.heap.size w1.drew w') (by kernel_rfl) ?_
  change wpAnyH _ _ _ _ _ _ _ _ (World.drew _)
  generalize w1.drew = u0 at *
  have hS : Below u0.heap.size u0 u0 := Below.refl _ _
  refine takeH hS (i := 1) (d := 12) (v := .agg (bA bs)) rfl rfl (by kernel_rfl) (by kernel_rfl) (by kernel_rfl) (fun _ _ _ h => h) (Or.inl ⟨by kernel_rfl, fun w' hw' => by exact exec_load _ rfl (w.heap.size) rfl (HX2.out.below hw' HX2.out.lt) Try.underlying32 rfl (info_sec HL.out)⟩) ?_
  go_frame
  refine nextH2 (i := 0) (k := 6) rfl rfl (by kernel_rfl) (by kernel_rfl) (by kernel_rfl) (fun K' hK => ?_) (fun K' hK => ?_)
  · go_wp2_with fail
    refine (new_any _).mono ?_
    rintro e u1 ⟨rfl, hb⟩
    have hS1 := bel_next hS hb
    refine hK.out _ _ ⟨hS1, ?_⟩
    clear hK K' hb
    refine nextH2 (i := 2) (k := 6) rfl rfl (by kernel_rfl) (by kernel_rfl) (by kernel_rfl) (fun K' hK => ?_) (fun K' hK => ?_)
    · go_wp2_with fail
      refine (decode_any bs _ HL.out Hb.out).mono ?_
      rintro e u2 ⟨rfl, hb⟩
      have hS2 := bel_next hS1 hb
      refine hK.out _ _ ⟨hS2, ?_⟩
      clear hK K' hb
      refine takeH hS2 (i := 3) (d := 10) (v := .tuple #[.agg (frA (decF bs)), .int .i64 (decE bs)]) rfl rfl (by kernel_rfl) (by kernel_rfl) (by kernel_rfl) (fun _ _ _ h => h) (Or.inl ⟨by kernel_rfl, fun w' hw' => by kernel_rfl⟩) ?_
      refine takeH hS2 (i := 4) (d := 14) (v := .agg (frA (decF bs))) rfl rfl (by kernel_rfl) (by kernel_rfl) (by kernel_rfl) (fun _ _ _ h => h) (Or.inl ⟨by kernel_rfl, fun w' hw' => by kernel_rfl⟩) ?_
      refine takeH hS2 (i := 5) (d := 15) (v := .int .i64 (decE bs)) rfl rfl (by kernel_rfl) (by kernel_rfl) (by kernel_rfl) (fun _ _ _ h => h) (Or.inl ⟨by kernel_rfl, fun w' hw' => by kernel_rfl⟩) ?_
      refine nextH (i := 6) rfl (by kernel_rfl) (by kernel_rfl) (fun K' hK => ?_)
      go_wp2_with fail
      have hS3 := bel_next hS2 (below_alloc u2 (Obj.cells (frA fr0) 24))
      have HN : Hid (Blk (u2.alloc (Obj.cells (frA fr0) 24)) u2.heap.size 24 (frA fr0)) := Lib.hid (Blk.new _ _ _)
      have hg : u0.heap.size ≤ u2.heap.size := hS2.size
      refine hK.out _ _ ⟨hS3, ?_⟩
      clear hK K'
      refine nextH (i := 7) rfl (by kernel_rfl) (by kernel_rfl) (fun K' hK => ?_)
      refine wp_store_row 24 _ _ rfl u2.heap.size (frA (decF bs)) rfl rfl 24 (frA fr0) HN.out (info_frA HLf.out) ((frA_size fr0_len).trans (frA_size HLf.out).symm) frA_one ?_
      have hS9 := below_setRow hS3 hg (frA (decF bs))
      have HF9 : Hid (Blk ((u2.alloc (Obj.cells (frA fr0) 24)).setRow u2.heap.size (frA (decF bs))) u2.heap.size 24 (frA (decF bs))) := Lib.hid (Blk.setRow HN.out)
      refine hK.out _ _ ⟨hS9, ?_⟩
      clear hK K' HN hS3
      refine takeH hS9 (i := 8) (d := 4) (v := .int .i64 (decE bs)) rfl rfl (by kernel_rfl) (by kernel_rfl) (by kernel_rfl) (fun _ _ _ h => h) (Or.inl ⟨by kernel_rfl, fun w' hw' => by kernel_rfl⟩) ?_
      refine wpAnyH_done (by kernel_rfl) ?_ _
      go_frame
      have HX9 := Lib.hid (HX2.out.below hS9 HX2.out.lt)
      have HB9 := Lib.hid (bthen HB2.out hS9)
      clear hS9 HX2 HB2 hg
      generalize ((u2.alloc (Obj.cells (frA fr0) 24)).setRow u2.heap.size (frA (decF bs))) = z0 at *
      generalize u2.heap.size = gf at *
      go_wp2_with (first | (refine wpl_load rfl _ rfl (w.heap.size) rfl _ _ _ HX9.out Try.underlying32 rfl (info_sec HL.out) ?_; go_frame))
      refine (rreadF_any bs _ HL.out Hb.out).mono ?_
      rintro e z1 ⟨rfl, hby⟩
      have HX10 := Lib.hid ((HX9.out.below hby HX9.out.lt).alloc (Obj.cells (frA (decF bs)) 30))
      have HF10 := Lib.hid ((HF9.out.below hby HF9.out.lt).alloc (Obj.cells (frA (decF bs)) 30))
      have HG10 : Hid (Blk (z1.alloc (Obj.cells (frA (decF bs)) 30)) z1.heap.size 30 (frA (decF bs))) := Lib.hid (Blk.new _ _ _)
      have HB10 := Lib.hid (bthen (bthen HB9.out hby) (below_alloc z1 (Obj.cells (frA (decF bs)) 30)))
      have c60 := (HX10.out.cell 60).trans A60.out
      have c61 := (HX10.out.cell 61).trans A61.out
      have c62 := (HX10.out.cell 62).trans A62.out
      have c63 := (HX10.out.cell 63).trans A63.out
      clear hby HX9 HF9 HB9
      go_wp2_with (first | (refine wpl_store_new rfl _ _ rfl (frA (decF bs)) z1 30 (frA fr0) rfl rfl rfl (info_rfA HLf.out) ((frA_size fr0_len).trans (frA_size HLf.out).symm) frA_one ?_; go_frame) | (refine wpl_load_g (by rfl) _ rfl (gf) rfl _ _ _ HF10.out Try.underlying24 rfl (info_frA HLf.out) ?_; go_frame) | (refine wpl_load_g (by rfl) _ rfl (z1.heap.size) rfl _ _ _ HG10.out Try.underlying30 rfl (info_rfA HLf.out) ?_; go_frame) | (refine wpl_run (by rfl) (.bool true) (exec_eql_frame tyRF _ _ _ rfl (decF bs) (decF bs) rfl rfl HLf.out HLf.out true (eq_self _)) ?_; go_frame) | (refine wpl_load_g (by rfl) _ rfl (w.heap.size) rfl _ _ _ HX10.out Try.underlying32 rfl (info_sec HL.out) ?_; go_frame))
      refine (sum4_any bs _ HL.out Hb.out).mono ?_
      rintro e z2 ⟨rfl, hbz⟩
      have HB11 := Lib.hid (bthen HB10.out hbz)
      rw [Hnum.out]
      clear hbz HB10 HX10 HF10 HG10 c60 c61 c62 c63 hzr
      go_wp2_with fail
      go_ret
      exact ⟨rfl, HB11.out⟩
    · go_wp2_with fail
      have hS2 := bel_next hS1 (below_alloc u1 (Obj.cells (frA fr0) 24))
      have HN : Hid (Blk (u1.alloc (Obj.cells (frA fr0) 24)) u1.heap.size 24 (frA fr0)) := Lib.hid (Blk.new _ _ _)
      have hg : u0.heap.size ≤ u1.heap.size := hS1.size
      refine hK.out _ _ ⟨hS2, ?_⟩
      clear hK K'
      refine nextH (i := 2) rfl (by kernel_rfl) (by kernel_rfl) (fun K' hK => ?_)
      go_wp2_with fail
      refine (decode_any bs _ HL.out Hb.out).mono ?_
      rintro e u2 ⟨rfl, hb⟩
      have hS3 := bel_next hS2 hb
      have HN2 := Lib.hid (HN.out.below hb HN.out.lt)
      refine hK.out _ _ ⟨hS3, ?_⟩
      clear hK K' hb
      refine takeH hS3 (i := 3) (d := 10) (v := .tuple #[.agg (frA (decF bs)), .int .i64 (decE bs)]) rfl rfl (by kernel_rfl) (by kernel_rfl) (by kernel_rfl) (fun _ _ _ h => h) (Or.inl ⟨by kernel_rfl, fun w' hw' => by kernel_rfl⟩) ?_
      refine takeH hS3 (i := 4) (d := 14) (v := .agg (frA (decF bs))) rfl rfl (by kernel_rfl) (by kernel_rfl) (by kernel_rfl) (fun _ _ _ h => h) (Or.inl ⟨by kernel_rfl, fun w' hw' => by kernel_rfl⟩) ?_
      refine takeH hS3 (i := 5) (d := 15) (v := .int .i64 (decE bs)) rfl rfl (by kernel_rfl) (by kernel_rfl) (by kernel_rfl) (fun _ _ _ h => h) (Or.inl ⟨by kernel_rfl, fun w' hw' => by kernel_rfl⟩) ?_
      refine nextH (i := 7) rfl (by kernel_rfl) (by kernel_rfl) (fun K' hK => ?_)
      refine wp_store_row 24 _ _ rfl u1.heap.size (frA (decF bs)) rfl rfl 24 (frA fr0) HN2.out (info_frA HLf.out) ((frA_size fr0_len).trans (frA_size HLf.out).symm) frA_one ?_
      have hS9 := below_setRow hS3 hg (frA (decF bs))
      have HF9 : Hid (Blk (u2.setRow u1.heap.size (frA (decF bs))) u1.heap.size 24 (frA (decF bs))) := Lib.hid (Blk.setRow HN2.out)
      refine hK.out _ _ ⟨hS9, ?_⟩
      clear hK K' HN2 hS3
      refine takeH hS9 (i := 8) (d := 4) (v := .int .i64 (decE bs)) rfl rfl (by kernel_rfl) (by kernel_rfl) (by kernel_rfl) (fun _ _ _ h => h) (Or.inl ⟨by kernel_rfl, fun w' hw' => by kernel_rfl⟩) ?_
      refine wpAnyH_done (by kernel_rfl) ?_ _
      go_frame
      have HX9 := Lib.hid (HX2.out.below hS9 HX2.out.lt)
      have HB9 := Lib.hid (bthen HB2.out hS9)
      clear hS9 HX2 HB2 hg
      generalize (u2.setRow u1.heap.size (frA (decF bs))) = z0 at *
      generalize u1.heap.size = gf at *
      go_wp2_with (first | (refine wpl_load rfl _ rfl (w.heap.size) rfl _ _ _ HX9.out Try.underlying32 rfl (info_sec HL.out) ?_; go_frame))
      refine (rreadF_any bs _ HL.out Hb.out).mono ?_
      rintro e z1 ⟨rfl, hby⟩
      have HX10 := Lib.hid ((HX9.out.below hby HX9.out.lt).alloc (Obj.cells (frA (decF bs)) 30))
      have HF10 := Lib.hid ((HF9.out.below hby HF9.out.lt).alloc (Obj.cells (frA (decF bs)) 30))
      have HG10 : Hid (Blk (z1.alloc (Obj.cells (frA (decF bs)) 30)) z1.heap.size 30 (frA (decF bs))) := Lib.hid (Blk.new _ _ _)
      have HB10 := Lib.hid (bthen (bthen HB9.out hby) (below_alloc z1 (Obj.cells (frA (decF bs)) 30)))
      have c60 := (HX10.out.cell 60).trans A60.out
      have c61 := (HX10.out.cell 61).trans A61.out
      have c62 := (HX10.out.cell 62).trans A62.out
      have c63 := (HX10.out.cell 63).trans A63.out
      clear hby HX9 HF9 HB9
      go_wp2_with (first | (refine wpl_store_new rfl _ _ rfl (frA (decF bs)) z1 30 (frA fr0) rfl rfl rfl (info_rfA HLf.out) ((frA_size fr0_len).trans (frA_size HLf.out).symm) frA_one ?_; go_frame) | (refine wpl_load_g (by rfl) _ rfl (gf) rfl _ _ _ HF10.out Try.underlying24 rfl (info_frA HLf.out) ?_; go_frame) | (refine wpl_load_g (by rfl) _ rfl (z1.heap.size) rfl _ _ _ HG10.out Try.underlying30 rfl (info_rfA HLf.out) ?_; go_frame) | (refine wpl_run (by rfl) (.bool true) (exec_eql_frame tyRF _ _ _ rfl (decF bs) (decF bs) rfl rfl HLf.out HLf.out true (eq_self _)) ?_; go_frame) | (refine wpl_load_g (by rfl) _ rfl (w.heap.size) rfl _ _ _ HX10.out Try.underlying32 rfl (info_sec HL.out) ?_; go_frame))
      refine (sum4_any bs _ HL.out Hb.out).mono ?_
      rintro e z2 ⟨rfl, hbz⟩
      have HB11 := Lib.hid (bthen HB10.out hbz)
      rw [Hnum.out]
      clear hbz HB10 HX10 HF10 HG10 c60 c61 c62 c63 hzr
      go_wp2_with fail
      go_ret
      exact ⟨rfl, HB11.out⟩
  · go_wp2_with fail
    have hS1 := bel_next hS (below_alloc u0 (Obj.cells (frA fr0) 24))
    have HN : Hid (Blk (u0.alloc (Obj.cells (frA fr0) 24)) u0.heap.size 24 (frA fr0)) := Lib.hid (Blk.new _ _ _)
    have hg : u0.heap.size ≤ u0.heap.size := hS.size
    refine hK.out _ _ ⟨hS1, ?_⟩
    clear hK K'
    refine nextH (i := 0) rfl (by kernel_rfl) (by kernel_rfl) (fun K' hK => ?_)
    go_wp2_with fail
    refine (new_any _).mono ?_
    rintro e u1 ⟨rfl, hb⟩
    have hS2 := bel_next hS1 hb
    have HN1 := Lib.hid (HN.out.below hb HN.out.lt)
    refine hK.out _ _ ⟨hS2, ?_⟩
    clear hK K' hb
    refine nextH (i := 2) rfl (by kernel_rfl) (by kernel_rfl) (fun K' hK => ?_)
    go_wp2_with fail
    refine (decode_any bs _ HL.out Hb.out).mono ?_
    rintro e u2 ⟨rfl, hb⟩
    have hS3 := bel_next hS2 hb
    have HN2 := Lib.hid (HN1.out.below hb HN1.out.lt)
    refine hK.out _ _ ⟨hS3, ?_⟩
    clear hK K' hb
    refine takeH hS3 (i := 3) (d := 10) (v := .tuple #[.agg (frA (decF bs)), .int .i64 (decE bs)]) rfl rfl (by kernel_rfl) (by kernel_rfl) (by kernel_rfl) (fun _ _ _ h => h) (Or.inl ⟨by kernel_rfl, fun w' hw' => by kernel_rfl⟩) ?_
    refine takeH hS3 (i := 4) (d := 14) (v := .agg (frA (decF bs))) rfl rfl (by kernel_rfl) (by kernel_rfl) (by kernel_rfl) (fun _ _ _ h => h) (Or.inl ⟨by kernel_rfl, fun w' hw' => by kernel_rfl⟩) ?_
    refine takeH hS3 (i := 5) (d := 15) (v := .int .i64 (decE bs)) rfl rfl (by kernel_rfl) (by kernel_rfl) (by kernel_rfl) (fun _ _ _ h => h) (Or.inl ⟨by kernel_rfl, fun w' hw' => by kernel_rfl⟩) ?_
    refine nextH (i := 7) rfl (by kernel_rfl) (by kernel_rfl) (fun K' hK => ?_)
    refine wp_store_row 24 _ _ rfl u0.heap.size (frA (decF bs)) rfl rfl 24 (frA fr0) HN2.out (info_frA HLf.out) ((frA_size fr0_len).trans (frA_size HLf.out).symm) frA_one ?_
    have hS9 := below_setRow hS3 hg (frA (decF bs))
    have HF9 : Hid (Blk (u2.setRow u0.heap.size (frA (decF bs))) u0.heap.size 24 (frA (decF bs))) := Lib.hid (Blk.setRow HN2.out)
    refine hK.out _ _ ⟨hS9, ?_⟩
    clear hK K' HN2 hS3
    refine takeH hS9 (i := 8) (d := 4) (v := .int .i64 (decE bs)) rfl rfl (by kernel_rfl) (by kernel_rfl) (by kernel_rfl) (fun _ _ _ h => h) (Or.inl ⟨by kernel_rfl, fun w' hw' => by kernel_rfl⟩) ?_
    refine wpAnyH_done (by kernel_rfl) ?_ _
    go_frame
    have HX9 := Lib.hid (HX2.out.below hS9 HX2.out.lt)
    have HB9 := Lib.hid (bthen HB2.out hS9)
    clear hS9 HX2 HB2 hg
    generalize (u2.setRow u0.heap.size (frA (decF bs))) = z0 at *
    generalize u0.heap.size = gf at *
    go_wp2_with (first | (refine wpl_load rfl _ rfl (w.heap.size) rfl _ _ _ HX9.out Try.underlying32 rfl (info_sec HL.out) ?_; go_frame))
    refine (rreadF_any bs _ HL.out Hb.out).mono ?_
    rintro e z1 ⟨rfl, hby⟩
    have HX10 := Lib.hid ((HX9.out.below hby HX9.out.lt).alloc (Obj.cells (frA (decF bs)) 30))
    have HF10 := Lib.hid ((HF9.out.below hby HF9.out.lt).alloc (Obj.cells (frA (decF bs)) 30))
    have HG10 : Hid (Blk (z1.alloc (Obj.cells (frA (decF bs)) 30)) z1.heap.size 30 (frA (decF bs))) := Lib.hid (Blk.new _ _ _)
    have HB10 := Lib.hid (bthen (bthen HB9.out hby) (below_alloc z1 (Obj.cells (frA (decF bs)) 30)))
    have c60 := (HX10.out.cell 60).trans A60.out
    have c61 := (HX10.out.cell 61).trans A61.out
    have c62 := (HX10.out.cell 62).trans A62.out
    have c63 := (HX10.out.cell 63).trans A63.out
    clear hby HX9 HF9 HB9
    go_wp2_with (first | (refine wpl_store_new rfl _ _ rfl (frA (decF bs)) z1 30 (frA fr0) rfl rfl rfl (info_rfA HLf.out) ((frA_size fr0_len).trans (frA_size HLf.out).symm) frA_one ?_; go_frame) | (refine wpl_load_g (by rfl) _ rfl (gf) rfl _ _ _ HF10.out Try.underlying24 rfl (info_frA HLf.out) ?_; go_frame) | (refine wpl_load_g (by rfl) _ rfl (z1.heap.size) rfl _ _ _ HG10.out Try.underlying30 rfl (info_rfA HLf.out) ?_; go_frame) | (refine wpl_run (by rfl) (.bool true) (exec_eql_frame tyRF _ _ _ rfl (decF bs) (decF bs) rfl rfl HLf.out HLf.out true (eq_self _)) ?_; go_frame) | (refine wpl_load_g (by rfl) _ rfl (w.heap.size) rfl _ _ _ HX10.out Try.underlying32 rfl (info_sec HL.out) ?_; go_frame))
    refine (sum4_any bs _ HL.out Hb.out).mono ?_
    rintro e z2 ⟨rfl, hbz⟩
    have HB11 := Lib.hid (bthen HB10.out hbz)
    rw [Hnum.out]
    clear hbz HB10 HX10 HF10 HG10 c60 c61 c62 c63 hzr
    go_wp2_with fail
    go_ret
    exact ⟨rfl, HB11.out⟩

end Go.Proofs.Ytlkghdgomfcfkaa
