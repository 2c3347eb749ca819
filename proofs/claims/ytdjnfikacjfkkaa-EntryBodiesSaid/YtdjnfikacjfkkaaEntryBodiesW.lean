/-
  The walk of EntryBodies.
-/
import Derived.Test.YtdjnfikacjfkkaaEntryL
namespace Go.Proofs.Ytdjnfikacjfkkaa
open Go.RowKit CrcM
set_option linter.unusedVariables false
set_option linter.unnecessarySimpa false
set_option linter.unusedSimpArgs false

set_option maxRecDepth 100000 in
set_option maxHeartbeats 1000000 in
theorem walkBodies_ff (e : EnR) (k : Int) (bs : List Nat) (w : World) (hl : e.y.length = 32) (hb : ∀ c ∈ e.y, c < 256) (hl2 : bs.length = 44) (hb2 : ∀ c ∈ bs, c < 256) (hr : rB e = false) (ho : rofB k bs = false) :
    Calls Try.prog 3 #[.agg (enA e), .int .i64 k, .agg (bA bs)] w fun en w' => en = .returned (.bool true) ∧ Below w.heap.size w w' := by
  have HL := Lib.hid hl
  have Hb := Lib.hid hb
  have HL2 := Lib.hid hl2
  have Hb2 := Lib.hid hb2
  have hz0 := zero_44
  have hz1 := zero_en
  have hz2 := zero_e4
  have HX0 : Hid (Blk ((w.alloc (Obj.cells (enA e) 25)).alloc (Obj.cells (bA bs) 26)) w.heap.size 25 (enA e)) := Lib.hid (Blk.alloc (Blk.new w 25 (enA e)) _)
  have HY0 : Hid (Blk ((w.alloc (Obj.cells (enA e) 25)).alloc (Obj.cells (bA bs) 26)) (w.heap.size + 1) 26 (bA bs)) := Lib.hid (by
    have h := Blk.new (w.alloc (Obj.cells (enA e) 25)) 26 (bA bs)
    rwa [show (w.alloc (Obj.cells (enA e) 25)).heap.size = w.heap.size + 1 by simp] at h)
  have HB0 : Hid (Below w.heap.size w ((w.alloc (Obj.cells (enA e) 25)).alloc (Obj.cells (bA bs) 26))) := Lib.hid (bthen (below_alloc _ _) (below_alloc _ _))
  have Hr := Lib.hid hr
  have Ho := Lib.hid ho
  have Hv : Hid (ofV k bs = en0) := Lib.hid (ofV_bad ((of_eq k bs hl2 hb2).trans ho))
  have He := Lib.hid (ofE_bad ((of_eq k bs hl2 hb2).trans ho))
  obtain ⟨D, hD⟩ : ∃ D, rofV k bs = D := ⟨_, rfl⟩
  have HDl : Hid (D.y.length = 32) := Lib.hid (by rw [← hD, rofV_bad ho]; exact en0_len)
  have Hd := Lib.hid hD
  clear hD
  clear hl hb hl2 hb2 hr ho
  go_enter Try.func3, Try.ntmps3
  go_wp2_with fail
  refine (anchor4_any _).mono ?_
  rintro en w1 ⟨rfl, hb1⟩
  have HX1 := Lib.hid (HX0.out.below hb1 HX0.out.lt)
  have HY1 := Lib.hid (HY0.out.below hb1 HY0.out.lt)
  have HB1 := Lib.hid (bthen HB0.out hb1)
  clear hb1 HB0 HX0 HY0
  go_upto_region 4 with (first | (refine wpl_load rfl _ rfl (w.heap.size) rfl _ _ _ HX1.out Try.underlying25 rfl (info_enA HL.out) ?_; go_frame))
  refine (body_bad e _ HL.out Hb.out Hr.out).mono ?_
  rintro en w2 ⟨rfl, hb2⟩
  have HX2 := Lib.hid (HX1.out.below hb2 HX1.out.lt)
  have HY2 := Lib.hid (HY1.out.below hb2 HY1.out.lt)
  have HB2 := Lib.hid (bthen HB1.out hb2)
  clear hb2 HB1 HX1 HY1
  have HP3 : Hid (Blk (w2.alloc (Obj.cells (bA (zeros 44)) 26)) w2.heap.size 26 (bA (zeros 44))) := Lib.hid (Blk.new _ _ _)
  have HX3 := Lib.hid (HX2.out.alloc (Obj.cells (bA (zeros 44)) 26))
  have HY3 := Lib.hid (HY2.out.alloc (Obj.cells (bA (zeros 44)) 26))
  have HB3 := Lib.hid (bthen HB2.out (below_alloc w2 (Obj.cells (bA (zeros 44)) 26)))
  clear HB2 HX2 HY2
  go_upto_region 4 with (first | (refine wpl_store_new rfl _ _ rfl (bA (zeros 44)) w2 26 (bA (zeros 44)) rfl rfl rfl (info_44 (zeros_length 44)) ((bA_size _).trans ((zeros_length 44).trans ((bA_size _).trans (zeros_length 44)).symm)) (bA_one _) ?_; go_frame))
  generalize w2.alloc (Obj.cells (bA (zeros 44)) 26) = w3 at *
  refine wp_region_held (S := fun w' => Below w3.heap.size w3 w') (by kernel_rfl) ?_
  change wpAnyH _ _ _ _ _ _ _ _ (World.drew _)
  have hS : Below w3.heap.size w3 w3.drew := (Below.refl _ _).drew
  refine takeH hS (i := 0) (d := 22) (v := .agg (enA e)) rfl rfl (by kernel_rfl) (by kernel_rfl) (by kernel_rfl) (fun _ _ _ h => h) (Or.inl ⟨by kernel_rfl, fun w' hw' => by exact exec_load _ rfl (w.heap.size) rfl (HX3.out.below hw' HX3.out.lt) Try.underlying25 rfl (info_enA HL.out)⟩) ?_
  refine takeH hS (i := 2) (d := 24) (v := .agg (enA e)) rfl rfl (by kernel_rfl) (by kernel_rfl) (by kernel_rfl) (fun _ _ _ h => h) (Or.inl ⟨by kernel_rfl, fun w' hw' => by exact exec_load _ rfl (w.heap.size) rfl (HX3.out.below hw' HX3.out.lt) Try.underlying25 rfl (info_enA HL.out)⟩) ?_
  refine nextH (i := 1) rfl (by kernel_rfl) (by kernel_rfl) (fun K' hK => ?_)
  go_wp2_with fail
  refine (eright_any e _ HL.out).mono ?_
  rintro en w4a ⟨rfl, hb⟩
  rw [Hr.out]
  have hS1 : Below w3.heap.size w3 w4a := bel_next hS hb
  refine hK.out _ _ ⟨hS1, ?_⟩
  clear hK K' hb hS
  refine nextH (i := 3) rfl (by kernel_rfl) (by kernel_rfl) (fun K' hK => ?_)
  go_wp2_with fail
  refine (of_any e _ HL.out).mono ?_
  rintro en w4b ⟨rfl, hb⟩
  have hS2 : Below w3.heap.size w3 w4b := bel_next hS1 hb
  refine hK.out _ _ ⟨hS2, ?_⟩
  clear hK K' hb hS1
  refine nextH (i := 4) rfl (by kernel_rfl) (by kernel_rfl) (fun K' hK => ?_)
  go_wp2_with fail
  refine (rright4_any e _ HL.out).mono ?_
  rintro en w4 ⟨rfl, hb⟩
  rw [Hr.out]
  have hS3 : Below w3.heap.size w3 w4 := bel_next hS2 hb
  refine hK.out _ _ ⟨hS3, ?_⟩
  clear hK K' hb hS2
  refine takeH hS3 (i := 5) (d := 27) (v := .bool false) rfl rfl (by kernel_rfl) (by kernel_rfl) (by kernel_rfl) (fun _ _ _ h => h) (Or.inl ⟨by kernel_rfl, fun w' hw' => by kernel_rfl⟩) ?_
  refine wpAnyH_done (by kernel_rfl) ?_ _
  go_frame
  have HX4 := Lib.hid (HX3.out.below hS3 HX3.out.lt)
  have HY4 := Lib.hid (HY3.out.below hS3 HY3.out.lt)
  have HP4 := Lib.hid (HP3.out.below hS3 HP3.out.lt)
  have HB4 := Lib.hid (bthen HB3.out hS3)
  clear hS3 HB3 HX3 HY3 HP3
  go_upto_region 6 with fail
  go_upto_region 7 with (first | (refine wpl_load rfl _ rfl (w.heap.size) rfl _ _ _ HX4.out Try.underlying25 rfl (info_enA HL.out) ?_; go_frame))
  refine (of_any e _ HL.out).mono ?_
  rintro en w5 ⟨rfl, hb5⟩
  have HX5 := Lib.hid (HX4.out.below hb5 HX4.out.lt)
  have HY5 := Lib.hid (HY4.out.below hb5 HY4.out.lt)
  have HP5 := Lib.hid (HP4.out.below hb5 HP4.out.lt)
  have HB5 := Lib.hid (bthen HB4.out hb5)
  clear hb5 HB4 HX4 HY4 HP4
  go_upto_region 7 with fail
  refine (rright4_any e _ HL.out).mono ?_
  rintro en w6 ⟨rfl, hb6⟩
  rw [Hr.out]
  have HX6 := Lib.hid (HX5.out.below hb6 HX5.out.lt)
  have HY6 := Lib.hid (HY5.out.below hb6 HY5.out.lt)
  have HP6 := Lib.hid (HP5.out.below hb6 HP5.out.lt)
  have HB6 := Lib.hid (bthen HB5.out hb6)
  clear hb6 HB5 HX5 HY5 HP5
  go_upto_region 7 with fail
  go_upto_region 12 with (first | (refine wpl_load_g (by rfl) _ rfl (w2.heap.size) rfl _ _ _ HP6.out Try.underlying26 rfl (info_44 (zeros_length 44)) ?_; go_frame) | (refine wpl_build (by rfl) 26 _ rfl (.agg (bA (zeros 44))) (fun _ => by kernel_rfl) ?_; go_frame) | (refine wpl_run (by rfl) (.bool false) (exec_neq_sector ty44 _ _ _ rfl (zeros 44) (zeros 44) rfl rfl (zeros_length 44) (zeros_length 44) false (by simp)) ?_; go_frame))
  go_upto_region 13 with (first | (refine wpl_load rfl _ rfl (w.heap.size + 1) rfl _ _ _ HY6.out Try.underlying26 rfl (info_44 HL2.out) ?_; go_frame))
  refine (eof_any k bs _ HL2.out Hb2.out).mono ?_
  rintro en w20 ⟨rfl, hb20⟩
  rw [Hv.out, He.out]
  have HY20 := Lib.hid (HY6.out.below hb20 HY6.out.lt)
  have HB20 := Lib.hid (bthen HB6.out hb20)
  clear hb20 HB6 HY6
  have HR21 : Hid (Blk (w20.alloc (Obj.cells (enA (en0)) 25)) w20.heap.size 25 (enA (en0))) := Lib.hid (Blk.new _ _ _)
  have HY21 := Lib.hid (HY20.out.alloc (Obj.cells (enA (en0)) 25))
  have HB21 := Lib.hid (bthen HB20.out (below_alloc w20 (Obj.cells (enA (en0)) 25)))
  clear HB20 HY20
  go_upto_region 13 with (first | (refine wpl_store_new rfl _ _ rfl (enA (en0)) w20 25 (enA en0) rfl rfl rfl (info_enA en0_len) ((enA_size en0_len).trans (enA_size en0_len).symm) enA_one ?_; go_frame))
  generalize w20.alloc (Obj.cells (enA (en0)) 25) = w21 at *
  go_upto_region 14 with (first | (refine wpl_load rfl _ rfl (w.heap.size + 1) rfl _ _ _ HY21.out Try.underlying26 rfl (info_44 HL2.out) ?_; go_frame))
  refine (rof4_any k bs _ HL2.out Hb2.out).mono ?_
  rintro en w22 ⟨rfl, hb22⟩
  rw [Hd.out, Ho.out]
  have HY22 := Lib.hid (HY21.out.below hb22 HY21.out.lt)
  have HR22 := Lib.hid (HR21.out.below hb22 HR21.out.lt)
  have HB22 := Lib.hid (bthen HB21.out hb22)
  clear hb22 HB21 HY21 HR21
  have HT23 : Hid (Blk (w22.alloc (Obj.cells (enA (D)) 32)) w22.heap.size 32 (enA (D))) := Lib.hid (Blk.new _ _ _)
  have HY23 := Lib.hid (HY22.out.alloc (Obj.cells (enA (D)) 32))
  have HR23 := Lib.hid (HR22.out.alloc (Obj.cells (enA (D)) 32))
  have HB23 := Lib.hid (bthen HB22.out (below_alloc w22 (Obj.cells (enA (D)) 32)))
  clear HB22 HY22 HR22
  go_upto_region 14 with (first | (refine wpl_store_new rfl _ _ rfl (enA (D)) w22 32 (enA en0) rfl rfl rfl (info_e4A HDl.out) ((enA_size en0_len).trans (enA_size HDl.out).symm) enA_one ?_; go_frame))
  generalize w22.alloc (Obj.cells (enA (D)) 32) = w23 at *
  go_upto_region 15 with fail
  go_wp2_with (first | (refine wpl_load_g (by rfl) _ rfl (w20.heap.size) rfl _ _ _ HR23.out Try.underlying25 rfl (info_enA en0_len) ?_; go_frame) | (refine wpl_build (by rfl) 25 _ rfl (.agg (enA en0)) (fun _ => by kernel_rfl) ?_; go_frame) | (refine wpl_run (by rfl) (.bool true) (exec_eql_entry tyEn _ _ _ rfl (en0) (en0) rfl rfl en0_len en0_len true (decide_eq_true rfl)) ?_; go_frame))
  go_ret
  exact ⟨rfl, HB23.out⟩

set_option maxRecDepth 100000 in
set_option maxHeartbeats 1000000 in
theorem walkBodies_ft (e : EnR) (k : Int) (bs : List Nat) (w : World) (hl : e.y.length = 32) (hb : ∀ c ∈ e.y, c < 256) (hl2 : bs.length = 44) (hb2 : ∀ c ∈ bs, c < 256) (hr : rB e = false) (ho : rofB k bs = true) :
    Calls Try.prog 3 #[.agg (enA e), .int .i64 k, .agg (bA bs)] w fun en w' => en = .returned (.bool true) ∧ Below w.heap.size w w' := by
  have HL := Lib.hid hl
  have Hb := Lib.hid hb
  have HL2 := Lib.hid hl2
  have Hb2 := Lib.hid hb2
  have hz0 := zero_44
  have hz1 := zero_en
  have hz2 := zero_e4
  have HX0 : Hid (Blk ((w.alloc (Obj.cells (enA e) 25)).alloc (Obj.cells (bA bs) 26)) w.heap.size 25 (enA e)) := Lib.hid (Blk.alloc (Blk.new w 25 (enA e)) _)
  have HY0 : Hid (Blk ((w.alloc (Obj.cells (enA e) 25)).alloc (Obj.cells (bA bs) 26)) (w.heap.size + 1) 26 (bA bs)) := Lib.hid (by
    have h := Blk.new (w.alloc (Obj.cells (enA e) 25)) 26 (bA bs)
    rwa [show (w.alloc (Obj.cells (enA e) 25)).heap.size = w.heap.size + 1 by simp] at h)
  have HB0 : Hid (Below w.heap.size w ((w.alloc (Obj.cells (enA e) 25)).alloc (Obj.cells (bA bs) 26))) := Lib.hid (bthen (below_alloc _ _) (below_alloc _ _))
  have Hr := Lib.hid hr
  have Ho := Lib.hid ho
  obtain ⟨D, hD⟩ : ∃ D, rofV k bs = D := ⟨_, rfl⟩
  have hdd : doc k bs = D := by rw [← hD, rofV_ok ho]
  have HDl : Hid (D.y.length = 32) := Lib.hid (by rw [← hdd]; exact doc_len hl2)
  have HDb : Hid (∀ c ∈ D.y, c < 256) := Lib.hid (by rw [← hdd]; exact doc_lt hb2)
  have HDr : Hid (rB D = true) := Lib.hid (by rw [← hdd]; exact ho)
  have HDe : Hid (ebod D = bs) := Lib.hid (by rw [← hdd]; exact ebod_doc k bs hl2 hb2)
  have Hv : Hid (ofV k bs = D) := Lib.hid ((ofV_eq k bs hl2 hb2).trans hD)
  have He := Lib.hid (ofE_ok ((of_eq k bs hl2 hb2).trans ho))
  have Hd := Lib.hid hD
  clear hD hdd
  clear hl hb hl2 hb2 hr ho
  go_enter Try.func3, Try.ntmps3
  go_wp2_with fail
  refine (anchor4_any _).mono ?_
  rintro en w1 ⟨rfl, hb1⟩
  have HX1 := Lib.hid (HX0.out.below hb1 HX0.out.lt)
  have HY1 := Lib.hid (HY0.out.below hb1 HY0.out.lt)
  have HB1 := Lib.hid (bthen HB0.out hb1)
  clear hb1 HB0 HX0 HY0
  go_upto_region 4 with (first | (refine wpl_load rfl _ rfl (w.heap.size) rfl _ _ _ HX1.out Try.underlying25 rfl (info_enA HL.out) ?_; go_frame))
  refine (body_bad e _ HL.out Hb.out Hr.out).mono ?_
  rintro en w2 ⟨rfl, hb2⟩
  have HX2 := Lib.hid (HX1.out.below hb2 HX1.out.lt)
  have HY2 := Lib.hid (HY1.out.below hb2 HY1.out.lt)
  have HB2 := Lib.hid (bthen HB1.out hb2)
  clear hb2 HB1 HX1 HY1
  have HP3 : Hid (Blk (w2.alloc (Obj.cells (bA (zeros 44)) 26)) w2.heap.size 26 (bA (zeros 44))) := Lib.hid (Blk.new _ _ _)
  have HX3 := Lib.hid (HX2.out.alloc (Obj.cells (bA (zeros 44)) 26))
  have HY3 := Lib.hid (HY2.out.alloc (Obj.cells (bA (zeros 44)) 26))
  have HB3 := Lib.hid (bthen HB2.out (below_alloc w2 (Obj.cells (bA (zeros 44)) 26)))
  clear HB2 HX2 HY2
  go_upto_region 4 with (first | (refine wpl_store_new rfl _ _ rfl (bA (zeros 44)) w2 26 (bA (zeros 44)) rfl rfl rfl (info_44 (zeros_length 44)) ((bA_size _).trans ((zeros_length 44).trans ((bA_size _).trans (zeros_length 44)).symm)) (bA_one _) ?_; go_frame))
  generalize w2.alloc (Obj.cells (bA (zeros 44)) 26) = w3 at *
  refine wp_region_held (S := fun w' => Below w3.heap.size w3 w') (by kernel_rfl) ?_
  change wpAnyH _ _ _ _ _ _ _ _ (World.drew _)
  have hS : Below w3.heap.size w3 w3.drew := (Below.refl _ _).drew
  refine takeH hS (i := 0) (d := 22) (v := .agg (enA e)) rfl rfl (by kernel_rfl) (by kernel_rfl) (by kernel_rfl) (fun _ _ _ h => h) (Or.inl ⟨by kernel_rfl, fun w' hw' => by exact exec_load _ rfl (w.heap.size) rfl (HX3.out.below hw' HX3.out.lt) Try.underlying25 rfl (info_enA HL.out)⟩) ?_
  refine takeH hS (i := 2) (d := 24) (v := .agg (enA e)) rfl rfl (by kernel_rfl) (by kernel_rfl) (by kernel_rfl) (fun _ _ _ h => h) (Or.inl ⟨by kernel_rfl, fun w' hw' => by exact exec_load _ rfl (w.heap.size) rfl (HX3.out.below hw' HX3.out.lt) Try.underlying25 rfl (info_enA HL.out)⟩) ?_
  refine nextH (i := 1) rfl (by kernel_rfl) (by kernel_rfl) (fun K' hK => ?_)
  go_wp2_with fail
  refine (eright_any e _ HL.out).mono ?_
  rintro en w4a ⟨rfl, hb⟩
  rw [Hr.out]
  have hS1 : Below w3.heap.size w3 w4a := bel_next hS hb
  refine hK.out _ _ ⟨hS1, ?_⟩
  clear hK K' hb hS
  refine nextH (i := 3) rfl (by kernel_rfl) (by kernel_rfl) (fun K' hK => ?_)
  go_wp2_with fail
  refine (of_any e _ HL.out).mono ?_
  rintro en w4b ⟨rfl, hb⟩
  have hS2 : Below w3.heap.size w3 w4b := bel_next hS1 hb
  refine hK.out _ _ ⟨hS2, ?_⟩
  clear hK K' hb hS1
  refine nextH (i := 4) rfl (by kernel_rfl) (by kernel_rfl) (fun K' hK => ?_)
  go_wp2_with fail
  refine (rright4_any e _ HL.out).mono ?_
  rintro en w4 ⟨rfl, hb⟩
  rw [Hr.out]
  have hS3 : Below w3.heap.size w3 w4 := bel_next hS2 hb
  refine hK.out _ _ ⟨hS3, ?_⟩
  clear hK K' hb hS2
  refine takeH hS3 (i := 5) (d := 27) (v := .bool false) rfl rfl (by kernel_rfl) (by kernel_rfl) (by kernel_rfl) (fun _ _ _ h => h) (Or.inl ⟨by kernel_rfl, fun w' hw' => by kernel_rfl⟩) ?_
  refine wpAnyH_done (by kernel_rfl) ?_ _
  go_frame
  have HX4 := Lib.hid (HX3.out.below hS3 HX3.out.lt)
  have HY4 := Lib.hid (HY3.out.below hS3 HY3.out.lt)
  have HP4 := Lib.hid (HP3.out.below hS3 HP3.out.lt)
  have HB4 := Lib.hid (bthen HB3.out hS3)
  clear hS3 HB3 HX3 HY3 HP3
  go_upto_region 6 with fail
  go_upto_region 7 with (first | (refine wpl_load rfl _ rfl (w.heap.size) rfl _ _ _ HX4.out Try.underlying25 rfl (info_enA HL.out) ?_; go_frame))
  refine (of_any e _ HL.out).mono ?_
  rintro en w5 ⟨rfl, hb5⟩
  have HX5 := Lib.hid (HX4.out.below hb5 HX4.out.lt)
  have HY5 := Lib.hid (HY4.out.below hb5 HY4.out.lt)
  have HP5 := Lib.hid (HP4.out.below hb5 HP4.out.lt)
  have HB5 := Lib.hid (bthen HB4.out hb5)
  clear hb5 HB4 HX4 HY4 HP4
  go_upto_region 7 with fail
  refine (rright4_any e _ HL.out).mono ?_
  rintro en w6 ⟨rfl, hb6⟩
  rw [Hr.out]
  have HX6 := Lib.hid (HX5.out.below hb6 HX5.out.lt)
  have HY6 := Lib.hid (HY5.out.below hb6 HY5.out.lt)
  have HP6 := Lib.hid (HP5.out.below hb6 HP5.out.lt)
  have HB6 := Lib.hid (bthen HB5.out hb6)
  clear hb6 HB5 HX5 HY5 HP5
  go_upto_region 7 with fail
  go_upto_region 12 with (first | (refine wpl_load_g (by rfl) _ rfl (w2.heap.size) rfl _ _ _ HP6.out Try.underlying26 rfl (info_44 (zeros_length 44)) ?_; go_frame) | (refine wpl_build (by rfl) 26 _ rfl (.agg (bA (zeros 44))) (fun _ => by kernel_rfl) ?_; go_frame) | (refine wpl_run (by rfl) (.bool false) (exec_neq_sector ty44 _ _ _ rfl (zeros 44) (zeros 44) rfl rfl (zeros_length 44) (zeros_length 44) false (by simp)) ?_; go_frame))
  go_upto_region 13 with (first | (refine wpl_load rfl _ rfl (w.heap.size + 1) rfl _ _ _ HY6.out Try.underlying26 rfl (info_44 HL2.out) ?_; go_frame))
  refine (eof_any k bs _ HL2.out Hb2.out).mono ?_
  rintro en w20 ⟨rfl, hb20⟩
  rw [Hv.out, He.out]
  have HY20 := Lib.hid (HY6.out.below hb20 HY6.out.lt)
  have HB20 := Lib.hid (bthen HB6.out hb20)
  clear hb20 HB6 HY6
  have HR21 : Hid (Blk (w20.alloc (Obj.cells (enA (D)) 25)) w20.heap.size 25 (enA (D))) := Lib.hid (Blk.new _ _ _)
  have HY21 := Lib.hid (HY20.out.alloc (Obj.cells (enA (D)) 25))
  have HB21 := Lib.hid (bthen HB20.out (below_alloc w20 (Obj.cells (enA (D)) 25)))
  clear HB20 HY20
  go_upto_region 13 with (first | (refine wpl_store_new rfl _ _ rfl (enA (D)) w20 25 (enA en0) rfl rfl rfl (info_enA HDl.out) ((enA_size en0_len).trans (enA_size HDl.out).symm) enA_one ?_; go_frame))
  generalize w20.alloc (Obj.cells (enA (D)) 25) = w21 at *
  go_upto_region 14 with (first | (refine wpl_load rfl _ rfl (w.heap.size + 1) rfl _ _ _ HY21.out Try.underlying26 rfl (info_44 HL2.out) ?_; go_frame))
  refine (rof4_any k bs _ HL2.out Hb2.out).mono ?_
  rintro en w22 ⟨rfl, hb22⟩
  rw [Hd.out, Ho.out]
  have HY22 := Lib.hid (HY21.out.below hb22 HY21.out.lt)
  have HR22 := Lib.hid (HR21.out.below hb22 HR21.out.lt)
  have HB22 := Lib.hid (bthen HB21.out hb22)
  clear hb22 HB21 HY21 HR21
  have HT23 : Hid (Blk (w22.alloc (Obj.cells (enA (D)) 32)) w22.heap.size 32 (enA (D))) := Lib.hid (Blk.new _ _ _)
  have HY23 := Lib.hid (HY22.out.alloc (Obj.cells (enA (D)) 32))
  have HR23 := Lib.hid (HR22.out.alloc (Obj.cells (enA (D)) 32))
  have HB23 := Lib.hid (bthen HB22.out (below_alloc w22 (Obj.cells (enA (D)) 32)))
  clear HB22 HY22 HR22
  go_upto_region 14 with (first | (refine wpl_store_new rfl _ _ rfl (enA (D)) w22 32 (enA en0) rfl rfl rfl (info_e4A HDl.out) ((enA_size en0_len).trans (enA_size HDl.out).symm) enA_one ?_; go_frame))
  generalize w22.alloc (Obj.cells (enA (D)) 32) = w23 at *
  go_upto_region 16 with fail
  refine wp_region_held (S := fun w' => Below w23.heap.size w23 w') (by kernel_rfl) ?_
  change wpAnyH _ _ _ _ _ _ _ _ (World.drew _)
  have hS : Below w23.heap.size w23 w23.drew := (Below.refl _ _).drew
  refine takeH hS (i := 0) (d := 85) (v := .int .i64 0) rfl rfl (by kernel_rfl) (by kernel_rfl) (by kernel_rfl) (fun _ _ _ h => h) (Or.inl ⟨by kernel_rfl, fun w' hw' => by kernel_rfl⟩) ?_
  refine takeH hS (i := 1) (d := 86) (v := .bool true) rfl rfl (by kernel_rfl) (by kernel_rfl) (by kernel_rfl) (fun _ _ _ h => h) (Or.inl ⟨by kernel_rfl, fun w' hw' => by kernel_rfl⟩) ?_
  refine takeH hS (i := 2) (d := 87) (v := .bool true) rfl rfl (by kernel_rfl) (by kernel_rfl) (by kernel_rfl) (fun _ _ _ h => h) (Or.inl ⟨by kernel_rfl, fun w' hw' => by kernel_rfl⟩) ?_
  go_frame
  refine takeH hS (i := 3) (d := 88) (v := .agg (enA D)) rfl rfl (by kernel_rfl) (by kernel_rfl) (by kernel_rfl) (fun _ _ _ h => h) (Or.inl ⟨by kernel_rfl, fun w' hw' => by exact exec_load _ rfl (w20.heap.size) rfl (HR23.out.below hw' HR23.out.lt) Try.underlying25 rfl (info_enA HDl.out)⟩) ?_
  refine takeH hS (i := 5) (d := 90) (v := .agg (enA D)) rfl rfl (by kernel_rfl) (by kernel_rfl) (by kernel_rfl) (fun _ _ _ h => h) (Or.inl ⟨by kernel_rfl, fun w' hw' => by exact exec_load _ rfl (w22.heap.size) rfl (HT23.out.below hw' HT23.out.lt) Try.underlying32 rfl (info_e4A HDl.out)⟩) ?_
  go_frame
  refine nextH (i := 4) rfl (by kernel_rfl) (by kernel_rfl) (fun K' hK => ?_)
  go_wp2_with fail
  refine (of_any D _ HDl.out).mono ?_
  rintro en w24 ⟨rfl, hb⟩
  have hS1 : Below w23.heap.size w23 w24 := bel_next hS hb
  refine hK.out _ _ ⟨hS1, ?_⟩
  clear hK K' hb hS
  refine takeH hS1 (i := 6) (d := 91) (v := .bool true) rfl rfl (by kernel_rfl) (by kernel_rfl) (by kernel_rfl) (fun _ _ _ h => h) (Or.inl ⟨by kernel_rfl, fun w' hw' => by exact exec_eql_entry tyE4 _ _ _ rfl D D rfl rfl HDl.out HDl.out true (decide_eq_true rfl)⟩) ?_
  go_frame
  refine takeH hS1 (i := 7) (d := 92) (v := .bool true) rfl rfl (by kernel_rfl) (by kernel_rfl) (by kernel_rfl) (fun _ _ _ h => h) (Or.inl ⟨by kernel_rfl, fun w' hw' => by kernel_rfl⟩) ?_
  refine takeH hS1 (i := 8) (d := 93) (v := .bool true) rfl rfl (by kernel_rfl) (by kernel_rfl) (by kernel_rfl) (fun _ _ _ h => h) (Or.inl ⟨by kernel_rfl, fun w' hw' => by kernel_rfl⟩) ?_
  go_frame
  refine takeH hS1 (i := 9) (d := 94) (v := .agg (enA D)) rfl rfl (by kernel_rfl) (by kernel_rfl) (by kernel_rfl) (fun _ _ _ h => h) (Or.inl ⟨by kernel_rfl, fun w' hw' => by exact exec_load _ rfl (w22.heap.size) rfl (HT23.out.below hw' HT23.out.lt) Try.underlying32 rfl (info_e4A HDl.out)⟩) ?_
  refine takeH hS1 (i := 11) (d := 96) (v := .agg (bA bs)) rfl rfl (by kernel_rfl) (by kernel_rfl) (by kernel_rfl) (fun _ _ _ h => h) (Or.inl ⟨by kernel_rfl, fun w' hw' => by exact exec_load _ rfl (w.heap.size + 1) rfl (HY23.out.below hw' HY23.out.lt) Try.underlying26 rfl (info_44 HL2.out)⟩) ?_
  go_frame
  refine nextH (i := 10) rfl (by kernel_rfl) (by kernel_rfl) (fun K' hK => ?_)
  go_wp2_with fail
  refine (rbody4_any D _ HDl.out HDb.out HDr.out).mono ?_
  rintro en w25 ⟨rfl, hb⟩
  rw [HDe.out]
  have hS2 : Below w23.heap.size w23 w25 := bel_next hS1 hb
  refine hK.out _ _ ⟨hS2, ?_⟩
  clear hK K' hb hS1
  refine takeH hS2 (i := 12) (d := 97) (v := .bool true) rfl rfl (by kernel_rfl) (by kernel_rfl) (by kernel_rfl) (fun _ _ _ h => h) (Or.inl ⟨by kernel_rfl, fun w' hw' => by exact exec_eql_sector ty44 _ _ _ rfl bs bs rfl rfl HL2.out HL2.out true (decide_eq_true rfl)⟩) ?_
  go_frame
  refine takeH hS2 (i := 13) (d := 98) (v := .bool true) rfl rfl (by kernel_rfl) (by kernel_rfl) (by kernel_rfl) (fun _ _ _ h => h) (Or.inl ⟨by kernel_rfl, fun w' hw' => by kernel_rfl⟩) ?_
  refine takeH hS2 (i := 14) (d := 6) (v := .bool true) rfl rfl (by kernel_rfl) (by kernel_rfl) (by kernel_rfl) (fun _ _ _ h => h) (Or.inl ⟨by kernel_rfl, fun w' hw' => by kernel_rfl⟩) ?_
  refine wpAnyH_done (by kernel_rfl) ?_ _
  go_frame
  go_wp2_with fail
  go_ret
  exact ⟨rfl, bthen HB23.out hS2⟩

set_option maxRecDepth 100000 in
set_option maxHeartbeats 1000000 in
theorem walkBodies_tf (e : EnR) (k : Int) (bs : List Nat) (w : World) (hl : e.y.length = 32) (hb : ∀ c ∈ e.y, c < 256) (hl2 : bs.length = 44) (hb2 : ∀ c ∈ bs, c < 256) (hr : rB e = true) (ho : rofB k bs = false) :
    Calls Try.prog 3 #[.agg (enA e), .int .i64 k, .agg (bA bs)] w fun en w' => en = .returned (.bool true) ∧ Below w.heap.size w w' := by
  have HL := Lib.hid hl
  have Hb := Lib.hid hb
  have HL2 := Lib.hid hl2
  have Hb2 := Lib.hid hb2
  have hz0 := zero_44
  have hz1 := zero_en
  have hz2 := zero_e4
  have HX0 : Hid (Blk ((w.alloc (Obj.cells (enA e) 25)).alloc (Obj.cells (bA bs) 26)) w.heap.size 25 (enA e)) := Lib.hid (Blk.alloc (Blk.new w 25 (enA e)) _)
  have HY0 : Hid (Blk ((w.alloc (Obj.cells (enA e) 25)).alloc (Obj.cells (bA bs) 26)) (w.heap.size + 1) 26 (bA bs)) := Lib.hid (by
    have h := Blk.new (w.alloc (Obj.cells (enA e) 25)) 26 (bA bs)
    rwa [show (w.alloc (Obj.cells (enA e) 25)).heap.size = w.heap.size + 1 by simp] at h)
  have HB0 : Hid (Below w.heap.size w ((w.alloc (Obj.cells (enA e) 25)).alloc (Obj.cells (bA bs) 26))) := Lib.hid (bthen (below_alloc _ _) (below_alloc _ _))
  have Hr := Lib.hid hr
  have Ho := Lib.hid ho
  have hbl := ebod_length hl
  have hbt := ebod_lt hb
  have hof := of_ebod hr hl hb
  have hov := ofV_ok hof.1
  rw [hof.2] at hov
  have hoe := ofE_ok hof.1
  obtain ⟨B, hB⟩ : ∃ B, ebod e = B := ⟨_, rfl⟩
  rw [hB] at hbl hbt hov hoe
  have HBl := Lib.hid hbl
  have HBt := Lib.hid hbt
  have Hqv := Lib.hid hov
  have Hqe := Lib.hid hoe
  have HBe := Lib.hid hB
  clear hbl hbt hof hov hoe hB
  have Hv : Hid (ofV k bs = en0) := Lib.hid (ofV_bad ((of_eq k bs hl2 hb2).trans ho))
  have He := Lib.hid (ofE_bad ((of_eq k bs hl2 hb2).trans ho))
  obtain ⟨D, hD⟩ : ∃ D, rofV k bs = D := ⟨_, rfl⟩
  have HDl : Hid (D.y.length = 32) := Lib.hid (by rw [← hD, rofV_bad ho]; exact en0_len)
  have Hd := Lib.hid hD
  clear hD
  clear hl hb hl2 hb2 hr ho
  go_enter Try.func3, Try.ntmps3
  go_wp2_with fail
  refine (anchor4_any _).mono ?_
  rintro en w1 ⟨rfl, hb1⟩
  have HX1 := Lib.hid (HX0.out.below hb1 HX0.out.lt)
  have HY1 := Lib.hid (HY0.out.below hb1 HY0.out.lt)
  have HB1 := Lib.hid (bthen HB0.out hb1)
  clear hb1 HB0 HX0 HY0
  go_upto_region 4 with (first | (refine wpl_load rfl _ rfl (w.heap.size) rfl _ _ _ HX1.out Try.underlying25 rfl (info_enA HL.out) ?_; go_frame))
  refine (body_ok e _ HL.out Hb.out Hr.out).mono ?_
  rintro en w2 ⟨rfl, hb2⟩
  rw [HBe.out]
  have HX2 := Lib.hid (HX1.out.below hb2 HX1.out.lt)
  have HY2 := Lib.hid (HY1.out.below hb2 HY1.out.lt)
  have HB2 := Lib.hid (bthen HB1.out hb2)
  clear hb2 HB1 HX1 HY1
  have HP3 : Hid (Blk (w2.alloc (Obj.cells (bA (B)) 26)) w2.heap.size 26 (bA (B))) := Lib.hid (Blk.new _ _ _)
  have HX3 := Lib.hid (HX2.out.alloc (Obj.cells (bA (B)) 26))
  have HY3 := Lib.hid (HY2.out.alloc (Obj.cells (bA (B)) 26))
  have HB3 := Lib.hid (bthen HB2.out (below_alloc w2 (Obj.cells (bA (B)) 26)))
  clear HB2 HX2 HY2
  go_upto_region 4 with (first | (refine wpl_store_new rfl _ _ rfl (bA (B)) w2 26 (bA (zeros 44)) rfl rfl rfl (info_44 HBl.out) ((bA_size _).trans ((zeros_length 44).trans ((bA_size _).trans HBl.out).symm)) (bA_one _) ?_; go_frame))
  generalize w2.alloc (Obj.cells (bA (B)) 26) = w3 at *
  refine wp_region_held (S := fun w' => Below w3.heap.size w3 w') (by kernel_rfl) ?_
  change wpAnyH _ _ _ _ _ _ _ _ (World.drew _)
  have hS : Below w3.heap.size w3 w3.drew := (Below.refl _ _).drew
  refine takeH hS (i := 0) (d := 22) (v := .agg (enA e)) rfl rfl (by kernel_rfl) (by kernel_rfl) (by kernel_rfl) (fun _ _ _ h => h) (Or.inl ⟨by kernel_rfl, fun w' hw' => by exact exec_load _ rfl (w.heap.size) rfl (HX3.out.below hw' HX3.out.lt) Try.underlying25 rfl (info_enA HL.out)⟩) ?_
  refine takeH hS (i := 2) (d := 24) (v := .agg (enA e)) rfl rfl (by kernel_rfl) (by kernel_rfl) (by kernel_rfl) (fun _ _ _ h => h) (Or.inl ⟨by kernel_rfl, fun w' hw' => by exact exec_load _ rfl (w.heap.size) rfl (HX3.out.below hw' HX3.out.lt) Try.underlying25 rfl (info_enA HL.out)⟩) ?_
  refine nextH (i := 1) rfl (by kernel_rfl) (by kernel_rfl) (fun K' hK => ?_)
  go_wp2_with fail
  refine (eright_any e _ HL.out).mono ?_
  rintro en w4a ⟨rfl, hb⟩
  rw [Hr.out]
  have hS1 : Below w3.heap.size w3 w4a := bel_next hS hb
  refine hK.out _ _ ⟨hS1, ?_⟩
  clear hK K' hb hS
  refine nextH (i := 3) rfl (by kernel_rfl) (by kernel_rfl) (fun K' hK => ?_)
  go_wp2_with fail
  refine (of_any e _ HL.out).mono ?_
  rintro en w4b ⟨rfl, hb⟩
  have hS2 : Below w3.heap.size w3 w4b := bel_next hS1 hb
  refine hK.out _ _ ⟨hS2, ?_⟩
  clear hK K' hb hS1
  refine nextH (i := 4) rfl (by kernel_rfl) (by kernel_rfl) (fun K' hK => ?_)
  go_wp2_with fail
  refine (rright4_any e _ HL.out).mono ?_
  rintro en w4 ⟨rfl, hb⟩
  rw [Hr.out]
  have hS3 : Below w3.heap.size w3 w4 := bel_next hS2 hb
  refine hK.out _ _ ⟨hS3, ?_⟩
  clear hK K' hb hS2
  refine takeH hS3 (i := 5) (d := 27) (v := .bool false) rfl rfl (by kernel_rfl) (by kernel_rfl) (by kernel_rfl) (fun _ _ _ h => h) (Or.inl ⟨by kernel_rfl, fun w' hw' => by kernel_rfl⟩) ?_
  refine wpAnyH_done (by kernel_rfl) ?_ _
  go_frame
  have HX4 := Lib.hid (HX3.out.below hS3 HX3.out.lt)
  have HY4 := Lib.hid (HY3.out.below hS3 HY3.out.lt)
  have HP4 := Lib.hid (HP3.out.below hS3 HP3.out.lt)
  have HB4 := Lib.hid (bthen HB3.out hS3)
  clear hS3 HB3 HX3 HY3 HP3
  go_upto_region 6 with fail
  go_upto_region 7 with (first | (refine wpl_load rfl _ rfl (w.heap.size) rfl _ _ _ HX4.out Try.underlying25 rfl (info_enA HL.out) ?_; go_frame))
  refine (of_any e _ HL.out).mono ?_
  rintro en w5 ⟨rfl, hb5⟩
  have HX5 := Lib.hid (HX4.out.below hb5 HX4.out.lt)
  have HY5 := Lib.hid (HY4.out.below hb5 HY4.out.lt)
  have HP5 := Lib.hid (HP4.out.below hb5 HP4.out.lt)
  have HB5 := Lib.hid (bthen HB4.out hb5)
  clear hb5 HB4 HX4 HY4 HP4
  go_upto_region 7 with fail
  refine (rright4_any e _ HL.out).mono ?_
  rintro en w6 ⟨rfl, hb6⟩
  rw [Hr.out]
  have HX6 := Lib.hid (HX5.out.below hb6 HX5.out.lt)
  have HY6 := Lib.hid (HY5.out.below hb6 HY5.out.lt)
  have HP6 := Lib.hid (HP5.out.below hb6 HP5.out.lt)
  have HB6 := Lib.hid (bthen HB5.out hb6)
  clear hb6 HB5 HX5 HY5 HP5
  go_upto_region 9 with fail
  have c0 := (HX6.out.cell 0).trans (enA_at0 e)
  go_upto_region 10 with (first | (refine wpl_load rfl _ rfl (w2.heap.size) rfl _ _ _ HP6.out Try.underlying26 rfl (info_44 HBl.out) ?_; go_frame))
  clear c0
  refine (eof_any e.k B _ HBl.out HBt.out).mono ?_
  rintro en w7 ⟨rfl, hb7⟩
  rw [Hqv.out, Hqe.out]
  have HX7 := Lib.hid (HX6.out.below hb7 HX6.out.lt)
  have HY7 := Lib.hid (HY6.out.below hb7 HY6.out.lt)
  have HP7 := Lib.hid (HP6.out.below hb7 HP6.out.lt)
  have HB7 := Lib.hid (bthen HB6.out hb7)
  clear hb7 HB6 HX6 HY6 HP6
  have HQ8 : Hid (Blk (w7.alloc (Obj.cells (enA e) 25)) w7.heap.size 25 (enA e)) := Lib.hid (Blk.new _ _ _)
  have HX8 := Lib.hid (HX7.out.alloc (Obj.cells (enA e) 25))
  have HY8 := Lib.hid (HY7.out.alloc (Obj.cells (enA e) 25))
  have HP8 := Lib.hid (HP7.out.alloc (Obj.cells (enA e) 25))
  have HB8 := Lib.hid (bthen HB7.out (below_alloc w7 (Obj.cells (enA e) 25)))
  clear HB7 HX7 HY7 HP7
  go_upto_region 10 with (first | (refine wpl_store_new rfl _ _ rfl (enA e) w7 25 (enA en0) rfl rfl rfl (info_enA HL.out) ((enA_size en0_len).trans (enA_size HL.out).symm) enA_one ?_; go_frame))
  generalize w7.alloc (Obj.cells (enA e) 25) = w8 at *
  refine wp_region_held (S := fun w' => Below w8.heap.size w8 w') (by kernel_rfl) ?_
  change wpAnyH _ _ _ _ _ _ _ _ (World.drew _)
  have hS : Below w8.heap.size w8 w8.drew := (Below.refl _ _).drew
  refine takeH hS (i := 0) (d := 46) (v := .int .i64 0) rfl rfl (by kernel_rfl) (by kernel_rfl) (by kernel_rfl) (fun _ _ _ h => h) (Or.inl ⟨by kernel_rfl, fun w' hw' => by kernel_rfl⟩) ?_
  refine takeH hS (i := 1) (d := 47) (v := .bool false) rfl rfl (by kernel_rfl) (by kernel_rfl) (by kernel_rfl) (fun _ _ _ h => h) (Or.inl ⟨by kernel_rfl, fun w' hw' => by kernel_rfl⟩) ?_
  refine takeH hS (i := 2) (d := 48) (v := .bool false) rfl rfl (by kernel_rfl) (by kernel_rfl) (by kernel_rfl) (fun _ _ _ h => h) (Or.inl ⟨by kernel_rfl, fun w' hw' => by kernel_rfl⟩) ?_
  go_frame
  refine takeH hS (i := 3) (d := 49) (v := .agg (bA B)) rfl rfl (by kernel_rfl) (by kernel_rfl) (by kernel_rfl) (fun _ _ _ h => h) (Or.inl ⟨by kernel_rfl, fun w' hw' => by exact exec_load _ rfl (w2.heap.size) rfl (HP8.out.below hw' HP8.out.lt) Try.underlying26 rfl (info_44 HBl.out)⟩) ?_
  refine takeH hS (i := 4) (d := 50) (v := .agg (enA e)) rfl rfl (by kernel_rfl) (by kernel_rfl) (by kernel_rfl) (fun _ _ _ h => h) (Or.inl ⟨by kernel_rfl, fun w' hw' => by exact exec_load _ rfl (w.heap.size) rfl (HX8.out.below hw' HX8.out.lt) Try.underlying25 rfl (info_enA HL.out)⟩) ?_
  go_frame
  refine nextH (i := 5) rfl (by kernel_rfl) (by kernel_rfl) (fun K' hK => ?_)
  go_wp2_with fail
  refine (of_any e _ HL.out).mono ?_
  rintro en w9a ⟨rfl, hb⟩
  have hS1 : Below w8.heap.size w8 w9a := bel_next hS hb
  refine hK.out _ _ ⟨hS1, ?_⟩
  clear hK K' hb hS
  refine nextH (i := 6) rfl (by kernel_rfl) (by kernel_rfl) (fun K' hK => ?_)
  go_wp2_with fail
  refine (rbody4_any e _ HL.out Hb.out Hr.out).mono ?_
  rintro en w9 ⟨rfl, hb⟩
  rw [HBe.out]
  have hS2 : Below w8.heap.size w8 w9 := bel_next hS1 hb
  refine hK.out _ _ ⟨hS2, ?_⟩
  clear hK K' hb hS1
  refine takeH hS2 (i := 7) (d := 53) (v := .bool false) rfl rfl (by kernel_rfl) (by kernel_rfl) (by kernel_rfl) (fun _ _ _ h => h) (Or.inl ⟨by kernel_rfl, fun w' hw' => by exact exec_neq_sector ty44 _ _ _ rfl B B rfl rfl HBl.out HBl.out false (by simp)⟩) ?_
  go_frame
  refine takeH hS2 (i := 8) (d := 54) (v := .bool false) rfl rfl (by kernel_rfl) (by kernel_rfl) (by kernel_rfl) (fun _ _ _ h => h) (Or.inl ⟨by kernel_rfl, fun w' hw' => by kernel_rfl⟩) ?_
  refine takeH hS2 (i := 9) (d := 55) (v := .bool false) rfl rfl (by kernel_rfl) (by kernel_rfl) (by kernel_rfl) (fun _ _ _ h => h) (Or.inl ⟨by kernel_rfl, fun w' hw' => by kernel_rfl⟩) ?_
  go_frame
  refine takeH hS2 (i := 10) (d := 56) (v := .agg (enA e)) rfl rfl (by kernel_rfl) (by kernel_rfl) (by kernel_rfl) (fun _ _ _ h => h) (Or.inl ⟨by kernel_rfl, fun w' hw' => by exact exec_load _ rfl (w7.heap.size) rfl (HQ8.out.below hw' HQ8.out.lt) Try.underlying25 rfl (info_enA HL.out)⟩) ?_
  refine takeH hS2 (i := 11) (d := 57) (v := .agg (enA e)) rfl rfl (by kernel_rfl) (by kernel_rfl) (by kernel_rfl) (fun _ _ _ h => h) (Or.inl ⟨by kernel_rfl, fun w' hw' => by exact exec_load _ rfl (w.heap.size) rfl (HX8.out.below hw' HX8.out.lt) Try.underlying25 rfl (info_enA HL.out)⟩) ?_
  refine takeH hS2 (i := 12) (d := 58) (v := .bool false) rfl rfl (by kernel_rfl) (by kernel_rfl) (by kernel_rfl) (fun _ _ _ h => h) (Or.inl ⟨by kernel_rfl, fun w' hw' => by exact exec_neq_entry tyEn _ _ _ rfl e e rfl rfl HL.out HL.out false (by simp)⟩) ?_
  go_frame
  refine takeH hS2 (i := 13) (d := 59) (v := .bool false) rfl rfl (by kernel_rfl) (by kernel_rfl) (by kernel_rfl) (fun _ _ _ h => h) (Or.inl ⟨by kernel_rfl, fun w' hw' => by kernel_rfl⟩) ?_
  refine takeH hS2 (i := 14) (d := 60) (v := .bool false) rfl rfl (by kernel_rfl) (by kernel_rfl) (by kernel_rfl) (fun _ _ _ h => h) (Or.inl ⟨by kernel_rfl, fun w' hw' => by kernel_rfl⟩) ?_
  go_frame
  refine takeH hS2 (i := 15) (d := 61) (v := .int .i64 0) rfl rfl (by kernel_rfl) (by kernel_rfl) (by kernel_rfl) (fun _ _ _ h => h) (Or.inl ⟨by kernel_rfl, fun w' hw' => by kernel_rfl⟩) ?_
  refine takeH hS2 (i := 16) (d := 62) (v := .bool false) rfl rfl (by kernel_rfl) (by kernel_rfl) (by kernel_rfl) (fun _ _ _ h => h) (Or.inl ⟨by kernel_rfl, fun w' hw' => by kernel_rfl⟩) ?_
  refine takeH hS2 (i := 17) (d := 63) (v := .bool false) rfl rfl (by kernel_rfl) (by kernel_rfl) (by kernel_rfl) (fun _ _ _ h => h) (Or.inl ⟨by kernel_rfl, fun w' hw' => by kernel_rfl⟩) ?_
  refine wpAnyH_done (by kernel_rfl) ?_ _
  go_frame
  have HX9 := Lib.hid (HX8.out.below hS2 HX8.out.lt)
  have HY9 := Lib.hid (HY8.out.below hS2 HY8.out.lt)
  have HP9 := Lib.hid (HP8.out.below hS2 HP8.out.lt)
  have HB9 := Lib.hid (bthen HB8.out hS2)
  clear hS2 HB8 HX8 HY8 HP8
  go_upto_region 12 with fail
  go_upto_region 13 with (first | (refine wpl_load rfl _ rfl (w.heap.size + 1) rfl _ _ _ HY9.out Try.underlying26 rfl (info_44 HL2.out) ?_; go_frame))
  refine (eof_any k bs _ HL2.out Hb2.out).mono ?_
  rintro en w20 ⟨rfl, hb20⟩
  rw [Hv.out, He.out]
  have HY20 := Lib.hid (HY9.out.below hb20 HY9.out.lt)
  have HB20 := Lib.hid (bthen HB9.out hb20)
  clear hb20 HB9 HY9
  have HR21 : Hid (Blk (w20.alloc (Obj.cells (enA (en0)) 25)) w20.heap.size 25 (enA (en0))) := Lib.hid (Blk.new _ _ _)
  have HY21 := Lib.hid (HY20.out.alloc (Obj.cells (enA (en0)) 25))
  have HB21 := Lib.hid (bthen HB20.out (below_alloc w20 (Obj.cells (enA (en0)) 25)))
  clear HB20 HY20
  go_upto_region 13 with (first | (refine wpl_store_new rfl _ _ rfl (enA (en0)) w20 25 (enA en0) rfl rfl rfl (info_enA en0_len) ((enA_size en0_len).trans (enA_size en0_len).symm) enA_one ?_; go_frame))
  generalize w20.alloc (Obj.cells (enA (en0)) 25) = w21 at *
  go_upto_region 14 with (first | (refine wpl_load rfl _ rfl (w.heap.size + 1) rfl _ _ _ HY21.out Try.underlying26 rfl (info_44 HL2.out) ?_; go_frame))
  refine (rof4_any k bs _ HL2.out Hb2.out).mono ?_
  rintro en w22 ⟨rfl, hb22⟩
  rw [Hd.out, Ho.out]
  have HY22 := Lib.hid (HY21.out.below hb22 HY21.out.lt)
  have HR22 := Lib.hid (HR21.out.below hb22 HR21.out.lt)
  have HB22 := Lib.hid (bthen HB21.out hb22)
  clear hb22 HB21 HY21 HR21
  have HT23 : Hid (Blk (w22.alloc (Obj.cells (enA (D)) 32)) w22.heap.size 32 (enA (D))) := Lib.hid (Blk.new _ _ _)
  have HY23 := Lib.hid (HY22.out.alloc (Obj.cells (enA (D)) 32))
  have HR23 := Lib.hid (HR22.out.alloc (Obj.cells (enA (D)) 32))
  have HB23 := Lib.hid (bthen HB22.out (below_alloc w22 (Obj.cells (enA (D)) 32)))
  clear HB22 HY22 HR22
  go_upto_region 14 with (first | (refine wpl_store_new rfl _ _ rfl (enA (D)) w22 32 (enA en0) rfl rfl rfl (info_e4A HDl.out) ((enA_size en0_len).trans (enA_size HDl.out).symm) enA_one ?_; go_frame))
  generalize w22.alloc (Obj.cells (enA (D)) 32) = w23 at *
  go_upto_region 15 with fail
  go_wp2_with (first | (refine wpl_load_g (by rfl) _ rfl (w20.heap.size) rfl _ _ _ HR23.out Try.underlying25 rfl (info_enA en0_len) ?_; go_frame) | (refine wpl_build (by rfl) 25 _ rfl (.agg (enA en0)) (fun _ => by kernel_rfl) ?_; go_frame) | (refine wpl_run (by rfl) (.bool true) (exec_eql_entry tyEn _ _ _ rfl (en0) (en0) rfl rfl en0_len en0_len true (decide_eq_true rfl)) ?_; go_frame))
  go_ret
  exact ⟨rfl, HB23.out⟩

set_option maxRecDepth 100000 in
set_option maxHeartbeats 1000000 in
theorem walkBodies_tt (e : EnR) (k : Int) (bs : List Nat) (w : World) (hl : e.y.length = 32) (hb : ∀ c ∈ e.y, c < 256) (hl2 : bs.length = 44) (hb2 : ∀ c ∈ bs, c < 256) (hr : rB e = true) (ho : rofB k bs = true) :
    Calls Try.prog 3 #[.agg (enA e), .int .i64 k, .agg (bA bs)] w fun en w' => en = .returned (.bool true) ∧ Below w.heap.size w w' := by
  have HL := Lib.hid hl
  have Hb := Lib.hid hb
  have HL2 := Lib.hid hl2
  have Hb2 := Lib.hid hb2
  have hz0 := zero_44
  have hz1 := zero_en
  have hz2 := zero_e4
  have HX0 : Hid (Blk ((w.alloc (Obj.cells (enA e) 25)).alloc (Obj.cells (bA bs) 26)) w.heap.size 25 (enA e)) := Lib.hid (Blk.alloc (Blk.new w 25 (enA e)) _)
  have HY0 : Hid (Blk ((w.alloc (Obj.cells (enA e) 25)).alloc (Obj.cells (bA bs) 26)) (w.heap.size + 1) 26 (bA bs)) := Lib.hid (by
    have h := Blk.new (w.alloc (Obj.cells (enA e) 25)) 26 (bA bs)
    rwa [show (w.alloc (Obj.cells (enA e) 25)).heap.size = w.heap.size + 1 by simp] at h)
  have HB0 : Hid (Below w.heap.size w ((w.alloc (Obj.cells (enA e) 25)).alloc (Obj.cells (bA bs) 26))) := Lib.hid (bthen (below_alloc _ _) (below_alloc _ _))
  have Hr := Lib.hid hr
  have Ho := Lib.hid ho
  have hbl := ebod_length hl
  have hbt := ebod_lt hb
  have hof := of_ebod hr hl hb
  have hov := ofV_ok hof.1
  rw [hof.2] at hov
  have hoe := ofE_ok hof.1
  obtain ⟨B, hB⟩ : ∃ B, ebod e = B := ⟨_, rfl⟩
  rw [hB] at hbl hbt hov hoe
  have HBl := Lib.hid hbl
  have HBt := Lib.hid hbt
  have Hqv := Lib.hid hov
  have Hqe := Lib.hid hoe
  have HBe := Lib.hid hB
  clear hbl hbt hof hov hoe hB
  obtain ⟨D, hD⟩ : ∃ D, rofV k bs = D := ⟨_, rfl⟩
  have hdd : doc k bs = D := by rw [← hD, rofV_ok ho]
  have HDl : Hid (D.y.length = 32) := Lib.hid (by rw [← hdd]; exact doc_len hl2)
  have HDb : Hid (∀ c ∈ D.y, c < 256) := Lib.hid (by rw [← hdd]; exact doc_lt hb2)
  have HDr : Hid (rB D = true) := Lib.hid (by rw [← hdd]; exact ho)
  have HDe : Hid (ebod D = bs) := Lib.hid (by rw [← hdd]; exact ebod_doc k bs hl2 hb2)
  have Hv : Hid (ofV k bs = D) := Lib.hid ((ofV_eq k bs hl2 hb2).trans hD)
  have He := Lib.hid (ofE_ok ((of_eq k bs hl2 hb2).trans ho))
  have Hd := Lib.hid hD
  clear hD hdd
  clear hl hb hl2 hb2 hr ho
  go_enter Try.func3, Try.ntmps3
  go_wp2_with fail
  refine (anchor4_any _).mono ?_
  rintro en w1 ⟨rfl, hb1⟩
  have HX1 := Lib.hid (HX0.out.below hb1 HX0.out.lt)
  have HY1 := Lib.hid (HY0.out.below hb1 HY0.out.lt)
  have HB1 := Lib.hid (bthen HB0.out hb1)
  clear hb1 HB0 HX0 HY0
  go_upto_region 4 with (first | (refine wpl_load rfl _ rfl (w.heap.size) rfl _ _ _ HX1.out Try.underlying25 rfl (info_enA HL.out) ?_; go_frame))
  refine (body_ok e _ HL.out Hb.out Hr.out).mono ?_
  rintro en w2 ⟨rfl, hb2⟩
  rw [HBe.out]
  have HX2 := Lib.hid (HX1.out.below hb2 HX1.out.lt)
  have HY2 := Lib.hid (HY1.out.below hb2 HY1.out.lt)
  have HB2 := Lib.hid (bthen HB1.out hb2)
  clear hb2 HB1 HX1 HY1
  have HP3 : Hid (Blk (w2.alloc (Obj.cells (bA (B)) 26)) w2.heap.size 26 (bA (B))) := Lib.hid (Blk.new _ _ _)
  have HX3 := Lib.hid (HX2.out.alloc (Obj.cells (bA (B)) 26))
  have HY3 := Lib.hid (HY2.out.alloc (Obj.cells (bA (B)) 26))
  have HB3 := Lib.hid (bthen HB2.out (below_alloc w2 (Obj.cells (bA (B)) 26)))
  clear HB2 HX2 HY2
  go_upto_region 4 with (first | (refine wpl_store_new rfl _ _ rfl (bA (B)) w2 26 (bA (zeros 44)) rfl rfl rfl (info_44 HBl.out) ((bA_size _).trans ((zeros_length 44).trans ((bA_size _).trans HBl.out).symm)) (bA_one _) ?_; go_frame))
  generalize w2.alloc (Obj.cells (bA (B)) 26) = w3 at *
  refine wp_region_held (S := fun w' => Below w3.heap.size w3 w') (by kernel_rfl) ?_
  change wpAnyH _ _ _ _ _ _ _ _ (World.drew _)
  have hS : Below w3.heap.size w3 w3.drew := (Below.refl _ _).drew
  refine takeH hS (i := 0) (d := 22) (v := .agg (enA e)) rfl rfl (by kernel_rfl) (by kernel_rfl) (by kernel_rfl) (fun _ _ _ h => h) (Or.inl ⟨by kernel_rfl, fun w' hw' => by exact exec_load _ rfl (w.heap.size) rfl (HX3.out.below hw' HX3.out.lt) Try.underlying25 rfl (info_enA HL.out)⟩) ?_
  refine takeH hS (i := 2) (d := 24) (v := .agg (enA e)) rfl rfl (by kernel_rfl) (by kernel_rfl) (by kernel_rfl) (fun _ _ _ h => h) (Or.inl ⟨by kernel_rfl, fun w' hw' => by exact exec_load _ rfl (w.heap.size) rfl (HX3.out.below hw' HX3.out.lt) Try.underlying25 rfl (info_enA HL.out)⟩) ?_
  refine nextH (i := 1) rfl (by kernel_rfl) (by kernel_rfl) (fun K' hK => ?_)
  go_wp2_with fail
  refine (eright_any e _ HL.out).mono ?_
  rintro en w4a ⟨rfl, hb⟩
  rw [Hr.out]
  have hS1 : Below w3.heap.size w3 w4a := bel_next hS hb
  refine hK.out _ _ ⟨hS1, ?_⟩
  clear hK K' hb hS
  refine nextH (i := 3) rfl (by kernel_rfl) (by kernel_rfl) (fun K' hK => ?_)
  go_wp2_with fail
  refine (of_any e _ HL.out).mono ?_
  rintro en w4b ⟨rfl, hb⟩
  have hS2 : Below w3.heap.size w3 w4b := bel_next hS1 hb
  refine hK.out _ _ ⟨hS2, ?_⟩
  clear hK K' hb hS1
  refine nextH (i := 4) rfl (by kernel_rfl) (by kernel_rfl) (fun K' hK => ?_)
  go_wp2_with fail
  refine (rright4_any e _ HL.out).mono ?_
  rintro en w4 ⟨rfl, hb⟩
  rw [Hr.out]
  have hS3 : Below w3.heap.size w3 w4 := bel_next hS2 hb
  refine hK.out _ _ ⟨hS3, ?_⟩
  clear hK K' hb hS2
  refine takeH hS3 (i := 5) (d := 27) (v := .bool false) rfl rfl (by kernel_rfl) (by kernel_rfl) (by kernel_rfl) (fun _ _ _ h => h) (Or.inl ⟨by kernel_rfl, fun w' hw' => by kernel_rfl⟩) ?_
  refine wpAnyH_done (by kernel_rfl) ?_ _
  go_frame
  have HX4 := Lib.hid (HX3.out.below hS3 HX3.out.lt)
  have HY4 := Lib.hid (HY3.out.below hS3 HY3.out.lt)
  have HP4 := Lib.hid (HP3.out.below hS3 HP3.out.lt)
  have HB4 := Lib.hid (bthen HB3.out hS3)
  clear hS3 HB3 HX3 HY3 HP3
  go_upto_region 6 with fail
  go_upto_region 7 with (first | (refine wpl_load rfl _ rfl (w.heap.size) rfl _ _ _ HX4.out Try.underlying25 rfl (info_enA HL.out) ?_; go_frame))
  refine (of_any e _ HL.out).mono ?_
  rintro en w5 ⟨rfl, hb5⟩
  have HX5 := Lib.hid (HX4.out.below hb5 HX4.out.lt)
  have HY5 := Lib.hid (HY4.out.below hb5 HY4.out.lt)
  have HP5 := Lib.hid (HP4.out.below hb5 HP4.out.lt)
  have HB5 := Lib.hid (bthen HB4.out hb5)
  clear hb5 HB4 HX4 HY4 HP4
  go_upto_region 7 with fail
  refine (rright4_any e _ HL.out).mono ?_
  rintro en w6 ⟨rfl, hb6⟩
  rw [Hr.out]
  have HX6 := Lib.hid (HX5.out.below hb6 HX5.out.lt)
  have HY6 := Lib.hid (HY5.out.below hb6 HY5.out.lt)
  have HP6 := Lib.hid (HP5.out.below hb6 HP5.out.lt)
  have HB6 := Lib.hid (bthen HB5.out hb6)
  clear hb6 HB5 HX5 HY5 HP5
  go_upto_region 9 with fail
  have c0 := (HX6.out.cell 0).trans (enA_at0 e)
  go_upto_region 10 with (first | (refine wpl_load rfl _ rfl (w2.heap.size) rfl _ _ _ HP6.out Try.underlying26 rfl (info_44 HBl.out) ?_; go_frame))
  clear c0
  refine (eof_any e.k B _ HBl.out HBt.out).mono ?_
  rintro en w7 ⟨rfl, hb7⟩
  rw [Hqv.out, Hqe.out]
  have HX7 := Lib.hid (HX6.out.below hb7 HX6.out.lt)
  have HY7 := Lib.hid (HY6.out.below hb7 HY6.out.lt)
  have HP7 := Lib.hid (HP6.out.below hb7 HP6.out.lt)
  have HB7 := Lib.hid (bthen HB6.out hb7)
  clear hb7 HB6 HX6 HY6 HP6
  have HQ8 : Hid (Blk (w7.alloc (Obj.cells (enA e) 25)) w7.heap.size 25 (enA e)) := Lib.hid (Blk.new _ _ _)
  have HX8 := Lib.hid (HX7.out.alloc (Obj.cells (enA e) 25))
  have HY8 := Lib.hid (HY7.out.alloc (Obj.cells (enA e) 25))
  have HP8 := Lib.hid (HP7.out.alloc (Obj.cells (enA e) 25))
  have HB8 := Lib.hid (bthen HB7.out (below_alloc w7 (Obj.cells (enA e) 25)))
  clear HB7 HX7 HY7 HP7
  go_upto_region 10 with (first | (refine wpl_store_new rfl _ _ rfl (enA e) w7 25 (enA en0) rfl rfl rfl (info_enA HL.out) ((enA_size en0_len).trans (enA_size HL.out).symm) enA_one ?_; go_frame))
  generalize w7.alloc (Obj.cells (enA e) 25) = w8 at *
  refine wp_region_held (S := fun w' => Below w8.heap.size w8 w') (by kernel_rfl) ?_
  change wpAnyH _ _ _ _ _ _ _ _ (World.drew _)
  have hS : Below w8.heap.size w8 w8.drew := (Below.refl _ _).drew
  refine takeH hS (i := 0) (d := 46) (v := .int .i64 0) rfl rfl (by kernel_rfl) (by kernel_rfl) (by kernel_rfl) (fun _ _ _ h => h) (Or.inl ⟨by kernel_rfl, fun w' hw' => by kernel_rfl⟩) ?_
  refine takeH hS (i := 1) (d := 47) (v := .bool false) rfl rfl (by kernel_rfl) (by kernel_rfl) (by kernel_rfl) (fun _ _ _ h => h) (Or.inl ⟨by kernel_rfl, fun w' hw' => by kernel_rfl⟩) ?_
  refine takeH hS (i := 2) (d := 48) (v := .bool false) rfl rfl (by kernel_rfl) (by kernel_rfl) (by kernel_rfl) (fun _ _ _ h => h) (Or.inl ⟨by kernel_rfl, fun w' hw' => by kernel_rfl⟩) ?_
  go_frame
  refine takeH hS (i := 3) (d := 49) (v := .agg (bA B)) rfl rfl (by kernel_rfl) (by kernel_rfl) (by kernel_rfl) (fun _ _ _ h => h) (Or.inl ⟨by kernel_rfl, fun w' hw' => by exact exec_load _ rfl (w2.heap.size) rfl (HP8.out.below hw' HP8.out.lt) Try.underlying26 rfl (info_44 HBl.out)⟩) ?_
  refine takeH hS (i := 4) (d := 50) (v := .agg (enA e)) rfl rfl (by kernel_rfl) (by kernel_rfl) (by kernel_rfl) (fun _ _ _ h => h) (Or.inl ⟨by kernel_rfl, fun w' hw' => by exact exec_load _ rfl (w.heap.size) rfl (HX8.out.below hw' HX8.out.lt) Try.underlying25 rfl (info_enA HL.out)⟩) ?_
  go_frame
  refine nextH (i := 5) rfl (by kernel_rfl) (by kernel_rfl) (fun K' hK => ?_)
  go_wp2_with fail
  refine (of_any e _ HL.out).mono ?_
  rintro en w9a ⟨rfl, hb⟩
  have hS1 : Below w8.heap.size w8 w9a := bel_next hS hb
  refine hK.out _ _ ⟨hS1, ?_⟩
  clear hK K' hb hS
  refine nextH (i := 6) rfl (by kernel_rfl) (by kernel_rfl) (fun K' hK => ?_)
  go_wp2_with fail
  refine (rbody4_any e _ HL.out Hb.out Hr.out).mono ?_
  rintro en w9 ⟨rfl, hb⟩
  rw [HBe.out]
  have hS2 : Below w8.heap.size w8 w9 := bel_next hS1 hb
  refine hK.out _ _ ⟨hS2, ?_⟩
  clear hK K' hb hS1
  refine takeH hS2 (i := 7) (d := 53) (v := .bool false) rfl rfl (by kernel_rfl) (by kernel_rfl) (by kernel_rfl) (fun _ _ _ h => h) (Or.inl ⟨by kernel_rfl, fun w' hw' => by exact exec_neq_sector ty44 _ _ _ rfl B B rfl rfl HBl.out HBl.out false (by simp)⟩) ?_
  go_frame
  refine takeH hS2 (i := 8) (d := 54) (v := .bool false) rfl rfl (by kernel_rfl) (by kernel_rfl) (by kernel_rfl) (fun _ _ _ h => h) (Or.inl ⟨by kernel_rfl, fun w' hw' => by kernel_rfl⟩) ?_
  refine takeH hS2 (i := 9) (d := 55) (v := .bool false) rfl rfl (by kernel_rfl) (by kernel_rfl) (by kernel_rfl) (fun _ _ _ h => h) (Or.inl ⟨by kernel_rfl, fun w' hw' => by kernel_rfl⟩) ?_
  go_frame
  refine takeH hS2 (i := 10) (d := 56) (v := .agg (enA e)) rfl rfl (by kernel_rfl) (by kernel_rfl) (by kernel_rfl) (fun _ _ _ h => h) (Or.inl ⟨by kernel_rfl, fun w' hw' => by exact exec_load _ rfl (w7.heap.size) rfl (HQ8.out.below hw' HQ8.out.lt) Try.underlying25 rfl (info_enA HL.out)⟩) ?_
  refine takeH hS2 (i := 11) (d := 57) (v := .agg (enA e)) rfl rfl (by kernel_rfl) (by kernel_rfl) (by kernel_rfl) (fun _ _ _ h => h) (Or.inl ⟨by kernel_rfl, fun w' hw' => by exact exec_load _ rfl (w.heap.size) rfl (HX8.out.below hw' HX8.out.lt) Try.underlying25 rfl (info_enA HL.out)⟩) ?_
  refine takeH hS2 (i := 12) (d := 58) (v := .bool false) rfl rfl (by kernel_rfl) (by kernel_rfl) (by kernel_rfl) (fun _ _ _ h => h) (Or.inl ⟨by kernel_rfl, fun w' hw' => by exact exec_neq_entry tyEn _ _ _ rfl e e rfl rfl HL.out HL.out false (by simp)⟩) ?_
  go_frame
  refine takeH hS2 (i := 13) (d := 59) (v := .bool false) rfl rfl (by kernel_rfl) (by kernel_rfl) (by kernel_rfl) (fun _ _ _ h => h) (Or.inl ⟨by kernel_rfl, fun w' hw' => by kernel_rfl⟩) ?_
  refine takeH hS2 (i := 14) (d := 60) (v := .bool false) rfl rfl (by kernel_rfl) (by kernel_rfl) (by kernel_rfl) (fun _ _ _ h => h) (Or.inl ⟨by kernel_rfl, fun w' hw' => by kernel_rfl⟩) ?_
  go_frame
  refine takeH hS2 (i := 15) (d := 61) (v := .int .i64 0) rfl rfl (by kernel_rfl) (by kernel_rfl) (by kernel_rfl) (fun _ _ _ h => h) (Or.inl ⟨by kernel_rfl, fun w' hw' => by kernel_rfl⟩) ?_
  refine takeH hS2 (i := 16) (d := 62) (v := .bool false) rfl rfl (by kernel_rfl) (by kernel_rfl) (by kernel_rfl) (fun _ _ _ h => h) (Or.inl ⟨by kernel_rfl, fun w' hw' => by kernel_rfl⟩) ?_
  refine takeH hS2 (i := 17) (d := 63) (v := .bool false) rfl rfl (by kernel_rfl) (by kernel_rfl) (by kernel_rfl) (fun _ _ _ h => h) (Or.inl ⟨by kernel_rfl, fun w' hw' => by kernel_rfl⟩) ?_
  refine wpAnyH_done (by kernel_rfl) ?_ _
  go_frame
  have HX9 := Lib.hid (HX8.out.below hS2 HX8.out.lt)
  have HY9 := Lib.hid (HY8.out.below hS2 HY8.out.lt)
  have HP9 := Lib.hid (HP8.out.below hS2 HP8.out.lt)
  have HB9 := Lib.hid (bthen HB8.out hS2)
  clear hS2 HB8 HX8 HY8 HP8
  go_upto_region 12 with fail
  go_upto_region 13 with (first | (refine wpl_load rfl _ rfl (w.heap.size + 1) rfl _ _ _ HY9.out Try.underlying26 rfl (info_44 HL2.out) ?_; go_frame))
  refine (eof_any k bs _ HL2.out Hb2.out).mono ?_
  rintro en w20 ⟨rfl, hb20⟩
  rw [Hv.out, He.out]
  have HY20 := Lib.hid (HY9.out.below hb20 HY9.out.lt)
  have HB20 := Lib.hid (bthen HB9.out hb20)
  clear hb20 HB9 HY9
  have HR21 : Hid (Blk (w20.alloc (Obj.cells (enA (D)) 25)) w20.heap.size 25 (enA (D))) := Lib.hid (Blk.new _ _ _)
  have HY21 := Lib.hid (HY20.out.alloc (Obj.cells (enA (D)) 25))
  have HB21 := Lib.hid (bthen HB20.out (below_alloc w20 (Obj.cells (enA (D)) 25)))
  clear HB20 HY20
  go_upto_region 13 with (first | (refine wpl_store_new rfl _ _ rfl (enA (D)) w20 25 (enA en0) rfl rfl rfl (info_enA HDl.out) ((enA_size en0_len).trans (enA_size HDl.out).symm) enA_one ?_; go_frame))
  generalize w20.alloc (Obj.cells (enA (D)) 25) = w21 at *
  go_upto_region 14 with (first | (refine wpl_load rfl _ rfl (w.heap.size + 1) rfl _ _ _ HY21.out Try.underlying26 rfl (info_44 HL2.out) ?_; go_frame))
  refine (rof4_any k bs _ HL2.out Hb2.out).mono ?_
  rintro en w22 ⟨rfl, hb22⟩
  rw [Hd.out, Ho.out]
  have HY22 := Lib.hid (HY21.out.below hb22 HY21.out.lt)
  have HR22 := Lib.hid (HR21.out.below hb22 HR21.out.lt)
  have HB22 := Lib.hid (bthen HB21.out hb22)
  clear hb22 HB21 HY21 HR21
  have HT23 : Hid (Blk (w22.alloc (Obj.cells (enA (D)) 32)) w22.heap.size 32 (enA (D))) := Lib.hid (Blk.new _ _ _)
  have HY23 := Lib.hid (HY22.out.alloc (Obj.cells (enA (D)) 32))
  have HR23 := Lib.hid (HR22.out.alloc (Obj.cells (enA (D)) 32))
  have HB23 := Lib.hid (bthen HB22.out (below_alloc w22 (Obj.cells (enA (D)) 32)))
  clear HB22 HY22 HR22
  go_upto_region 14 with (first | (refine wpl_store_new rfl _ _ rfl (enA (D)) w22 32 (enA en0) rfl rfl rfl (info_e4A HDl.out) ((enA_size en0_len).trans (enA_size HDl.out).symm) enA_one ?_; go_frame))
  generalize w22.alloc (Obj.cells (enA (D)) 32) = w23 at *
  go_upto_region 16 with fail
  refine wp_region_held (S := fun w' => Below w23.heap.size w23 w') (by kernel_rfl) ?_
  change wpAnyH _ _ _ _ _ _ _ _ (World.drew _)
  have hS : Below w23.heap.size w23 w23.drew := (Below.refl _ _).drew
  refine takeH hS (i := 0) (d := 85) (v := .int .i64 0) rfl rfl (by kernel_rfl) (by kernel_rfl) (by kernel_rfl) (fun _ _ _ h => h) (Or.inl ⟨by kernel_rfl, fun w' hw' => by kernel_rfl⟩) ?_
  refine takeH hS (i := 1) (d := 86) (v := .bool true) rfl rfl (by kernel_rfl) (by kernel_rfl) (by kernel_rfl) (fun _ _ _ h => h) (Or.inl ⟨by kernel_rfl, fun w' hw' => by kernel_rfl⟩) ?_
  refine takeH hS (i := 2) (d := 87) (v := .bool true) rfl rfl (by kernel_rfl) (by kernel_rfl) (by kernel_rfl) (fun _ _ _ h => h) (Or.inl ⟨by kernel_rfl, fun w' hw' => by kernel_rfl⟩) ?_
  go_frame
  refine takeH hS (i := 3) (d := 88) (v := .agg (enA D)) rfl rfl (by kernel_rfl) (by kernel_rfl) (by kernel_rfl) (fun _ _ _ h => h) (Or.inl ⟨by kernel_rfl, fun w' hw' => by exact exec_load _ rfl (w20.heap.size) rfl (HR23.out.below hw' HR23.out.lt) Try.underlying25 rfl (info_enA HDl.out)⟩) ?_
  refine takeH hS (i := 5) (d := 90) (v := .agg (enA D)) rfl rfl (by kernel_rfl) (by kernel_rfl) (by kernel_rfl) (fun _ _ _ h => h) (Or.inl ⟨by kernel_rfl, fun w' hw' => by exact exec_load _ rfl (w22.heap.size) rfl (HT23.out.below hw' HT23.out.lt) Try.underlying32 rfl (info_e4A HDl.out)⟩) ?_
  go_frame
  refine nextH (i := 4) rfl (by kernel_rfl) (by kernel_rfl) (fun K' hK => ?_)
  go_wp2_with fail
  refine (of_any D _ HDl.out).mono ?_
  rintro en w24 ⟨rfl, hb⟩
  have hS1 : Below w23.heap.size w23 w24 := bel_next hS hb
  refine hK.out _ _ ⟨hS1, ?_⟩
  clear hK K' hb hS
  refine takeH hS1 (i := 6) (d := 91) (v := .bool true) rfl rfl (by kernel_rfl) (by kernel_rfl) (by kernel_rfl) (fun _ _ _ h => h) (Or.inl ⟨by kernel_rfl, fun w' hw' => by exact exec_eql_entry tyE4 _ _ _ rfl D D rfl rfl HDl.out HDl.out true (decide_eq_true rfl)⟩) ?_
  go_frame
  refine takeH hS1 (i := 7) (d := 92) (v := .bool true) rfl rfl (by kernel_rfl) (by kernel_rfl) (by kernel_rfl) (fun _ _ _ h => h) (Or.inl ⟨by kernel_rfl, fun w' hw' => by kernel_rfl⟩) ?_
  refine takeH hS1 (i := 8) (d := 93) (v := .bool true) rfl rfl (by kernel_rfl) (by kernel_rfl) (by kernel_rfl) (fun _ _ _ h => h) (Or.inl ⟨by kernel_rfl, fun w' hw' => by kernel_rfl⟩) ?_
  go_frame
  refine takeH hS1 (i := 9) (d := 94) (v := .agg (enA D)) rfl rfl (by kernel_rfl) (by kernel_rfl) (by kernel_rfl) (fun _ _ _ h => h) (Or.inl ⟨by kernel_rfl, fun w' hw' => by exact exec_load _ rfl (w22.heap.size) rfl (HT23.out.below hw' HT23.out.lt) Try.underlying32 rfl (info_e4A HDl.out)⟩) ?_
  refine takeH hS1 (i := 11) (d := 96) (v := .agg (bA bs)) rfl rfl (by kernel_rfl) (by kernel_rfl) (by kernel_rfl) (fun _ _ _ h => h) (Or.inl ⟨by kernel_rfl, fun w' hw' => by exact exec_load _ rfl (w.heap.size + 1) rfl (HY23.out.below hw' HY23.out.lt) Try.underlying26 rfl (info_44 HL2.out)⟩) ?_
  go_frame
  refine nextH (i := 10) rfl (by kernel_rfl) (by kernel_rfl) (fun K' hK => ?_)
  go_wp2_with fail
  refine (rbody4_any D _ HDl.out HDb.out HDr.out).mono ?_
  rintro en w25 ⟨rfl, hb⟩
  rw [HDe.out]
  have hS2 : Below w23.heap.size w23 w25 := bel_next hS1 hb
  refine hK.out _ _ ⟨hS2, ?_⟩
  clear hK K' hb hS1
  refine takeH hS2 (i := 12) (d := 97) (v := .bool true) rfl rfl (by kernel_rfl) (by kernel_rfl) (by kernel_rfl) (fun _ _ _ h => h) (Or.inl ⟨by kernel_rfl, fun w' hw' => by exact exec_eql_sector ty44 _ _ _ rfl bs bs rfl rfl HL2.out HL2.out true (decide_eq_true rfl)⟩) ?_
  go_frame
  refine takeH hS2 (i := 13) (d := 98) (v := .bool true) rfl rfl (by kernel_rfl) (by kernel_rfl) (by kernel_rfl) (fun _ _ _ h => h) (Or.inl ⟨by kernel_rfl, fun w' hw' => by kernel_rfl⟩) ?_
  refine takeH hS2 (i := 14) (d := 6) (v := .bool true) rfl rfl (by kernel_rfl) (by kernel_rfl) (by kernel_rfl) (fun _ _ _ h => h) (Or.inl ⟨by kernel_rfl, fun w' hw' => by kernel_rfl⟩) ?_
  refine wpAnyH_done (by kernel_rfl) ?_ _
  go_frame
  go_wp2_with fail
  go_ret
  exact ⟨rfl, bthen HB23.out hS2⟩

theorem walkEntryBodies (e : EnR) (k : Int) (bs : List Nat) (w : World) (he : EnOk e) (h0 : (Lit.int .i64 k).wf = true) (hl : bs.length = 44) (hb : ∀ c ∈ bs, c < 256) :
    Calls Try.prog 3 #[.agg (enA e), .int .i64 k, .agg (bA bs)] w fun en w' => en = .returned (.bool true) ∧ Below w.heap.size w w' := by
  cases hr : rB e with
  | false =>
    cases ho : rofB k bs with
    | false => exact walkBodies_ff e k bs w he.len he.lt hl hb hr ho
    | true => exact walkBodies_ft e k bs w he.len he.lt hl hb hr ho
  | true =>
    cases ho : rofB k bs with
    | false => exact walkBodies_tf e k bs w he.len he.lt hl hb hr ho
    | true => exact walkBodies_tt e k bs w he.len he.lt hl hb hr ho

end Go.Proofs.Ytdjnfikacjfkkaa
