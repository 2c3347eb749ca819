/-
  Layer 3 (frame), fifth part: Decode.
-/
import Derived.Test.YtlkghdgomfcfkaaFrameE
namespace Go.Proofs.Ytlkghdgomfcfkaa
open Go.RowKit CrcM
set_option linter.unusedVariables false
set_option linter.unnecessarySimpa false
set_option linter.unusedSimpArgs false

/-- What Decode tells: a frame and an error. -/
def DecPost (f : FrR) (x : Int) (w : World) (e : Ending) (w' : World) : Prop := e = .returned (.tuple #[.agg (frA f), .int .i64 x]) ∧ Below w.heap.size w w'

set_option maxRecDepth 100000 in
set_option maxHeartbeats 1000000 in
theorem decode_sum (bs : List Nat) (w : World) (hl : bs.length = 64) (hb : ∀ c ∈ bs, c < 256) (hs : sm (bs.take 60) ≠ num (bs.drop 60)) :
    Calls Try.prog 14 #[.agg tbl, .agg (bA bs)] w (DecPost fr0 11 w) := by
  have HL := Lib.hid hl
  have Hb := Lib.hid hb
  have hz := zero_fr
  have hT : Blk (((w.alloc (Obj.cells tbl 28)).alloc (Obj.cells (bA bs) 32)).alloc (Obj.cells (frA fr0) 24)) w.heap.size 28 tbl := Blk.alloc (Blk.alloc (Blk.new w 28 tbl) _) _
  have hX : Blk (((w.alloc (Obj.cells tbl 28)).alloc (Obj.cells (bA bs) 32)).alloc (Obj.cells (frA fr0) 24)) (w.heap.size + 1) 32 (bA bs) := by
    have h := Blk.alloc (Blk.new (w.alloc (Obj.cells tbl 28)) 32 (bA bs)) (Obj.cells (frA fr0) 24)
    rwa [show (w.alloc (Obj.cells tbl 28)).heap.size = w.heap.size + 1 by simp] at h
  have hO : Blk (((w.alloc (Obj.cells tbl 28)).alloc (Obj.cells (bA bs) 32)).alloc (Obj.cells (frA fr0) 24)) (w.heap.size + 2) 24 (frA fr0) := by
    have h := Blk.new ((w.alloc (Obj.cells tbl 28)).alloc (Obj.cells (bA bs) 32)) 24 (frA fr0)
    rwa [show ((w.alloc (Obj.cells tbl 28)).alloc (Obj.cells (bA bs) 32)).heap.size = w.heap.size + 2 by simp] at h
  have hB : Below w.heap.size w (((w.alloc (Obj.cells tbl 28)).alloc (Obj.cells (bA bs) 32)).alloc (Obj.cells (frA fr0) 24)) := bthen (below_alloc _ _) (bthen (below_alloc _ _) (below_alloc _ _))
  have HT0 : Hid (Blk (((w.alloc (Obj.cells tbl 28)).alloc (Obj.cells (bA bs) 32)).alloc (Obj.cells (frA fr0) 24)).drew w.heap.size 28 tbl) := Lib.hid hT
  have HX0 : Hid (RowB (((w.alloc (Obj.cells tbl 28)).alloc (Obj.cells (bA bs) 32)).alloc (Obj.cells (frA fr0) 24)).drew (some ⟨w.heap.size + 1, 0, none⟩) 64 64 bs) := Lib.hid (row_of_blk (w := (((w.alloc (Obj.cells tbl 28)).alloc (Obj.cells (bA bs) 32)).alloc (Obj.cells (frA fr0) 24)).drew) hX hb 64 hl (by decide))
  have HO0 : Hid (Blk (((w.alloc (Obj.cells tbl 28)).alloc (Obj.cells (bA bs) 32)).alloc (Obj.cells (frA fr0) 24)).drew (w.heap.size + 2) 24 (frA fr0)) := Lib.hid hO
  have HB0 : Hid (Below w.heap.size w (((w.alloc (Obj.cells tbl 28)).alloc (Obj.cells (bA bs) 32)).alloc (Obj.cells (frA fr0) 24)).drew) := Lib.hid hB.drew
  have HSm := Lib.hid hs
  clear hs
  clear hl hb hT hX hO hB
  go_enter Try.func14, Try.ntmps14
  go_wp2_with fail
  clear hz
  refine wp_region_any (by kernel_rfl) ?_
  change wpAny _ _ _ _ _ _ _ (World.drew _)
  generalize (((w.alloc (Obj.cells tbl 28)).alloc (Obj.cells (bA bs) 32)).alloc (Obj.cells (frA fr0) 24)).drew = v0 at *
  refine take_one (i := 1) (d := 12) (v := .slice (some ⟨w.heap.size + 1, 0, none⟩) 64 64) rfl (by kernel_rfl) (by kernel_rfl) (by kernel_rfl) (by kernel_rfl) (fun _ _ _ h => h) (Or.inl ⟨by kernel_rfl, fun w => by (first | kernel_rfl | go_simp)⟩) ?_
  go_frame
  refine next_one (i := 0) rfl (by kernel_rfl) (by kernel_rfl) (fun K' hK => ?_)
  refine wp_load_row 28 _ rfl w.heap.size rfl _ _ (0, 0) _ HT0.out Try.underlying28 rfl info_tbl ?_
  refine hK _ _ ?_
  clear hK K'
  go_frame
  refine next_one (i := 2) rfl (by kernel_rfl) (by kernel_rfl) (fun K' hK => ?_)
  go_wp2_with fail
  refine (open_bad _ _ _ bs _ HX0.out (by decide) HSm.out).mono ?_
  rintro e w1 ⟨rfl, hb1⟩
  have HB1 := Lib.hid (bthen HB0.out hb1)
  have HO1 := Lib.hid (HO0.out.below hb1 HO0.out.lt)
  clear hb1 HT0 HX0 HO0 HB0
  refine hK _ _ ?_
  clear hK K'
  refine take_one (i := 3) (d := 10) (v := .tuple #[.slice none 0 0, .int .i64 11]) rfl (by kernel_rfl) (by kernel_rfl) (by kernel_rfl) (by kernel_rfl) (fun _ _ _ h => h) (Or.inl ⟨by kernel_rfl, fun w => by kernel_rfl⟩) ?_
  refine take_one (i := 4) (d := 14) (v := .slice none 0 0) rfl (by kernel_rfl) (by kernel_rfl) (by kernel_rfl) (by kernel_rfl) (fun _ _ _ h => h) (Or.inl ⟨by kernel_rfl, fun w => by kernel_rfl⟩) ?_
  refine take_one (i := 5) (d := 15) (v := .int .i64 11) rfl (by kernel_rfl) (by kernel_rfl) (by kernel_rfl) (by kernel_rfl) (fun _ _ _ h => h) (Or.inl ⟨by kernel_rfl, fun w => by kernel_rfl⟩) ?_
  refine take_one (i := 6) (d := 6) (v := .slice none 0 0) rfl (by kernel_rfl) (by kernel_rfl) (by kernel_rfl) (by kernel_rfl) (fun _ _ _ h => h) (Or.inl ⟨by kernel_rfl, fun w => by kernel_rfl⟩) ?_
  refine take_one (i := 7) (d := 7) (v := .int .i64 11) rfl (by kernel_rfl) (by kernel_rfl) (by kernel_rfl) (by kernel_rfl) (fun _ _ _ h => h) (Or.inl ⟨by kernel_rfl, fun w => by kernel_rfl⟩) ?_
  refine wpAny_done (by kernel_rfl) ?_ _
  go_frame
  go_wp2_with (first | (refine wpl_build (by kernel_rfl) 24 _ rfl (.agg (frA fr0)) (fun _ => by kernel_rfl) ?_; go_frame) | (refine wpl_store rfl _ _ rfl (w.heap.size + 2) (frA (fr0)) rfl rfl _ _ HO1.out (info_frA fr0_len) ((frA_size fr0_len).trans (frA_size fr0_len).symm) frA_one ?_; intro w2 hS2 hK2; have HS2 := Lib.hid hS2; have HK2 := Lib.hid hK2; clear hS2 hK2; go_frame))
  refine bodyPost_ret (v := .tuple #[.agg (frA (fr0)), .int .i64 11]) (results_cell_slot Try.results14 _ _ (w.heap.size + 2) _ _ _ _ rfl rfl HS2.out Try.underlying24 rfl (info_frA fr0_len)) rfl ⟨rfl, ?_⟩
  exact bkept HB1.out (Nat.le_refl _) HK2.out (fun i hi h => by omega)

set_option maxRecDepth 100000 in
set_option maxHeartbeats 1000000 in
theorem decode_ver (bs : List Nat) (w : World) (hl : bs.length = 64) (hb : ∀ c ∈ bs, c < 256) (hs : sm (bs.take 60) = num (bs.drop 60)) (hv : ver (bs.take 60) ≠ 1) :
    Calls Try.prog 14 #[.agg tbl, .agg (bA bs)] w (DecPost fr0 10 w) := by
  have HL := Lib.hid hl
  have Hb := Lib.hid hb
  have hz := zero_fr
  have hT : Blk (((w.alloc (Obj.cells tbl 28)).alloc (Obj.cells (bA bs) 32)).alloc (Obj.cells (frA fr0) 24)) w.heap.size 28 tbl := Blk.alloc (Blk.alloc (Blk.new w 28 tbl) _) _
  have hX : Blk (((w.alloc (Obj.cells tbl 28)).alloc (Obj.cells (bA bs) 32)).alloc (Obj.cells (frA fr0) 24)) (w.heap.size + 1) 32 (bA bs) := by
    have h := Blk.alloc (Blk.new (w.alloc (Obj.cells tbl 28)) 32 (bA bs)) (Obj.cells (frA fr0) 24)
    rwa [show (w.alloc (Obj.cells tbl 28)).heap.size = w.heap.size + 1 by simp] at h
  have hO : Blk (((w.alloc (Obj.cells tbl 28)).alloc (Obj.cells (bA bs) 32)).alloc (Obj.cells (frA fr0) 24)) (w.heap.size + 2) 24 (frA fr0) := by
    have h := Blk.new ((w.alloc (Obj.cells tbl 28)).alloc (Obj.cells (bA bs) 32)) 24 (frA fr0)
    rwa [show ((w.alloc (Obj.cells tbl 28)).alloc (Obj.cells (bA bs) 32)).heap.size = w.heap.size + 2 by simp] at h
  have hB : Below w.heap.size w (((w.alloc (Obj.cells tbl 28)).alloc (Obj.cells (bA bs) 32)).alloc (Obj.cells (frA fr0) 24)) := bthen (below_alloc _ _) (bthen (below_alloc _ _) (below_alloc _ _))
  have HT0 : Hid (Blk (((w.alloc (Obj.cells tbl 28)).alloc (Obj.cells (bA bs) 32)).alloc (Obj.cells (frA fr0) 24)).drew w.heap.size 28 tbl) := Lib.hid hT
  have HX0 : Hid (RowB (((w.alloc (Obj.cells tbl 28)).alloc (Obj.cells (bA bs) 32)).alloc (Obj.cells (frA fr0) 24)).drew (some ⟨w.heap.size + 1, 0, none⟩) 64 64 bs) := Lib.hid (row_of_blk (w := (((w.alloc (Obj.cells tbl 28)).alloc (Obj.cells (bA bs) 32)).alloc (Obj.cells (frA fr0) 24)).drew) hX hb 64 hl (by decide))
  have HO0 : Hid (Blk (((w.alloc (Obj.cells tbl 28)).alloc (Obj.cells (bA bs) 32)).alloc (Obj.cells (frA fr0) 24)).drew (w.heap.size + 2) 24 (frA fr0)) := Lib.hid hO
  have HB0 : Hid (Below w.heap.size w (((w.alloc (Obj.cells tbl 28)).alloc (Obj.cells (bA bs) 32)).alloc (Obj.cells (frA fr0) 24)).drew) := Lib.hid hB.drew
  have HSm := Lib.hid hs
  have hv1 : ((ver (bs.take 60) : Int) != 1) = true := by rw [bne_iff_ne]; omega
  clear hv
  clear hs
  clear hl hb hT hX hO hB
  go_enter Try.func14, Try.ntmps14
  go_wp2_with fail
  clear hz
  refine wp_region_any (by kernel_rfl) ?_
  change wpAny _ _ _ _ _ _ _ (World.drew _)
  generalize (((w.alloc (Obj.cells tbl 28)).alloc (Obj.cells (bA bs) 32)).alloc (Obj.cells (frA fr0) 24)).drew = v0 at *
  refine take_one (i := 1) (d := 12) (v := .slice (some ⟨w.heap.size + 1, 0, none⟩) 64 64) rfl (by kernel_rfl) (by kernel_rfl) (by kernel_rfl) (by kernel_rfl) (fun _ _ _ h => h) (Or.inl ⟨by kernel_rfl, fun w => by (first | kernel_rfl | go_simp)⟩) ?_
  go_frame
  refine next_one (i := 0) rfl (by kernel_rfl) (by kernel_rfl) (fun K' hK => ?_)
  refine wp_load_row 28 _ rfl w.heap.size rfl _ _ (0, 0) _ HT0.out Try.underlying28 rfl info_tbl ?_
  refine hK _ _ ?_
  clear hK K'
  go_frame
  refine next_one (i := 2) rfl (by kernel_rfl) (by kernel_rfl) (fun K' hK => ?_)
  go_wp2_with fail
  refine (open_ok _ _ _ bs _ HX0.out (by decide) HSm.out (by decide)).mono ?_
  rintro e w1 ⟨gx, rfl, hgx, hX1, hb1⟩
  have HB1 := Lib.hid (bthen HB0.out hb1)
  have HO1 := Lib.hid (HO0.out.below hb1 HO0.out.lt)
  have HX1 : Hid (RowB w1 (some ⟨gx, 0, none⟩) 60 60 (bs.take 60)) := Lib.hid (row_of_blk hX1 (fun c hc => Hb.out c (List.mem_of_mem_take hc)) 60 (by rw [List.length_take, HL.out]; decide) (by decide))
  clear hb1 hgx hX1 HT0 HX0 HO0 HB0
  refine hK _ _ ?_
  clear hK K'
  refine take_one (i := 3) (d := 10) (v := .tuple #[.slice (some ⟨gx, 0, none⟩) 60 60, .int .i64 0]) rfl (by kernel_rfl) (by kernel_rfl) (by kernel_rfl) (by kernel_rfl) (fun _ _ _ h => h) (Or.inl ⟨by kernel_rfl, fun w => by kernel_rfl⟩) ?_
  refine take_one (i := 4) (d := 14) (v := .slice (some ⟨gx, 0, none⟩) 60 60) rfl (by kernel_rfl) (by kernel_rfl) (by kernel_rfl) (by kernel_rfl) (fun _ _ _ h => h) (Or.inl ⟨by kernel_rfl, fun w => by kernel_rfl⟩) ?_
  refine take_one (i := 5) (d := 15) (v := .int .i64 0) rfl (by kernel_rfl) (by kernel_rfl) (by kernel_rfl) (by kernel_rfl) (fun _ _ _ h => h) (Or.inl ⟨by kernel_rfl, fun w => by kernel_rfl⟩) ?_
  refine take_one (i := 6) (d := 6) (v := .slice (some ⟨gx, 0, none⟩) 60 60) rfl (by kernel_rfl) (by kernel_rfl) (by kernel_rfl) (by kernel_rfl) (fun _ _ _ h => h) (Or.inl ⟨by kernel_rfl, fun w => by kernel_rfl⟩) ?_
  refine take_one (i := 7) (d := 7) (v := .int .i64 0) rfl (by kernel_rfl) (by kernel_rfl) (by kernel_rfl) (by kernel_rfl) (fun _ _ _ h => h) (Or.inl ⟨by kernel_rfl, fun w => by kernel_rfl⟩) ?_
  refine wpAny_done (by kernel_rfl) ?_ _
  go_frame
  go_wp2_with fail
  refine (read_any _ _ (bs.take 60) _ HX1.out).mono ?_
  rintro e w2 ⟨rfl, hb2⟩
  have hz := zero_fr
  have HLr : Hid ((rd (bs.take 60)).b.length = 44) := Lib.hid (rd_len (by rw [List.length_take, HL.out]; decide))
  have HB2 := Lib.hid (bthen HB1.out hb2)
  have HO2 := Lib.hid (HO1.out.below hb2 HO1.out.lt)
  have HN : Hid (Blk (w2.alloc (Obj.cells (frA fr0) 24)) w2.heap.size 24 (frA fr0)) := Lib.hid (Blk.new _ _ _)
  have HB3 : Hid (Below w.heap.size w (w2.alloc (Obj.cells (frA fr0) 24))) := Lib.hid (bthen HB2.out (below_alloc _ _))
  have HO3 : Hid (Blk (w2.alloc (Obj.cells (frA fr0) 24)) (w.heap.size + 2) 24 (frA fr0)) := Lib.hid (HO2.out.alloc _)
  have HLt : Hid (w.heap.size + 2 < w2.heap.size) := Lib.hid HO2.out.lt
  clear hb2 HB1 HO1 HX1 HB2 HO2
  generalize ver (bs.take 60) = x at *
  generalize rd (bs.take 60) = f at *
  go_wp2_with (first | (refine wpl_build (by kernel_rfl) 24 _ rfl (.agg (frA fr0)) (fun _ => by kernel_rfl) ?_; go_frame) | (refine wpl_store rfl _ _ rfl (w2.heap.size) (frA f) rfl rfl _ _ HN.out (info_frA HLr.out) ((frA_size fr0_len).trans (frA_size HLr.out).symm) frA_one ?_; intro w4 hS4 hK4; have HF4 := Lib.hid hS4; have HO4 := Lib.hid (HO3.out.kept hK4 (by have := HLt.out; omega)); have HB4 := Lib.hid (bkept HB3.out (Nat.le_refl _) hK4 (fun i hi h => by have := HLt.out; omega)); clear hS4 hK4 HN HO3 HB3 hz; go_frame) | (refine wpl_store rfl _ _ rfl (w.heap.size + 2) (frA (fr0)) rfl rfl _ _ HO4.out (info_frA fr0_len) ((frA_size fr0_len).trans (frA_size fr0_len).symm) frA_one ?_; intro w5 hS5 hK5; have HS5 := Lib.hid hS5; have HK5 := Lib.hid hK5; clear hS5 hK5; go_frame))
  refine bodyPost_ret (v := .tuple #[.agg (frA (fr0)), .int .i64 10]) (results_cell_slot Try.results14 _ _ (w.heap.size + 2) _ _ _ _ rfl rfl HS5.out Try.underlying24 rfl (info_frA fr0_len)) rfl ⟨rfl, ?_⟩
  exact bkept HB4.out (Nat.le_refl _) HK5.out (fun i hi h => by omega)

set_option maxRecDepth 100000 in
set_option maxHeartbeats 1000000 in
theorem decode_form (bs : List Nat) (w : World) (hl : bs.length = 64) (hb : ∀ c ∈ bs, c < 256) (hs : sm (bs.take 60) = num (bs.drop 60)) (hv : ver (bs.take 60) = 1) (hr : rightB (rd (bs.take 60)) = false) :
    Calls Try.prog 14 #[.agg tbl, .agg (bA bs)] w (DecPost fr0 10 w) := by
  have HL := Lib.hid hl
  have Hb := Lib.hid hb
  have hz := zero_fr
  have hT : Blk (((w.alloc (Obj.cells tbl 28)).alloc (Obj.cells (bA bs) 32)).alloc (Obj.cells (frA fr0) 24)) w.heap.size 28 tbl := Blk.alloc (Blk.alloc (Blk.new w 28 tbl) _) _
  have hX : Blk (((w.alloc (Obj.cells tbl 28)).alloc (Obj.cells (bA bs) 32)).alloc (Obj.cells (frA fr0) 24)) (w.heap.size + 1) 32 (bA bs) := by
    have h := Blk.alloc (Blk.new (w.alloc (Obj.cells tbl 28)) 32 (bA bs)) (Obj.cells (frA fr0) 24)
    rwa [show (w.alloc (Obj.cells tbl 28)).heap.size = w.heap.size + 1 by simp] at h
  have hO : Blk (((w.alloc (Obj.cells tbl 28)).alloc (Obj.cells (bA bs) 32)).alloc (Obj.cells (frA fr0) 24)) (w.heap.size + 2) 24 (frA fr0) := by
    have h := Blk.new ((w.alloc (Obj.cells tbl 28)).alloc (Obj.cells (bA bs) 32)) 24 (frA fr0)
    rwa [show ((w.alloc (Obj.cells tbl 28)).alloc (Obj.cells (bA bs) 32)).heap.size = w.heap.size + 2 by simp] at h
  have hB : Below w.heap.size w (((w.alloc (Obj.cells tbl 28)).alloc (Obj.cells (bA bs) 32)).alloc (Obj.cells (frA fr0) 24)) := bthen (below_alloc _ _) (bthen (below_alloc _ _) (below_alloc _ _))
  have HT0 : Hid (Blk (((w.alloc (Obj.cells tbl 28)).alloc (Obj.cells (bA bs) 32)).alloc (Obj.cells (frA fr0) 24)).drew w.heap.size 28 tbl) := Lib.hid hT
  have HX0 : Hid (RowB (((w.alloc (Obj.cells tbl 28)).alloc (Obj.cells (bA bs) 32)).alloc (Obj.cells (frA fr0) 24)).drew (some ⟨w.heap.size + 1, 0, none⟩) 64 64 bs) := Lib.hid (row_of_blk (w := (((w.alloc (Obj.cells tbl 28)).alloc (Obj.cells (bA bs) 32)).alloc (Obj.cells (frA fr0) 24)).drew) hX hb 64 hl (by decide))
  have HO0 : Hid (Blk (((w.alloc (Obj.cells tbl 28)).alloc (Obj.cells (bA bs) 32)).alloc (Obj.cells (frA fr0) 24)).drew (w.heap.size + 2) 24 (frA fr0)) := Lib.hid hO
  have HB0 : Hid (Below w.heap.size w (((w.alloc (Obj.cells tbl 28)).alloc (Obj.cells (bA bs) 32)).alloc (Obj.cells (frA fr0) 24)).drew) := Lib.hid hB.drew
  have HSm := Lib.hid hs
  have Hv := Lib.hid hv
  have Hr := Lib.hid hr
  clear hv hr
  clear hs
  clear hl hb hT hX hO hB
  go_enter Try.func14, Try.ntmps14
  go_wp2_with fail
  clear hz
  refine wp_region_any (by kernel_rfl) ?_
  change wpAny _ _ _ _ _ _ _ (World.drew _)
  generalize (((w.alloc (Obj.cells tbl 28)).alloc (Obj.cells (bA bs) 32)).alloc (Obj.cells (frA fr0) 24)).drew = v0 at *
  refine take_one (i := 1) (d := 12) (v := .slice (some ⟨w.heap.size + 1, 0, none⟩) 64 64) rfl (by kernel_rfl) (by kernel_rfl) (by kernel_rfl) (by kernel_rfl) (fun _ _ _ h => h) (Or.inl ⟨by kernel_rfl, fun w => by (first | kernel_rfl | go_simp)⟩) ?_
  go_frame
  refine next_one (i := 0) rfl (by kernel_rfl) (by kernel_rfl) (fun K' hK => ?_)
  refine wp_load_row 28 _ rfl w.heap.size rfl _ _ (0, 0) _ HT0.out Try.underlying28 rfl info_tbl ?_
  refine hK _ _ ?_
  clear hK K'
  go_frame
  refine next_one (i := 2) rfl (by kernel_rfl) (by kernel_rfl) (fun K' hK => ?_)
  go_wp2_with fail
  refine (open_ok _ _ _ bs _ HX0.out (by decide) HSm.out (by decide)).mono ?_
  rintro e w1 ⟨gx, rfl, hgx, hX1, hb1⟩
  have HB1 := Lib.hid (bthen HB0.out hb1)
  have HO1 := Lib.hid (HO0.out.below hb1 HO0.out.lt)
  have HX1 : Hid (RowB w1 (some ⟨gx, 0, none⟩) 60 60 (bs.take 60)) := Lib.hid (row_of_blk hX1 (fun c hc => Hb.out c (List.mem_of_mem_take hc)) 60 (by rw [List.length_take, HL.out]; decide) (by decide))
  clear hb1 hgx hX1 HT0 HX0 HO0 HB0
  refine hK _ _ ?_
  clear hK K'
  refine take_one (i := 3) (d := 10) (v := .tuple #[.slice (some ⟨gx, 0, none⟩) 60 60, .int .i64 0]) rfl (by kernel_rfl) (by kernel_rfl) (by kernel_rfl) (by kernel_rfl) (fun _ _ _ h => h) (Or.inl ⟨by kernel_rfl, fun w => by kernel_rfl⟩) ?_
  refine take_one (i := 4) (d := 14) (v := .slice (some ⟨gx, 0, none⟩) 60 60) rfl (by kernel_rfl) (by kernel_rfl) (by kernel_rfl) (by kernel_rfl) (fun _ _ _ h => h) (Or.inl ⟨by kernel_rfl, fun w => by kernel_rfl⟩) ?_
  refine take_one (i := 5) (d := 15) (v := .int .i64 0) rfl (by kernel_rfl) (by kernel_rfl) (by kernel_rfl) (by kernel_rfl) (fun _ _ _ h => h) (Or.inl ⟨by kernel_rfl, fun w => by kernel_rfl⟩) ?_
  refine take_one (i := 6) (d := 6) (v := .slice (some ⟨gx, 0, none⟩) 60 60) rfl (by kernel_rfl) (by kernel_rfl) (by kernel_rfl) (by kernel_rfl) (fun _ _ _ h => h) (Or.inl ⟨by kernel_rfl, fun w => by kernel_rfl⟩) ?_
  refine take_one (i := 7) (d := 7) (v := .int .i64 0) rfl (by kernel_rfl) (by kernel_rfl) (by kernel_rfl) (by kernel_rfl) (fun _ _ _ h => h) (Or.inl ⟨by kernel_rfl, fun w => by kernel_rfl⟩) ?_
  refine wpAny_done (by kernel_rfl) ?_ _
  go_frame
  go_wp2_with fail
  refine (read_any _ _ (bs.take 60) _ HX1.out).mono ?_
  rintro e w2 ⟨rfl, hb2⟩
  have hz := zero_fr
  have HLr : Hid ((rd (bs.take 60)).b.length = 44) := Lib.hid (rd_len (by rw [List.length_take, HL.out]; decide))
  have HB2 := Lib.hid (bthen HB1.out hb2)
  have HO2 := Lib.hid (HO1.out.below hb2 HO1.out.lt)
  have HN : Hid (Blk (w2.alloc (Obj.cells (frA fr0) 24)) w2.heap.size 24 (frA fr0)) := Lib.hid (Blk.new _ _ _)
  have HB3 : Hid (Below w.heap.size w (w2.alloc (Obj.cells (frA fr0) 24))) := Lib.hid (bthen HB2.out (below_alloc _ _))
  have HO3 : Hid (Blk (w2.alloc (Obj.cells (frA fr0) 24)) (w.heap.size + 2) 24 (frA fr0)) := Lib.hid (HO2.out.alloc _)
  have HLt : Hid (w.heap.size + 2 < w2.heap.size) := Lib.hid HO2.out.lt
  clear hb2 HB1 HO1 HX1 HB2 HO2
  generalize ver (bs.take 60) = x at *
  generalize rd (bs.take 60) = f at *
  obtain rfl : x = 1 := Hv.out
  go_wp2_with (first | (refine wpl_store rfl _ _ rfl (w2.heap.size) (frA f) rfl rfl _ _ HN.out (info_frA HLr.out) ((frA_size fr0_len).trans (frA_size HLr.out).symm) frA_one ?_; intro w4 hS4 hK4; have HF4 := Lib.hid hS4; have HO4 := Lib.hid (HO3.out.kept hK4 (by have := HLt.out; omega)); have HB4 := Lib.hid (bkept HB3.out (Nat.le_refl _) hK4 (fun i hi h => by have := HLt.out; omega)); clear hS4 hK4 HN HO3 HB3 hz; go_frame) | (refine wpl_load_g (by kernel_rfl) _ rfl (w2.heap.size) rfl _ _ _ HF4.out Try.underlying24 rfl (info_frA HLr.out) ?_; go_frame))
  refine (right_any f _).mono ?_
  rintro e w5 ⟨rfl, hb5⟩
  rw [Hr.out]
  have HB5 := Lib.hid (bthen HB4.out hb5)
  have HO5 := Lib.hid (HO4.out.below hb5 HO4.out.lt)
  have HF5 := Lib.hid (HF4.out.below hb5 HF4.out.lt)
  clear hb5 HB4 HO4 HF4
  go_wp2_with (first | (refine wpl_build (by kernel_rfl) 24 _ rfl (.agg (frA fr0)) (fun _ => by kernel_rfl) ?_; go_frame) | (refine wpl_store rfl _ _ rfl (w.heap.size + 2) (frA (fr0)) rfl rfl _ _ HO5.out (info_frA fr0_len) ((frA_size fr0_len).trans (frA_size fr0_len).symm) frA_one ?_; intro w6 hS6 hK6; have HS6 := Lib.hid hS6; have HK6 := Lib.hid hK6; clear hS6 hK6; go_frame))
  refine bodyPost_ret (v := .tuple #[.agg (frA (fr0)), .int .i64 10]) (results_cell_slot Try.results14 _ _ (w.heap.size + 2) _ _ _ _ rfl rfl HS6.out Try.underlying24 rfl (info_frA fr0_len)) rfl ⟨rfl, ?_⟩
  exact bkept HB5.out (Nat.le_refl _) HK6.out (fun i hi h => by omega)

set_option maxRecDepth 100000 in
set_option maxHeartbeats 1000000 in
theorem decode_ok (bs : List Nat) (w : World) (hl : bs.length = 64) (hb : ∀ c ∈ bs, c < 256) (hs : sm (bs.take 60) = num (bs.drop 60)) (hv : ver (bs.take 60) = 1) (hr : rightB (rd (bs.take 60)) = true) :
    Calls Try.prog 14 #[.agg tbl, .agg (bA bs)] w (DecPost (rd (bs.take 60)) 0 w) := by
  have HL := Lib.hid hl
  have Hb := Lib.hid hb
  have hz := zero_fr
  have hT : Blk (((w.alloc (Obj.cells tbl 28)).alloc (Obj.cells (bA bs) 32)).alloc (Obj.cells (frA fr0) 24)) w.heap.size 28 tbl := Blk.alloc (Blk.alloc (Blk.new w 28 tbl) _) _
  have hX : Blk (((w.alloc (Obj.cells tbl 28)).alloc (Obj.cells (bA bs) 32)).alloc (Obj.cells (frA fr0) 24)) (w.heap.size + 1) 32 (bA bs) := by
    have h := Blk.alloc (Blk.new (w.alloc (Obj.cells tbl 28)) 32 (bA bs)) (Obj.cells (frA fr0) 24)
    rwa [show (w.alloc (Obj.cells tbl 28)).heap.size = w.heap.size + 1 by simp] at h
  have hO : Blk (((w.alloc (Obj.cells tbl 28)).alloc (Obj.cells (bA bs) 32)).alloc (Obj.cells (frA fr0) 24)) (w.heap.size + 2) 24 (frA fr0) := by
    have h := Blk.new ((w.alloc (Obj.cells tbl 28)).alloc (Obj.cells (bA bs) 32)) 24 (frA fr0)
    rwa [show ((w.alloc (Obj.cells tbl 28)).alloc (Obj.cells (bA bs) 32)).heap.size = w.heap.size + 2 by simp] at h
  have hB : Below w.heap.size w (((w.alloc (Obj.cells tbl 28)).alloc (Obj.cells (bA bs) 32)).alloc (Obj.cells (frA fr0) 24)) := bthen (below_alloc _ _) (bthen (below_alloc _ _) (below_alloc _ _))
  have HT0 : Hid (Blk (((w.alloc (Obj.cells tbl 28)).alloc (Obj.cells (bA bs) 32)).alloc (Obj.cells (frA fr0) 24)).drew w.heap.size 28 tbl) := Lib.hid hT
  have HX0 : Hid (RowB (((w.alloc (Obj.cells tbl 28)).alloc (Obj.cells (bA bs) 32)).alloc (Obj.cells (frA fr0) 24)).drew (some ⟨w.heap.size + 1, 0, none⟩) 64 64 bs) := Lib.hid (row_of_blk (w := (((w.alloc (Obj.cells tbl 28)).alloc (Obj.cells (bA bs) 32)).alloc (Obj.cells (frA fr0) 24)).drew) hX hb 64 hl (by decide))
  have HO0 : Hid (Blk (((w.alloc (Obj.cells tbl 28)).alloc (Obj.cells (bA bs) 32)).alloc (Obj.cells (frA fr0) 24)).drew (w.heap.size + 2) 24 (frA fr0)) := Lib.hid hO
  have HB0 : Hid (Below w.heap.size w (((w.alloc (Obj.cells tbl 28)).alloc (Obj.cells (bA bs) 32)).alloc (Obj.cells (frA fr0) 24)).drew) := Lib.hid hB.drew
  have HSm := Lib.hid hs
  have Hv := Lib.hid hv
  have Hr := Lib.hid hr
  clear hv hr
  clear hs
  clear hl hb hT hX hO hB
  go_enter Try.func14, Try.ntmps14
  go_wp2_with fail
  clear hz
  refine wp_region_any (by kernel_rfl) ?_
  change wpAny _ _ _ _ _ _ _ (World.drew _)
  generalize (((w.alloc (Obj.cells tbl 28)).alloc (Obj.cells (bA bs) 32)).alloc (Obj.cells (frA fr0) 24)).drew = v0 at *
  refine take_one (i := 1) (d := 12) (v := .slice (some ⟨w.heap.size + 1, 0, none⟩) 64 64) rfl (by kernel_rfl) (by kernel_rfl) (by kernel_rfl) (by kernel_rfl) (fun _ _ _ h => h) (Or.inl ⟨by kernel_rfl, fun w => by (first | kernel_rfl | go_simp)⟩) ?_
  go_frame
  refine next_one (i := 0) rfl (by kernel_rfl) (by kernel_rfl) (fun K' hK => ?_)
  refine wp_load_row 28 _ rfl w.heap.size rfl _ _ (0, 0) _ HT0.out Try.underlying28 rfl info_tbl ?_
  refine hK _ _ ?_
  clear hK K'
  go_frame
  refine next_one (i := 2) rfl (by kernel_rfl) (by kernel_rfl) (fun K' hK => ?_)
  go_wp2_with fail
  refine (open_ok _ _ _ bs _ HX0.out (by decide) HSm.out (by decide)).mono ?_
  rintro e w1 ⟨gx, rfl, hgx, hX1, hb1⟩
  have HB1 := Lib.hid (bthen HB0.out hb1)
  have HO1 := Lib.hid (HO0.out.below hb1 HO0.out.lt)
  have HX1 : Hid (RowB w1 (some ⟨gx, 0, none⟩) 60 60 (bs.take 60)) := Lib.hid (row_of_blk hX1 (fun c hc => Hb.out c (List.mem_of_mem_take hc)) 60 (by rw [List.length_take, HL.out]; decide) (by decide))
  clear hb1 hgx hX1 HT0 HX0 HO0 HB0
  refine hK _ _ ?_
  clear hK K'
  refine take_one (i := 3) (d := 10) (v := .tuple #[.slice (some ⟨gx, 0, none⟩) 60 60, .int .i64 0]) rfl (by kernel_rfl) (by kernel_rfl) (by kernel_rfl) (by kernel_rfl) (fun _ _ _ h => h) (Or.inl ⟨by kernel_rfl, fun w => by kernel_rfl⟩) ?_
  refine take_one (i := 4) (d := 14) (v := .slice (some ⟨gx, 0, none⟩) 60 60) rfl (by kernel_rfl) (by kernel_rfl) (by kernel_rfl) (by kernel_rfl) (fun _ _ _ h => h) (Or.inl ⟨by kernel_rfl, fun w => by kernel_rfl⟩) ?_
  refine take_one (i := 5) (d := 15) (v := .int .i64 0) rfl (by kernel_rfl) (by kernel_rfl) (by kernel_rfl) (by kernel_rfl) (fun _ _ _ h => h) (Or.inl ⟨by kernel_rfl, fun w => by kernel_rfl⟩) ?_
  refine take_one (i := 6) (d := 6) (v := .slice (some ⟨gx, 0, none⟩) 60 60) rfl (by kernel_rfl) (by kernel_rfl) (by kernel_rfl) (by kernel_rfl) (fun _ _ _ h => h) (Or.inl ⟨by kernel_rfl, fun w => by kernel_rfl⟩) ?_
  refine take_one (i := 7) (d := 7) (v := .int .i64 0) rfl (by kernel_rfl) (by kernel_rfl) (by kernel_rfl) (by kernel_rfl) (fun _ _ _ h => h) (Or.inl ⟨by kernel_rfl, fun w => by kernel_rfl⟩) ?_
  refine wpAny_done (by kernel_rfl) ?_ _
  go_frame
  go_wp2_with fail
  refine (read_any _ _ (bs.take 60) _ HX1.out).mono ?_
  rintro e w2 ⟨rfl, hb2⟩
  have hz := zero_fr
  have HLr : Hid ((rd (bs.take 60)).b.length = 44) := Lib.hid (rd_len (by rw [List.length_take, HL.out]; decide))
  have HB2 := Lib.hid (bthen HB1.out hb2)
  have HO2 := Lib.hid (HO1.out.below hb2 HO1.out.lt)
  have HN : Hid (Blk (w2.alloc (Obj.cells (frA fr0) 24)) w2.heap.size 24 (frA fr0)) := Lib.hid (Blk.new _ _ _)
  have HB3 : Hid (Below w.heap.size w (w2.alloc (Obj.cells (frA fr0) 24))) := Lib.hid (bthen HB2.out (below_alloc _ _))
  have HO3 : Hid (Blk (w2.alloc (Obj.cells (frA fr0) 24)) (w.heap.size + 2) 24 (frA fr0)) := Lib.hid (HO2.out.alloc _)
  have HLt : Hid (w.heap.size + 2 < w2.heap.size) := Lib.hid HO2.out.lt
  clear hb2 HB1 HO1 HX1 HB2 HO2
  generalize ver (bs.take 60) = x at *
  generalize rd (bs.take 60) = f at *
  obtain rfl : x = 1 := Hv.out
  go_wp2_with (first | (refine wpl_store rfl _ _ rfl (w2.heap.size) (frA f) rfl rfl _ _ HN.out (info_frA HLr.out) ((frA_size fr0_len).trans (frA_size HLr.out).symm) frA_one ?_; intro w4 hS4 hK4; have HF4 := Lib.hid hS4; have HO4 := Lib.hid (HO3.out.kept hK4 (by have := HLt.out; omega)); have HB4 := Lib.hid (bkept HB3.out (Nat.le_refl _) hK4 (fun i hi h => by have := HLt.out; omega)); clear hS4 hK4 HN HO3 HB3 hz; go_frame) | (refine wpl_load_g (by kernel_rfl) _ rfl (w2.heap.size) rfl _ _ _ HF4.out Try.underlying24 rfl (info_frA HLr.out) ?_; go_frame))
  refine (right_any f _).mono ?_
  rintro e w5 ⟨rfl, hb5⟩
  rw [Hr.out]
  have HB5 := Lib.hid (bthen HB4.out hb5)
  have HO5 := Lib.hid (HO4.out.below hb5 HO4.out.lt)
  have HF5 := Lib.hid (HF4.out.below hb5 HF4.out.lt)
  clear hb5 HB4 HO4 HF4
  go_wp2_with (first | (refine wpl_load rfl _ rfl (w2.heap.size) rfl _ _ _ HF5.out Try.underlying24 rfl (info_frA HLr.out) ?_; go_frame) | (refine wpl_store rfl _ _ rfl (w.heap.size + 2) (frA (f)) rfl rfl _ _ HO5.out (info_frA HLr.out) ((frA_size fr0_len).trans (frA_size HLr.out).symm) frA_one ?_; intro w6 hS6 hK6; have HS6 := Lib.hid hS6; have HK6 := Lib.hid hK6; clear hS6 hK6; go_frame))
  refine bodyPost_ret (v := .tuple #[.agg (frA (f)), .int .i64 0]) (results_cell_slot Try.results14 _ _ (w.heap.size + 2) _ _ _ _ rfl rfl HS6.out Try.underlying24 rfl (info_frA HLr.out)) rfl ⟨rfl, ?_⟩
  exact bkept HB5.out (Nat.le_refl _) HK6.out (fun i hi h => by omega)

/-- Is a sector's sum right? -/
def soundB (bs : List Nat) : Bool := decide (sm (bs.take 60) = num (bs.drop 60))
/-- May what stands ahead of it be? -/
def formB (bs : List Nat) : Bool := decide (ver (bs.take 60) = 1) && rightB (rd (bs.take 60))
/-- Decode's error. -/
def decE (bs : List Nat) : Int := if soundB bs = true then (if formB bs = true then 0 else 10) else 11
/-- Decode's frame. -/
def decF (bs : List Nat) : FrR := if soundB bs = true ∧ formB bs = true then rd (bs.take 60) else fr0

theorem decF_len {bs : List Nat} (h : bs.length = 64) : (decF bs).b.length = 44 := by
  unfold decF; split
  · exact rd_len (by rw [List.length_take, h]; decide)
  · exact fr0_len
theorem decF_lt {bs : List Nat} (h : ∀ c ∈ bs, c < 256) : ∀ c ∈ (decF bs).b, c < 256 := by
  unfold decF; split
  · exact rd_lt (fun c hc => h c (List.mem_of_mem_take hc))
  · exact zeros_lt 44

theorem decode_any (bs : List Nat) (w : World) (hl : bs.length = 64) (hb : ∀ c ∈ bs, c < 256) :
    Calls Try.prog 14 #[.agg tbl, .agg (bA bs)] w (DecPost (decF bs) (decE bs) w) := by
  unfold decF decE soundB formB
  by_cases h1 : sm (bs.take 60) = num (bs.drop 60)
  · by_cases h2 : ver (bs.take 60) = 1
    · cases h3 : rightB (rd (bs.take 60)) with
      | true => simpa [h1, h2, h3] using decode_ok bs w hl hb h1 h2 h3
      | false => simpa [h1, h2, h3] using decode_form bs w hl hb h1 h2 h3
    · simpa [h1, h2] using decode_ver bs w hl hb h1 h2
  · simpa [h1] using decode_sum bs w hl hb h1

end Go.Proofs.Ytlkghdgomfcfkaa
