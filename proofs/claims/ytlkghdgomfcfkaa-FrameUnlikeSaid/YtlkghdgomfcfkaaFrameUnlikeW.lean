/-
  The walk of FrameUnlike.
-/
import Derived.Test.YtlkghdgomfcfkaaFrameK
namespace Go.Proofs.Ytlkghdgomfcfkaa
open Go.RowKit CrcM
set_option linter.unusedVariables false
set_option linter.unnecessarySimpa false
set_option linter.unusedSimpArgs false

set_option maxRecDepth 100000 in
set_option maxHeartbeats 4000000 in
theorem walkUnlike_ff (f g : FrR) (w : World) (hl : f.b.length = 44) (hb : ∀ c ∈ f.b, c < 256) (hlg : g.b.length = 44) (hbg : ∀ c ∈ g.b, c < 256) (hr : rightB f = false) (hrg : rightB g = false) :
    Calls Try.prog 6 #[.agg (frA f), .agg (frA g)] w fun e w' => e = .returned (.bool true) ∧ Below w.heap.size w w' := by
  have HL := Lib.hid hl
  have Hb := Lib.hid hb
  have HLg := Lib.hid hlg
  have Hbg := Lib.hid hbg
  have hz1 := zero_tab
  have hz2 := zero_sec
  have hz3 := zero_fr
  have HF0 : Hid (Blk ((w.alloc (Obj.cells (frA f) 24)).alloc (Obj.cells (frA g) 24)) w.heap.size 24 (frA f)) := Lib.hid (Blk.alloc (Blk.new w 24 (frA f)) _)
  have HG0 : Hid (Blk ((w.alloc (Obj.cells (frA f) 24)).alloc (Obj.cells (frA g) 24)) (w.heap.size + 1) 24 (frA g)) := Lib.hid (by
    have h := Blk.new (w.alloc (Obj.cells (frA f) 24)) 24 (frA g)
    rwa [show (w.alloc (Obj.cells (frA f) 24)).heap.size = w.heap.size + 1 by simp] at h)
  have HB0 : Hid (Below w.heap.size w ((w.alloc (Obj.cells (frA f) 24)).alloc (Obj.cells (frA g) 24))) := Lib.hid (bthen (below_alloc _ _) (below_alloc _ _))
  have Hr := Lib.hid hr
  have Hrg := Lib.hid hrg
  clear hr hrg
  clear hl hb hlg hbg
  go_enter Try.func6, Try.ntmps6
  go_wp2_with fail
  refine (anchor3_any _).mono ?_
  rintro e w1 ⟨rfl, hb1⟩
  have HF1 := Lib.hid (HF0.out.below hb1 HF0.out.lt)
  have HG1 := Lib.hid (HG0.out.below hb1 HG0.out.lt)
  have HB1 := Lib.hid (bthen HB0.out hb1)
  clear hb1 HB0 HF0 HG0
  go_wp2_with fail
  refine (new_any _).mono ?_
  rintro e w2 ⟨rfl, hb2⟩
  have HT3 : Hid (Blk (w2.alloc (Obj.cells tbl 28)) w2.heap.size 28 tbl) := Lib.hid (Blk.new _ _ _)
  have HF3 := Lib.hid ((HF1.out.below hb2 HF1.out.lt).alloc (Obj.cells tbl 28))
  have HG3 := Lib.hid ((HG1.out.below hb2 HG1.out.lt).alloc (Obj.cells tbl 28))
  have HB3 : Hid (Below w.heap.size w (w2.alloc (Obj.cells tbl 28))) := Lib.hid (bthen (bthen HB1.out hb2) (below_alloc _ _))
  clear hb2 HB1 HF1 HG1
  go_wp2_with (first | (refine wpl_store_new rfl _ _ rfl (tbl) w2 28 (pt 0) rfl rfl rfl info_tbl (by rw [pt_size, tbl_size]) tbl_cells ?_; go_frame) | (refine wpl_load rfl _ rfl (w2.heap.size) rfl _ _ _ HT3.out Try.underlying28 rfl info_tbl ?_; go_frame) | (refine wpl_load rfl _ rfl (w.heap.size) rfl _ _ _ HF3.out Try.underlying24 rfl (info_frA HL.out) ?_; go_frame))
  clear hz1
  generalize w2.alloc (Obj.cells tbl 28) = w3 at *
  have HXl : Hid ((zeros 64).length = 64) := Lib.hid (zeros_length 64)
  have HYl : Hid ((zeros 64).length = 64) := Lib.hid (zeros_length 64)
  refine (encode_bad f _ HL.out Hb.out Hr.out).mono ?_
  rintro e w4 ⟨rfl, hb4⟩
  have HT4 := Lib.hid (HT3.out.below hb4 HT3.out.lt)
  have HF4 := Lib.hid (HF3.out.below hb4 HF3.out.lt)
  have HG4 := Lib.hid (HG3.out.below hb4 HG3.out.lt)
  have HB4 := Lib.hid (bthen HB3.out hb4)
  clear hb4 HB3 HT3 HF3 HG3
  have HX5 : Hid (Blk (w4.alloc (Obj.cells (bA (zeros 64)) 32)) w4.heap.size 32 (bA (zeros 64))) := Lib.hid (Blk.new _ _ _)
  have HT5 := Lib.hid (HT4.out.alloc (Obj.cells (bA (zeros 64)) 32))
  have HF5 := Lib.hid (HF4.out.alloc (Obj.cells (bA (zeros 64)) 32))
  have HG5 := Lib.hid (HG4.out.alloc (Obj.cells (bA (zeros 64)) 32))
  have HB5 := Lib.hid (bthen HB4.out (below_alloc w4 (Obj.cells (bA (zeros 64)) 32)))
  clear HB4 HT4 HF4 HG4
  go_wp2_with (first | (refine wpl_store_new rfl _ _ rfl (bA (zeros 64)) w4 32 (bA (zeros 64)) rfl rfl rfl (info_sec HXl.out) ((bA_size _).trans ((zeros_length 64).trans ((bA_size _).trans HXl.out).symm)) (bA_one _) ?_; go_frame) | (refine wpl_load rfl _ rfl (w2.heap.size) rfl _ _ _ HT5.out Try.underlying28 rfl info_tbl ?_; go_frame) | (refine wpl_load rfl _ rfl (w.heap.size + 1) rfl _ _ _ HG5.out Try.underlying24 rfl (info_frA HLg.out) ?_; go_frame))
  generalize w4.alloc (Obj.cells (bA (zeros 64)) 32) = w5 at *
  refine (encode_bad g _ HLg.out Hbg.out Hrg.out).mono ?_
  rintro e w6 ⟨rfl, hb6⟩
  have HX6 := Lib.hid (HX5.out.below hb6 HX5.out.lt)
  have HF6 := Lib.hid (HF5.out.below hb6 HF5.out.lt)
  have HG6 := Lib.hid (HG5.out.below hb6 HG5.out.lt)
  have HB6 := Lib.hid (bthen HB5.out hb6)
  clear hb6 HB5 HX5 HF5 HG5
  have HY7 : Hid (Blk (w6.alloc (Obj.cells (bA (zeros 64)) 32)) w6.heap.size 32 (bA (zeros 64))) := Lib.hid (Blk.new _ _ _)
  have HX7 := Lib.hid (HX6.out.alloc (Obj.cells (bA (zeros 64)) 32))
  have HF7 := Lib.hid (HF6.out.alloc (Obj.cells (bA (zeros 64)) 32))
  have HG7 := Lib.hid (HG6.out.alloc (Obj.cells (bA (zeros 64)) 32))
  have HB7 := Lib.hid (bthen HB6.out (below_alloc w6 (Obj.cells (bA (zeros 64)) 32)))
  clear HB6 HX6 HF6 HG6
  go_wp2_with (first | (refine wpl_store_new rfl _ _ rfl (bA (zeros 64)) w6 32 (bA (zeros 64)) rfl rfl rfl (info_sec HYl.out) ((bA_size _).trans ((zeros_length 64).trans ((bA_size _).trans HYl.out).symm)) (bA_one _) ?_; go_frame))
  clear hz2 hz3
  generalize w6.alloc (Obj.cells (bA (zeros 64)) 32) = w7 at *
  refine wp_region_held (S := fun w' => Below w7.heap.size w7 w') (by kernel_rfl) ?_
  change wpAnyH _ _ _ _ _ _ _ _ (World.drew _)
  have hS : Below w7.heap.size w7 w7.drew := (Below.refl _ _).drew
  refine takeH hS (i := 0) (d := 25) (v := .int .i64 10) rfl rfl (by kernel_rfl) (by kernel_rfl) (by kernel_rfl) (fun _ _ _ h => h) (Or.inl ⟨by kernel_rfl, fun w' hw' => by kernel_rfl⟩) ?_
  refine takeH hS (i := 1) (d := 26) (v := .bool true) rfl rfl (by kernel_rfl) (by kernel_rfl) (by kernel_rfl) (fun _ _ _ h => h) (Or.inl ⟨by kernel_rfl, fun w' hw' => by kernel_rfl⟩) ?_
  refine takeH hS (i := 2) (d := 27) (v := .bool true) rfl rfl (by kernel_rfl) (by kernel_rfl) (by kernel_rfl) (fun _ _ _ h => h) (Or.inl ⟨by kernel_rfl, fun w' hw' => by kernel_rfl⟩) ?_
  refine takeH hS (i := 3) (d := 28) (v := undef) rfl rfl (by kernel_rfl) (by kernel_rfl) (by kernel_rfl) (fun _ _ _ h => h) (Or.inr ⟨by kernel_rfl, rfl⟩) ?_
  refine takeH hS (i := 4) (d := 29) (v := undef) rfl rfl (by kernel_rfl) (by kernel_rfl) (by kernel_rfl) (fun _ _ _ h => h) (Or.inr ⟨by kernel_rfl, rfl⟩) ?_
  refine takeH hS (i := 5) (d := 30) (v := .bool true) rfl rfl (by kernel_rfl) (by kernel_rfl) (by kernel_rfl) (fun _ _ _ h => h) (Or.inl ⟨by kernel_rfl, fun w' hw' => by kernel_rfl⟩) ?_
  refine takeH hS (i := 6) (d := 31) (v := .bool true) rfl rfl (by kernel_rfl) (by kernel_rfl) (by kernel_rfl) (fun _ _ _ h => h) (Or.inl ⟨by kernel_rfl, fun w' hw' => by kernel_rfl⟩) ?_
  go_frame
  refine takeH hS (i := 7) (d := 32) (v := undef) rfl rfl (by kernel_rfl) (by kernel_rfl) (by kernel_rfl) (fun _ _ _ h => h) (Or.inr ⟨by kernel_rfl, rfl⟩) ?_
  refine takeH hS (i := 8) (d := 33) (v := undef) rfl rfl (by kernel_rfl) (by kernel_rfl) (by kernel_rfl) (fun _ _ _ h => h) (Or.inr ⟨by kernel_rfl, rfl⟩) ?_
  refine takeH hS (i := 9) (d := 34) (v := undef) rfl rfl (by kernel_rfl) (by kernel_rfl) (by kernel_rfl) (fun _ _ _ h => h) (Or.inr ⟨by kernel_rfl, rfl⟩) ?_
  refine takeH hS (i := 10) (d := 35) (v := undef) rfl rfl (by kernel_rfl) (by kernel_rfl) (by kernel_rfl) (fun _ _ _ h => h) (Or.inr ⟨by kernel_rfl, rfl⟩) ?_
  refine takeH hS (i := 11) (d := 36) (v := undef) rfl rfl (by kernel_rfl) (by kernel_rfl) (by kernel_rfl) (fun _ _ _ h => h) (Or.inr ⟨by kernel_rfl, rfl⟩) ?_
  refine takeH hS (i := 12) (d := 37) (v := undef) rfl rfl (by kernel_rfl) (by kernel_rfl) (by kernel_rfl) (fun _ _ _ h => h) (Or.inr ⟨by kernel_rfl, rfl⟩) ?_
  refine takeH hS (i := 13) (d := 38) (v := undef) rfl rfl (by kernel_rfl) (by kernel_rfl) (by kernel_rfl) (fun _ _ _ h => h) (Or.inr ⟨by kernel_rfl, rfl⟩) ?_
  refine takeH hS (i := 14) (d := 39) (v := .bool true) rfl rfl (by kernel_rfl) (by kernel_rfl) (by kernel_rfl) (fun _ _ _ h => h) (Or.inl ⟨by kernel_rfl, fun w' hw' => by kernel_rfl⟩) ?_
  refine takeH hS (i := 15) (d := 4) (v := .bool true) rfl rfl (by kernel_rfl) (by kernel_rfl) (by kernel_rfl) (fun _ _ _ h => h) (Or.inl ⟨by kernel_rfl, fun w' hw' => by kernel_rfl⟩) ?_
  refine wpAnyH_done (by kernel_rfl) ?_ _
  go_frame
  go_wp2_with fail
  go_ret
  exact ⟨rfl, HB7.out.drew⟩

set_option maxRecDepth 100000 in
set_option maxHeartbeats 4000000 in
theorem walkUnlike_ft (f g : FrR) (w : World) (hl : f.b.length = 44) (hb : ∀ c ∈ f.b, c < 256) (hlg : g.b.length = 44) (hbg : ∀ c ∈ g.b, c < 256) (hr : rightB f = false) (hrg : rightB g = true) :
    Calls Try.prog 6 #[.agg (frA f), .agg (frA g)] w fun e w' => e = .returned (.bool true) ∧ Below w.heap.size w w' := by
  have HL := Lib.hid hl
  have Hb := Lib.hid hb
  have HLg := Lib.hid hlg
  have Hbg := Lib.hid hbg
  have hz1 := zero_tab
  have hz2 := zero_sec
  have hz3 := zero_fr
  have HF0 : Hid (Blk ((w.alloc (Obj.cells (frA f) 24)).alloc (Obj.cells (frA g) 24)) w.heap.size 24 (frA f)) := Lib.hid (Blk.alloc (Blk.new w 24 (frA f)) _)
  have HG0 : Hid (Blk ((w.alloc (Obj.cells (frA f) 24)).alloc (Obj.cells (frA g) 24)) (w.heap.size + 1) 24 (frA g)) := Lib.hid (by
    have h := Blk.new (w.alloc (Obj.cells (frA f) 24)) 24 (frA g)
    rwa [show (w.alloc (Obj.cells (frA f) 24)).heap.size = w.heap.size + 1 by simp] at h)
  have HB0 : Hid (Below w.heap.size w ((w.alloc (Obj.cells (frA f) 24)).alloc (Obj.cells (frA g) 24))) := Lib.hid (bthen (below_alloc _ _) (below_alloc _ _))
  have Hr := Lib.hid hr
  have Hrg := Lib.hid hrg
  clear hr hrg
  clear hl hb hlg hbg
  go_enter Try.func6, Try.ntmps6
  go_wp2_with fail
  refine (anchor3_any _).mono ?_
  rintro e w1 ⟨rfl, hb1⟩
  have HF1 := Lib.hid (HF0.out.below hb1 HF0.out.lt)
  have HG1 := Lib.hid (HG0.out.below hb1 HG0.out.lt)
  have HB1 := Lib.hid (bthen HB0.out hb1)
  clear hb1 HB0 HF0 HG0
  go_wp2_with fail
  refine (new_any _).mono ?_
  rintro e w2 ⟨rfl, hb2⟩
  have HT3 : Hid (Blk (w2.alloc (Obj.cells tbl 28)) w2.heap.size 28 tbl) := Lib.hid (Blk.new _ _ _)
  have HF3 := Lib.hid ((HF1.out.below hb2 HF1.out.lt).alloc (Obj.cells tbl 28))
  have HG3 := Lib.hid ((HG1.out.below hb2 HG1.out.lt).alloc (Obj.cells tbl 28))
  have HB3 : Hid (Below w.heap.size w (w2.alloc (Obj.cells tbl 28))) := Lib.hid (bthen (bthen HB1.out hb2) (below_alloc _ _))
  clear hb2 HB1 HF1 HG1
  go_wp2_with (first | (refine wpl_store_new rfl _ _ rfl (tbl) w2 28 (pt 0) rfl rfl rfl info_tbl (by rw [pt_size, tbl_size]) tbl_cells ?_; go_frame) | (refine wpl_load rfl _ rfl (w2.heap.size) rfl _ _ _ HT3.out Try.underlying28 rfl info_tbl ?_; go_frame) | (refine wpl_load rfl _ rfl (w.heap.size) rfl _ _ _ HF3.out Try.underlying24 rfl (info_frA HL.out) ?_; go_frame))
  clear hz1
  generalize w2.alloc (Obj.cells tbl 28) = w3 at *
  have HXl : Hid ((zeros 64).length = 64) := Lib.hid (zeros_length 64)
  have HYl : Hid ((sec g).length = 64) := Lib.hid (sec_length HLg.out)
  refine (encode_bad f _ HL.out Hb.out Hr.out).mono ?_
  rintro e w4 ⟨rfl, hb4⟩
  have HT4 := Lib.hid (HT3.out.below hb4 HT3.out.lt)
  have HF4 := Lib.hid (HF3.out.below hb4 HF3.out.lt)
  have HG4 := Lib.hid (HG3.out.below hb4 HG3.out.lt)
  have HB4 := Lib.hid (bthen HB3.out hb4)
  clear hb4 HB3 HT3 HF3 HG3
  have HX5 : Hid (Blk (w4.alloc (Obj.cells (bA (zeros 64)) 32)) w4.heap.size 32 (bA (zeros 64))) := Lib.hid (Blk.new _ _ _)
  have HT5 := Lib.hid (HT4.out.alloc (Obj.cells (bA (zeros 64)) 32))
  have HF5 := Lib.hid (HF4.out.alloc (Obj.cells (bA (zeros 64)) 32))
  have HG5 := Lib.hid (HG4.out.alloc (Obj.cells (bA (zeros 64)) 32))
  have HB5 := Lib.hid (bthen HB4.out (below_alloc w4 (Obj.cells (bA (zeros 64)) 32)))
  clear HB4 HT4 HF4 HG4
  go_wp2_with (first | (refine wpl_store_new rfl _ _ rfl (bA (zeros 64)) w4 32 (bA (zeros 64)) rfl rfl rfl (info_sec HXl.out) ((bA_size _).trans ((zeros_length 64).trans ((bA_size _).trans HXl.out).symm)) (bA_one _) ?_; go_frame) | (refine wpl_load rfl _ rfl (w2.heap.size) rfl _ _ _ HT5.out Try.underlying28 rfl info_tbl ?_; go_frame) | (refine wpl_load rfl _ rfl (w.heap.size + 1) rfl _ _ _ HG5.out Try.underlying24 rfl (info_frA HLg.out) ?_; go_frame))
  generalize w4.alloc (Obj.cells (bA (zeros 64)) 32) = w5 at *
  refine (encode_ok g _ HLg.out Hbg.out Hrg.out).mono ?_
  rintro e w6 ⟨rfl, hb6⟩
  have HX6 := Lib.hid (HX5.out.below hb6 HX5.out.lt)
  have HF6 := Lib.hid (HF5.out.below hb6 HF5.out.lt)
  have HG6 := Lib.hid (HG5.out.below hb6 HG5.out.lt)
  have HB6 := Lib.hid (bthen HB5.out hb6)
  clear hb6 HB5 HX5 HF5 HG5
  have HY7 : Hid (Blk (w6.alloc (Obj.cells (bA (sec g)) 32)) w6.heap.size 32 (bA (sec g))) := Lib.hid (Blk.new _ _ _)
  have HX7 := Lib.hid (HX6.out.alloc (Obj.cells (bA (sec g)) 32))
  have HF7 := Lib.hid (HF6.out.alloc (Obj.cells (bA (sec g)) 32))
  have HG7 := Lib.hid (HG6.out.alloc (Obj.cells (bA (sec g)) 32))
  have HB7 := Lib.hid (bthen HB6.out (below_alloc w6 (Obj.cells (bA (sec g)) 32)))
  clear HB6 HX6 HF6 HG6
  go_wp2_with (first | (refine wpl_store_new rfl _ _ rfl (bA (sec g)) w6 32 (bA (zeros 64)) rfl rfl rfl (info_sec HYl.out) ((bA_size _).trans ((zeros_length 64).trans ((bA_size _).trans HYl.out).symm)) (bA_one _) ?_; go_frame))
  clear hz2 hz3
  generalize w6.alloc (Obj.cells (bA (sec g)) 32) = w7 at *
  refine wp_region_held (S := fun w' => Below w7.heap.size w7 w') (by kernel_rfl) ?_
  change wpAnyH _ _ _ _ _ _ _ _ (World.drew _)
  have hS : Below w7.heap.size w7 w7.drew := (Below.refl _ _).drew
  refine takeH hS (i := 0) (d := 25) (v := .int .i64 10) rfl rfl (by kernel_rfl) (by kernel_rfl) (by kernel_rfl) (fun _ _ _ h => h) (Or.inl ⟨by kernel_rfl, fun w' hw' => by kernel_rfl⟩) ?_
  refine takeH hS (i := 1) (d := 26) (v := .bool true) rfl rfl (by kernel_rfl) (by kernel_rfl) (by kernel_rfl) (fun _ _ _ h => h) (Or.inl ⟨by kernel_rfl, fun w' hw' => by kernel_rfl⟩) ?_
  refine takeH hS (i := 2) (d := 27) (v := .bool true) rfl rfl (by kernel_rfl) (by kernel_rfl) (by kernel_rfl) (fun _ _ _ h => h) (Or.inl ⟨by kernel_rfl, fun w' hw' => by kernel_rfl⟩) ?_
  refine takeH hS (i := 3) (d := 28) (v := undef) rfl rfl (by kernel_rfl) (by kernel_rfl) (by kernel_rfl) (fun _ _ _ h => h) (Or.inr ⟨by kernel_rfl, rfl⟩) ?_
  refine takeH hS (i := 4) (d := 29) (v := undef) rfl rfl (by kernel_rfl) (by kernel_rfl) (by kernel_rfl) (fun _ _ _ h => h) (Or.inr ⟨by kernel_rfl, rfl⟩) ?_
  refine takeH hS (i := 5) (d := 30) (v := .bool true) rfl rfl (by kernel_rfl) (by kernel_rfl) (by kernel_rfl) (fun _ _ _ h => h) (Or.inl ⟨by kernel_rfl, fun w' hw' => by kernel_rfl⟩) ?_
  refine takeH hS (i := 6) (d := 31) (v := .bool true) rfl rfl (by kernel_rfl) (by kernel_rfl) (by kernel_rfl) (fun _ _ _ h => h) (Or.inl ⟨by kernel_rfl, fun w' hw' => by kernel_rfl⟩) ?_
  go_frame
  refine takeH hS (i := 7) (d := 32) (v := undef) rfl rfl (by kernel_rfl) (by kernel_rfl) (by kernel_rfl) (fun _ _ _ h => h) (Or.inr ⟨by kernel_rfl, rfl⟩) ?_
  refine takeH hS (i := 8) (d := 33) (v := undef) rfl rfl (by kernel_rfl) (by kernel_rfl) (by kernel_rfl) (fun _ _ _ h => h) (Or.inr ⟨by kernel_rfl, rfl⟩) ?_
  refine takeH hS (i := 9) (d := 34) (v := undef) rfl rfl (by kernel_rfl) (by kernel_rfl) (by kernel_rfl) (fun _ _ _ h => h) (Or.inr ⟨by kernel_rfl, rfl⟩) ?_
  refine takeH hS (i := 10) (d := 35) (v := undef) rfl rfl (by kernel_rfl) (by kernel_rfl) (by kernel_rfl) (fun _ _ _ h => h) (Or.inr ⟨by kernel_rfl, rfl⟩) ?_
  refine takeH hS (i := 11) (d := 36) (v := undef) rfl rfl (by kernel_rfl) (by kernel_rfl) (by kernel_rfl) (fun _ _ _ h => h) (Or.inr ⟨by kernel_rfl, rfl⟩) ?_
  refine takeH hS (i := 12) (d := 37) (v := undef) rfl rfl (by kernel_rfl) (by kernel_rfl) (by kernel_rfl) (fun _ _ _ h => h) (Or.inr ⟨by kernel_rfl, rfl⟩) ?_
  refine takeH hS (i := 13) (d := 38) (v := undef) rfl rfl (by kernel_rfl) (by kernel_rfl) (by kernel_rfl) (fun _ _ _ h => h) (Or.inr ⟨by kernel_rfl, rfl⟩) ?_
  refine takeH hS (i := 14) (d := 39) (v := .bool true) rfl rfl (by kernel_rfl) (by kernel_rfl) (by kernel_rfl) (fun _ _ _ h => h) (Or.inl ⟨by kernel_rfl, fun w' hw' => by kernel_rfl⟩) ?_
  refine takeH hS (i := 15) (d := 4) (v := .bool true) rfl rfl (by kernel_rfl) (by kernel_rfl) (by kernel_rfl) (fun _ _ _ h => h) (Or.inl ⟨by kernel_rfl, fun w' hw' => by kernel_rfl⟩) ?_
  refine wpAnyH_done (by kernel_rfl) ?_ _
  go_frame
  go_wp2_with fail
  go_ret
  exact ⟨rfl, HB7.out.drew⟩

set_option maxRecDepth 100000 in
set_option maxHeartbeats 4000000 in
theorem walkUnlike_tf (f g : FrR) (w : World) (hl : f.b.length = 44) (hb : ∀ c ∈ f.b, c < 256) (hlg : g.b.length = 44) (hbg : ∀ c ∈ g.b, c < 256) (hr : rightB f = true) (hrg : rightB g = false) :
    Calls Try.prog 6 #[.agg (frA f), .agg (frA g)] w fun e w' => e = .returned (.bool true) ∧ Below w.heap.size w w' := by
  have HL := Lib.hid hl
  have Hb := Lib.hid hb
  have HLg := Lib.hid hlg
  have Hbg := Lib.hid hbg
  have hz1 := zero_tab
  have hz2 := zero_sec
  have hz3 := zero_fr
  have HF0 : Hid (Blk ((w.alloc (Obj.cells (frA f) 24)).alloc (Obj.cells (frA g) 24)) w.heap.size 24 (frA f)) := Lib.hid (Blk.alloc (Blk.new w 24 (frA f)) _)
  have HG0 : Hid (Blk ((w.alloc (Obj.cells (frA f) 24)).alloc (Obj.cells (frA g) 24)) (w.heap.size + 1) 24 (frA g)) := Lib.hid (by
    have h := Blk.new (w.alloc (Obj.cells (frA f) 24)) 24 (frA g)
    rwa [show (w.alloc (Obj.cells (frA f) 24)).heap.size = w.heap.size + 1 by simp] at h)
  have HB0 : Hid (Below w.heap.size w ((w.alloc (Obj.cells (frA f) 24)).alloc (Obj.cells (frA g) 24))) := Lib.hid (bthen (below_alloc _ _) (below_alloc _ _))
  have Hr := Lib.hid hr
  have Hrg := Lib.hid hrg
  clear hr hrg
  clear hl hb hlg hbg
  go_enter Try.func6, Try.ntmps6
  go_wp2_with fail
  refine (anchor3_any _).mono ?_
  rintro e w1 ⟨rfl, hb1⟩
  have HF1 := Lib.hid (HF0.out.below hb1 HF0.out.lt)
  have HG1 := Lib.hid (HG0.out.below hb1 HG0.out.lt)
  have HB1 := Lib.hid (bthen HB0.out hb1)
  clear hb1 HB0 HF0 HG0
  go_wp2_with fail
  refine (new_any _).mono ?_
  rintro e w2 ⟨rfl, hb2⟩
  have HT3 : Hid (Blk (w2.alloc (Obj.cells tbl 28)) w2.heap.size 28 tbl) := Lib.hid (Blk.new _ _ _)
  have HF3 := Lib.hid ((HF1.out.below hb2 HF1.out.lt).alloc (Obj.cells tbl 28))
  have HG3 := Lib.hid ((HG1.out.below hb2 HG1.out.lt).alloc (Obj.cells tbl 28))
  have HB3 : Hid (Below w.heap.size w (w2.alloc (Obj.cells tbl 28))) := Lib.hid (bthen (bthen HB1.out hb2) (below_alloc _ _))
  clear hb2 HB1 HF1 HG1
  go_wp2_with (first | (refine wpl_store_new rfl _ _ rfl (tbl) w2 28 (pt 0) rfl rfl rfl info_tbl (by rw [pt_size, tbl_size]) tbl_cells ?_; go_frame) | (refine wpl_load rfl _ rfl (w2.heap.size) rfl _ _ _ HT3.out Try.underlying28 rfl info_tbl ?_; go_frame) | (refine wpl_load rfl _ rfl (w.heap.size) rfl _ _ _ HF3.out Try.underlying24 rfl (info_frA HL.out) ?_; go_frame))
  clear hz1
  generalize w2.alloc (Obj.cells tbl 28) = w3 at *
  have HXl : Hid ((sec f).length = 64) := Lib.hid (sec_length HL.out)
  have HYl : Hid ((zeros 64).length = 64) := Lib.hid (zeros_length 64)
  refine (encode_ok f _ HL.out Hb.out Hr.out).mono ?_
  rintro e w4 ⟨rfl, hb4⟩
  have HT4 := Lib.hid (HT3.out.below hb4 HT3.out.lt)
  have HF4 := Lib.hid (HF3.out.below hb4 HF3.out.lt)
  have HG4 := Lib.hid (HG3.out.below hb4 HG3.out.lt)
  have HB4 := Lib.hid (bthen HB3.out hb4)
  clear hb4 HB3 HT3 HF3 HG3
  have HX5 : Hid (Blk (w4.alloc (Obj.cells (bA (sec f)) 32)) w4.heap.size 32 (bA (sec f))) := Lib.hid (Blk.new _ _ _)
  have HT5 := Lib.hid (HT4.out.alloc (Obj.cells (bA (sec f)) 32))
  have HF5 := Lib.hid (HF4.out.alloc (Obj.cells (bA (sec f)) 32))
  have HG5 := Lib.hid (HG4.out.alloc (Obj.cells (bA (sec f)) 32))
  have HB5 := Lib.hid (bthen HB4.out (below_alloc w4 (Obj.cells (bA (sec f)) 32)))
  clear HB4 HT4 HF4 HG4
  go_wp2_with (first | (refine wpl_store_new rfl _ _ rfl (bA (sec f)) w4 32 (bA (zeros 64)) rfl rfl rfl (info_sec HXl.out) ((bA_size _).trans ((zeros_length 64).trans ((bA_size _).trans HXl.out).symm)) (bA_one _) ?_; go_frame) | (refine wpl_load rfl _ rfl (w2.heap.size) rfl _ _ _ HT5.out Try.underlying28 rfl info_tbl ?_; go_frame) | (refine wpl_load rfl _ rfl (w.heap.size + 1) rfl _ _ _ HG5.out Try.underlying24 rfl (info_frA HLg.out) ?_; go_frame))
  generalize w4.alloc (Obj.cells (bA (sec f)) 32) = w5 at *
  refine (encode_bad g _ HLg.out Hbg.out Hrg.out).mono ?_
  rintro e w6 ⟨rfl, hb6⟩
  have HX6 := Lib.hid (HX5.out.below hb6 HX5.out.lt)
  have HF6 := Lib.hid (HF5.out.below hb6 HF5.out.lt)
  have HG6 := Lib.hid (HG5.out.below hb6 HG5.out.lt)
  have HB6 := Lib.hid (bthen HB5.out hb6)
  clear hb6 HB5 HX5 HF5 HG5
  have HY7 : Hid (Blk (w6.alloc (Obj.cells (bA (zeros 64)) 32)) w6.heap.size 32 (bA (zeros 64))) := Lib.hid (Blk.new _ _ _)
  have HX7 := Lib.hid (HX6.out.alloc (Obj.cells (bA (zeros 64)) 32))
  have HF7 := Lib.hid (HF6.out.alloc (Obj.cells (bA (zeros 64)) 32))
  have HG7 := Lib.hid (HG6.out.alloc (Obj.cells (bA (zeros 64)) 32))
  have HB7 := Lib.hid (bthen HB6.out (below_alloc w6 (Obj.cells (bA (zeros 64)) 32)))
  clear HB6 HX6 HF6 HG6
  go_wp2_with (first | (refine wpl_store_new rfl _ _ rfl (bA (zeros 64)) w6 32 (bA (zeros 64)) rfl rfl rfl (info_sec HYl.out) ((bA_size _).trans ((zeros_length 64).trans ((bA_size _).trans HYl.out).symm)) (bA_one _) ?_; go_frame))
  clear hz2 hz3
  generalize w6.alloc (Obj.cells (bA (zeros 64)) 32) = w7 at *
  refine wp_region_held (S := fun w' => Below w7.heap.size w7 w') (by kernel_rfl) ?_
  change wpAnyH _ _ _ _ _ _ _ _ (World.drew _)
  have hS : Below w7.heap.size w7 w7.drew := (Below.refl _ _).drew
  refine takeH hS (i := 0) (d := 25) (v := .int .i64 0) rfl rfl (by kernel_rfl) (by kernel_rfl) (by kernel_rfl) (fun _ _ _ h => h) (Or.inl ⟨by kernel_rfl, fun w' hw' => by kernel_rfl⟩) ?_
  refine takeH hS (i := 1) (d := 26) (v := .bool false) rfl rfl (by kernel_rfl) (by kernel_rfl) (by kernel_rfl) (fun _ _ _ h => h) (Or.inl ⟨by kernel_rfl, fun w' hw' => by kernel_rfl⟩) ?_
  refine takeH hS (i := 2) (d := 27) (v := .bool false) rfl rfl (by kernel_rfl) (by kernel_rfl) (by kernel_rfl) (fun _ _ _ h => h) (Or.inl ⟨by kernel_rfl, fun w' hw' => by kernel_rfl⟩) ?_
  refine takeH hS (i := 3) (d := 28) (v := .int .i64 10) rfl rfl (by kernel_rfl) (by kernel_rfl) (by kernel_rfl) (fun _ _ _ h => h) (Or.inl ⟨by kernel_rfl, fun w' hw' => by kernel_rfl⟩) ?_
  refine takeH hS (i := 4) (d := 29) (v := .bool true) rfl rfl (by kernel_rfl) (by kernel_rfl) (by kernel_rfl) (fun _ _ _ h => h) (Or.inl ⟨by kernel_rfl, fun w' hw' => by kernel_rfl⟩) ?_
  refine takeH hS (i := 5) (d := 30) (v := .bool true) rfl rfl (by kernel_rfl) (by kernel_rfl) (by kernel_rfl) (fun _ _ _ h => h) (Or.inl ⟨by kernel_rfl, fun w' hw' => by kernel_rfl⟩) ?_
  refine takeH hS (i := 6) (d := 31) (v := .bool true) rfl rfl (by kernel_rfl) (by kernel_rfl) (by kernel_rfl) (fun _ _ _ h => h) (Or.inl ⟨by kernel_rfl, fun w' hw' => by kernel_rfl⟩) ?_
  go_frame
  refine takeH hS (i := 7) (d := 32) (v := undef) rfl rfl (by kernel_rfl) (by kernel_rfl) (by kernel_rfl) (fun _ _ _ h => h) (Or.inr ⟨by kernel_rfl, rfl⟩) ?_
  refine takeH hS (i := 8) (d := 33) (v := undef) rfl rfl (by kernel_rfl) (by kernel_rfl) (by kernel_rfl) (fun _ _ _ h => h) (Or.inr ⟨by kernel_rfl, rfl⟩) ?_
  refine takeH hS (i := 9) (d := 34) (v := undef) rfl rfl (by kernel_rfl) (by kernel_rfl) (by kernel_rfl) (fun _ _ _ h => h) (Or.inr ⟨by kernel_rfl, rfl⟩) ?_
  refine takeH hS (i := 10) (d := 35) (v := undef) rfl rfl (by kernel_rfl) (by kernel_rfl) (by kernel_rfl) (fun _ _ _ h => h) (Or.inr ⟨by kernel_rfl, rfl⟩) ?_
  refine takeH hS (i := 11) (d := 36) (v := undef) rfl rfl (by kernel_rfl) (by kernel_rfl) (by kernel_rfl) (fun _ _ _ h => h) (Or.inr ⟨by kernel_rfl, rfl⟩) ?_
  refine takeH hS (i := 12) (d := 37) (v := undef) rfl rfl (by kernel_rfl) (by kernel_rfl) (by kernel_rfl) (fun _ _ _ h => h) (Or.inr ⟨by kernel_rfl, rfl⟩) ?_
  refine takeH hS (i := 13) (d := 38) (v := undef) rfl rfl (by kernel_rfl) (by kernel_rfl) (by kernel_rfl) (fun _ _ _ h => h) (Or.inr ⟨by kernel_rfl, rfl⟩) ?_
  refine takeH hS (i := 14) (d := 39) (v := .bool true) rfl rfl (by kernel_rfl) (by kernel_rfl) (by kernel_rfl) (fun _ _ _ h => h) (Or.inl ⟨by kernel_rfl, fun w' hw' => by kernel_rfl⟩) ?_
  refine takeH hS (i := 15) (d := 4) (v := .bool true) rfl rfl (by kernel_rfl) (by kernel_rfl) (by kernel_rfl) (fun _ _ _ h => h) (Or.inl ⟨by kernel_rfl, fun w' hw' => by kernel_rfl⟩) ?_
  refine wpAnyH_done (by kernel_rfl) ?_ _
  go_frame
  go_wp2_with fail
  go_ret
  exact ⟨rfl, HB7.out.drew⟩

set_option maxRecDepth 100000 in
set_option maxHeartbeats 4000000 in
theorem walkUnlike_eq (f g : FrR) (w : World) (hl : f.b.length = 44) (hb : ∀ c ∈ f.b, c < 256) (hlg : g.b.length = 44) (hbg : ∀ c ∈ g.b, c < 256) (hr : rightB f = true) (hrg : rightB g = true) (he : f = g) :
    Calls Try.prog 6 #[.agg (frA f), .agg (frA g)] w fun e w' => e = .returned (.bool true) ∧ Below w.heap.size w w' := by
  have HL := Lib.hid hl
  have Hb := Lib.hid hb
  have HLg := Lib.hid hlg
  have Hbg := Lib.hid hbg
  have hz1 := zero_tab
  have hz2 := zero_sec
  have hz3 := zero_fr
  have HF0 : Hid (Blk ((w.alloc (Obj.cells (frA f) 24)).alloc (Obj.cells (frA g) 24)) w.heap.size 24 (frA f)) := Lib.hid (Blk.alloc (Blk.new w 24 (frA f)) _)
  have HG0 : Hid (Blk ((w.alloc (Obj.cells (frA f) 24)).alloc (Obj.cells (frA g) 24)) (w.heap.size + 1) 24 (frA g)) := Lib.hid (by
    have h := Blk.new (w.alloc (Obj.cells (frA f) 24)) 24 (frA g)
    rwa [show (w.alloc (Obj.cells (frA f) 24)).heap.size = w.heap.size + 1 by simp] at h)
  have HB0 : Hid (Below w.heap.size w ((w.alloc (Obj.cells (frA f) 24)).alloc (Obj.cells (frA g) 24))) := Lib.hid (bthen (below_alloc _ _) (below_alloc _ _))
  have Hr := Lib.hid hr
  have Hrg := Lib.hid hrg
  have Hd1 : Hid (decide (sec f = sec g) = true) := Lib.hid (decide_eq_true (by rw [he]))
  have Hd2 : Hid (decide (f = g) = true) := Lib.hid (decide_eq_true he)
  clear hr hrg he
  clear hl hb hlg hbg
  go_enter Try.func6, Try.ntmps6
  go_wp2_with fail
  refine (anchor3_any _).mono ?_
  rintro e w1 ⟨rfl, hb1⟩
  have HF1 := Lib.hid (HF0.out.below hb1 HF0.out.lt)
  have HG1 := Lib.hid (HG0.out.below hb1 HG0.out.lt)
  have HB1 := Lib.hid (bthen HB0.out hb1)
  clear hb1 HB0 HF0 HG0
  go_wp2_with fail
  refine (new_any _).mono ?_
  rintro e w2 ⟨rfl, hb2⟩
  have HT3 : Hid (Blk (w2.alloc (Obj.cells tbl 28)) w2.heap.size 28 tbl) := Lib.hid (Blk.new _ _ _)
  have HF3 := Lib.hid ((HF1.out.below hb2 HF1.out.lt).alloc (Obj.cells tbl 28))
  have HG3 := Lib.hid ((HG1.out.below hb2 HG1.out.lt).alloc (Obj.cells tbl 28))
  have HB3 : Hid (Below w.heap.size w (w2.alloc (Obj.cells tbl 28))) := Lib.hid (bthen (bthen HB1.out hb2) (below_alloc _ _))
  clear hb2 HB1 HF1 HG1
  go_wp2_with (first | (refine wpl_store_new rfl _ _ rfl (tbl) w2 28 (pt 0) rfl rfl rfl info_tbl (by rw [pt_size, tbl_size]) tbl_cells ?_; go_frame) | (refine wpl_load rfl _ rfl (w2.heap.size) rfl _ _ _ HT3.out Try.underlying28 rfl info_tbl ?_; go_frame) | (refine wpl_load rfl _ rfl (w.heap.size) rfl _ _ _ HF3.out Try.underlying24 rfl (info_frA HL.out) ?_; go_frame))
  clear hz1
  generalize w2.alloc (Obj.cells tbl 28) = w3 at *
  have HXl : Hid ((sec f).length = 64) := Lib.hid (sec_length HL.out)
  have HYl : Hid ((sec g).length = 64) := Lib.hid (sec_length HLg.out)
  refine (encode_ok f _ HL.out Hb.out Hr.out).mono ?_
  rintro e w4 ⟨rfl, hb4⟩
  have HT4 := Lib.hid (HT3.out.below hb4 HT3.out.lt)
  have HF4 := Lib.hid (HF3.out.below hb4 HF3.out.lt)
  have HG4 := Lib.hid (HG3.out.below hb4 HG3.out.lt)
  have HB4 := Lib.hid (bthen HB3.out hb4)
  clear hb4 HB3 HT3 HF3 HG3
  have HX5 : Hid (Blk (w4.alloc (Obj.cells (bA (sec f)) 32)) w4.heap.size 32 (bA (sec f))) := Lib.hid (Blk.new _ _ _)
  have HT5 := Lib.hid (HT4.out.alloc (Obj.cells (bA (sec f)) 32))
  have HF5 := Lib.hid (HF4.out.alloc (Obj.cells (bA (sec f)) 32))
  have HG5 := Lib.hid (HG4.out.alloc (Obj.cells (bA (sec f)) 32))
  have HB5 := Lib.hid (bthen HB4.out (below_alloc w4 (Obj.cells (bA (sec f)) 32)))
  clear HB4 HT4 HF4 HG4
  go_wp2_with (first | (refine wpl_store_new rfl _ _ rfl (bA (sec f)) w4 32 (bA (zeros 64)) rfl rfl rfl (info_sec HXl.out) ((bA_size _).trans ((zeros_length 64).trans ((bA_size _).trans HXl.out).symm)) (bA_one _) ?_; go_frame) | (refine wpl_load rfl _ rfl (w2.heap.size) rfl _ _ _ HT5.out Try.underlying28 rfl info_tbl ?_; go_frame) | (refine wpl_load rfl _ rfl (w.heap.size + 1) rfl _ _ _ HG5.out Try.underlying24 rfl (info_frA HLg.out) ?_; go_frame))
  generalize w4.alloc (Obj.cells (bA (sec f)) 32) = w5 at *
  refine (encode_ok g _ HLg.out Hbg.out Hrg.out).mono ?_
  rintro e w6 ⟨rfl, hb6⟩
  have HX6 := Lib.hid (HX5.out.below hb6 HX5.out.lt)
  have HF6 := Lib.hid (HF5.out.below hb6 HF5.out.lt)
  have HG6 := Lib.hid (HG5.out.below hb6 HG5.out.lt)
  have HB6 := Lib.hid (bthen HB5.out hb6)
  clear hb6 HB5 HX5 HF5 HG5
  have HY7 : Hid (Blk (w6.alloc (Obj.cells (bA (sec g)) 32)) w6.heap.size 32 (bA (sec g))) := Lib.hid (Blk.new _ _ _)
  have HX7 := Lib.hid (HX6.out.alloc (Obj.cells (bA (sec g)) 32))
  have HF7 := Lib.hid (HF6.out.alloc (Obj.cells (bA (sec g)) 32))
  have HG7 := Lib.hid (HG6.out.alloc (Obj.cells (bA (sec g)) 32))
  have HB7 := Lib.hid (bthen HB6.out (below_alloc w6 (Obj.cells (bA (sec g)) 32)))
  clear HB6 HX6 HF6 HG6
  go_wp2_with (first | (refine wpl_store_new rfl _ _ rfl (bA (sec g)) w6 32 (bA (zeros 64)) rfl rfl rfl (info_sec HYl.out) ((bA_size _).trans ((zeros_length 64).trans ((bA_size _).trans HYl.out).symm)) (bA_one _) ?_; go_frame))
  clear hz2 hz3
  generalize w6.alloc (Obj.cells (bA (sec g)) 32) = w7 at *
  refine wp_region_held (S := fun w' => Below w7.heap.size w7 w') (by kernel_rfl) ?_
  change wpAnyH _ _ _ _ _ _ _ _ (World.drew _)
  have hS : Below w7.heap.size w7 w7.drew := (Below.refl _ _).drew
  refine takeH hS (i := 0) (d := 25) (v := .int .i64 0) rfl rfl (by kernel_rfl) (by kernel_rfl) (by kernel_rfl) (fun _ _ _ h => h) (Or.inl ⟨by kernel_rfl, fun w' hw' => by kernel_rfl⟩) ?_
  refine takeH hS (i := 1) (d := 26) (v := .bool false) rfl rfl (by kernel_rfl) (by kernel_rfl) (by kernel_rfl) (fun _ _ _ h => h) (Or.inl ⟨by kernel_rfl, fun w' hw' => by kernel_rfl⟩) ?_
  refine takeH hS (i := 2) (d := 27) (v := .bool false) rfl rfl (by kernel_rfl) (by kernel_rfl) (by kernel_rfl) (fun _ _ _ h => h) (Or.inl ⟨by kernel_rfl, fun w' hw' => by kernel_rfl⟩) ?_
  refine takeH hS (i := 3) (d := 28) (v := .int .i64 0) rfl rfl (by kernel_rfl) (by kernel_rfl) (by kernel_rfl) (fun _ _ _ h => h) (Or.inl ⟨by kernel_rfl, fun w' hw' => by kernel_rfl⟩) ?_
  refine takeH hS (i := 4) (d := 29) (v := .bool false) rfl rfl (by kernel_rfl) (by kernel_rfl) (by kernel_rfl) (fun _ _ _ h => h) (Or.inl ⟨by kernel_rfl, fun w' hw' => by kernel_rfl⟩) ?_
  refine takeH hS (i := 5) (d := 30) (v := .bool false) rfl rfl (by kernel_rfl) (by kernel_rfl) (by kernel_rfl) (fun _ _ _ h => h) (Or.inl ⟨by kernel_rfl, fun w' hw' => by kernel_rfl⟩) ?_
  refine takeH hS (i := 6) (d := 31) (v := .bool false) rfl rfl (by kernel_rfl) (by kernel_rfl) (by kernel_rfl) (fun _ _ _ h => h) (Or.inl ⟨by kernel_rfl, fun w' hw' => by kernel_rfl⟩) ?_
  go_frame
  refine takeH hS (i := 7) (d := 32) (v := .agg (bA (sec f))) rfl rfl (by kernel_rfl) (by kernel_rfl) (by kernel_rfl) (fun _ _ _ h => h) (Or.inl ⟨by kernel_rfl, fun w' hw' => by exact exec_load _ rfl (w4.heap.size) rfl (HX7.out.below hw' HX7.out.lt) Try.underlying32 rfl (info_sec HXl.out)⟩) ?_
  refine takeH hS (i := 8) (d := 33) (v := .agg (bA (sec g))) rfl rfl (by kernel_rfl) (by kernel_rfl) (by kernel_rfl) (fun _ _ _ h => h) (Or.inl ⟨by kernel_rfl, fun w' hw' => by exact exec_load _ rfl (w6.heap.size) rfl (HY7.out.below hw' HY7.out.lt) Try.underlying32 rfl (info_sec HYl.out)⟩) ?_
  refine takeH hS (i := 9) (d := 34) (v := .bool true) rfl rfl (by kernel_rfl) (by kernel_rfl) (by kernel_rfl) (fun _ _ _ h => h) (Or.inl ⟨by kernel_rfl, fun w' hw' => by exact exec_eql_sector tySec _ _ _ rfl (sec f) (sec g) rfl rfl HXl.out HYl.out true Hd1.out⟩) ?_
  refine takeH hS (i := 10) (d := 35) (v := .agg (frA f)) rfl rfl (by kernel_rfl) (by kernel_rfl) (by kernel_rfl) (fun _ _ _ h => h) (Or.inl ⟨by kernel_rfl, fun w' hw' => by exact exec_load _ rfl (w.heap.size) rfl (HF7.out.below hw' HF7.out.lt) Try.underlying24 rfl (info_frA HL.out)⟩) ?_
  refine takeH hS (i := 11) (d := 36) (v := .agg (frA g)) rfl rfl (by kernel_rfl) (by kernel_rfl) (by kernel_rfl) (fun _ _ _ h => h) (Or.inl ⟨by kernel_rfl, fun w' hw' => by exact exec_load _ rfl (w.heap.size + 1) rfl (HG7.out.below hw' HG7.out.lt) Try.underlying24 rfl (info_frA HLg.out)⟩) ?_
  refine takeH hS (i := 12) (d := 37) (v := .bool true) rfl rfl (by kernel_rfl) (by kernel_rfl) (by kernel_rfl) (fun _ _ _ h => h) (Or.inl ⟨by kernel_rfl, fun w' hw' => by exact exec_eql_frame tyFr _ _ _ rfl f g rfl rfl HL.out HLg.out true Hd2.out⟩) ?_
  go_frame
  refine takeH hS (i := 13) (d := 38) (v := .bool true) rfl rfl (by kernel_rfl) (by kernel_rfl) (by kernel_rfl) (fun _ _ _ h => h) (Or.inl ⟨by kernel_rfl, fun w' hw' => by kernel_rfl⟩) ?_
  refine takeH hS (i := 14) (d := 39) (v := .bool true) rfl rfl (by kernel_rfl) (by kernel_rfl) (by kernel_rfl) (fun _ _ _ h => h) (Or.inl ⟨by kernel_rfl, fun w' hw' => by kernel_rfl⟩) ?_
  refine takeH hS (i := 15) (d := 4) (v := .bool true) rfl rfl (by kernel_rfl) (by kernel_rfl) (by kernel_rfl) (fun _ _ _ h => h) (Or.inl ⟨by kernel_rfl, fun w' hw' => by kernel_rfl⟩) ?_
  refine wpAnyH_done (by kernel_rfl) ?_ _
  go_frame
  go_wp2_with fail
  go_ret
  exact ⟨rfl, HB7.out.drew⟩

set_option maxRecDepth 100000 in
set_option maxHeartbeats 4000000 in
theorem walkUnlike_ne (f g : FrR) (w : World) (hl : f.b.length = 44) (hb : ∀ c ∈ f.b, c < 256) (hlg : g.b.length = 44) (hbg : ∀ c ∈ g.b, c < 256) (hr : rightB f = true) (hrg : rightB g = true) (he : f ≠ g) :
    Calls Try.prog 6 #[.agg (frA f), .agg (frA g)] w fun e w' => e = .returned (.bool true) ∧ Below w.heap.size w w' := by
  have HL := Lib.hid hl
  have Hb := Lib.hid hb
  have HLg := Lib.hid hlg
  have Hbg := Lib.hid hbg
  have hz1 := zero_tab
  have hz2 := zero_sec
  have hz3 := zero_fr
  have HF0 : Hid (Blk ((w.alloc (Obj.cells (frA f) 24)).alloc (Obj.cells (frA g) 24)) w.heap.size 24 (frA f)) := Lib.hid (Blk.alloc (Blk.new w 24 (frA f)) _)
  have HG0 : Hid (Blk ((w.alloc (Obj.cells (frA f) 24)).alloc (Obj.cells (frA g) 24)) (w.heap.size + 1) 24 (frA g)) := Lib.hid (by
    have h := Blk.new (w.alloc (Obj.cells (frA f) 24)) 24 (frA g)
    rwa [show (w.alloc (Obj.cells (frA f) 24)).heap.size = w.heap.size + 1 by simp] at h)
  have HB0 : Hid (Below w.heap.size w ((w.alloc (Obj.cells (frA f) 24)).alloc (Obj.cells (frA g) 24))) := Lib.hid (bthen (below_alloc _ _) (below_alloc _ _))
  have Hr := Lib.hid hr
  have Hrg := Lib.hid hrg
  have Hd1 : Hid (decide (sec f = sec g) = false) := Lib.hid (decide_eq_false (fun h => he ((sec_inj f g hr hrg hl hlg).1 h)))
  have Hd2 : Hid (decide (f = g) = false) := Lib.hid (decide_eq_false he)
  clear hr hrg he
  clear hl hb hlg hbg
  go_enter Try.func6, Try.ntmps6
  go_wp2_with fail
  refine (anchor3_any _).mono ?_
  rintro e w1 ⟨rfl, hb1⟩
  have HF1 := Lib.hid (HF0.out.below hb1 HF0.out.lt)
  have HG1 := Lib.hid (HG0.out.below hb1 HG0.out.lt)
  have HB1 := Lib.hid (bthen HB0.out hb1)
  clear hb1 HB0 HF0 HG0
  go_wp2_with fail
  refine (new_any _).mono ?_
  rintro e w2 ⟨rfl, hb2⟩
  have HT3 : Hid (Blk (w2.alloc (Obj.cells tbl 28)) w2.heap.size 28 tbl) := Lib.hid (Blk.new _ _ _)
  have HF3 := Lib.hid ((HF1.out.below hb2 HF1.out.lt).alloc (Obj.cells tbl 28))
  have HG3 := Lib.hid ((HG1.out.below hb2 HG1.out.lt).alloc (Obj.cells tbl 28))
  have HB3 : Hid (Below w.heap.size w (w2.alloc (Obj.cells tbl 28))) := Lib.hid (bthen (bthen HB1.out hb2) (below_alloc _ _))
  clear hb2 HB1 HF1 HG1
  go_wp2_with (first | (refine wpl_store_new rfl _ _ rfl (tbl) w2 28 (pt 0) rfl rfl rfl info_tbl (by rw [pt_size, tbl_size]) tbl_cells ?_; go_frame) | (refine wpl_load rfl _ rfl (w2.heap.size) rfl _ _ _ HT3.out Try.underlying28 rfl info_tbl ?_; go_frame) | (refine wpl_load rfl _ rfl (w.heap.size) rfl _ _ _ HF3.out Try.underlying24 rfl (info_frA HL.out) ?_; go_frame))
  clear hz1
  generalize w2.alloc (Obj.cells tbl 28) = w3 at *
  have HXl : Hid ((sec f).length = 64) := Lib.hid (sec_length HL.out)
  have HYl : Hid ((sec g).length = 64) := Lib.hid (sec_length HLg.out)
  refine (encode_ok f _ HL.out Hb.out Hr.out).mono ?_
  rintro e w4 ⟨rfl, hb4⟩
  have HT4 := Lib.hid (HT3.out.below hb4 HT3.out.lt)
  have HF4 := Lib.hid (HF3.out.below hb4 HF3.out.lt)
  have HG4 := Lib.hid (HG3.out.below hb4 HG3.out.lt)
  have HB4 := Lib.hid (bthen HB3.out hb4)
  clear hb4 HB3 HT3 HF3 HG3
  have HX5 : Hid (Blk (w4.alloc (Obj.cells (bA (sec f)) 32)) w4.heap.size 32 (bA (sec f))) := Lib.hid (Blk.new _ _ _)
  have HT5 := Lib.hid (HT4.out.alloc (Obj.cells (bA (sec f)) 32))
  have HF5 := Lib.hid (HF4.out.alloc (Obj.cells (bA (sec f)) 32))
  have HG5 := Lib.hid (HG4.out.alloc (Obj.cells (bA (sec f)) 32))
  have HB5 := Lib.hid (bthen HB4.out (below_alloc w4 (Obj.cells (bA (sec f)) 32)))
  clear HB4 HT4 HF4 HG4
  go_wp2_with (first | (refine wpl_store_new rfl _ _ rfl (bA (sec f)) w4 32 (bA (zeros 64)) rfl rfl rfl (info_sec HXl.out) ((bA_size _).trans ((zeros_length 64).trans ((bA_size _).trans HXl.out).symm)) (bA_one _) ?_; go_frame) | (refine wpl_load rfl _ rfl (w2.heap.size) rfl _ _ _ HT5.out Try.underlying28 rfl info_tbl ?_; go_frame) | (refine wpl_load rfl _ rfl (w.heap.size + 1) rfl _ _ _ HG5.out Try.underlying24 rfl (info_frA HLg.out) ?_; go_frame))
  generalize w4.alloc (Obj.cells (bA (sec f)) 32) = w5 at *
  refine (encode_ok g _ HLg.out Hbg.out Hrg.out).mono ?_
  rintro e w6 ⟨rfl, hb6⟩
  have HX6 := Lib.hid (HX5.out.below hb6 HX5.out.lt)
  have HF6 := Lib.hid (HF5.out.below hb6 HF5.out.lt)
  have HG6 := Lib.hid (HG5.out.below hb6 HG5.out.lt)
  have HB6 := Lib.hid (bthen HB5.out hb6)
  clear hb6 HB5 HX5 HF5 HG5
  have HY7 : Hid (Blk (w6.alloc (Obj.cells (bA (sec g)) 32)) w6.heap.size 32 (bA (sec g))) := Lib.hid (Blk.new _ _ _)
  have HX7 := Lib.hid (HX6.out.alloc (Obj.cells (bA (sec g)) 32))
  have HF7 := Lib.hid (HF6.out.alloc (Obj.cells (bA (sec g)) 32))
  have HG7 := Lib.hid (HG6.out.alloc (Obj.cells (bA (sec g)) 32))
  have HB7 := Lib.hid (bthen HB6.out (below_alloc w6 (Obj.cells (bA (sec g)) 32)))
  clear HB6 HX6 HF6 HG6
  go_wp2_with (first | (refine wpl_store_new rfl _ _ rfl (bA (sec g)) w6 32 (bA (zeros 64)) rfl rfl rfl (info_sec HYl.out) ((bA_size _).trans ((zeros_length 64).trans ((bA_size _).trans HYl.out).symm)) (bA_one _) ?_; go_frame))
  clear hz2 hz3
  generalize w6.alloc (Obj.cells (bA (sec g)) 32) = w7 at *
  refine wp_region_held (S := fun w' => Below w7.heap.size w7 w') (by kernel_rfl) ?_
  change wpAnyH _ _ _ _ _ _ _ _ (World.drew _)
  have hS : Below w7.heap.size w7 w7.drew := (Below.refl _ _).drew
  refine takeH hS (i := 0) (d := 25) (v := .int .i64 0) rfl rfl (by kernel_rfl) (by kernel_rfl) (by kernel_rfl) (fun _ _ _ h => h) (Or.inl ⟨by kernel_rfl, fun w' hw' => by kernel_rfl⟩) ?_
  refine takeH hS (i := 1) (d := 26) (v := .bool false) rfl rfl (by kernel_rfl) (by kernel_rfl) (by kernel_rfl) (fun _ _ _ h => h) (Or.inl ⟨by kernel_rfl, fun w' hw' => by kernel_rfl⟩) ?_
  refine takeH hS (i := 2) (d := 27) (v := .bool false) rfl rfl (by kernel_rfl) (by kernel_rfl) (by kernel_rfl) (fun _ _ _ h => h) (Or.inl ⟨by kernel_rfl, fun w' hw' => by kernel_rfl⟩) ?_
  refine takeH hS (i := 3) (d := 28) (v := .int .i64 0) rfl rfl (by kernel_rfl) (by kernel_rfl) (by kernel_rfl) (fun _ _ _ h => h) (Or.inl ⟨by kernel_rfl, fun w' hw' => by kernel_rfl⟩) ?_
  refine takeH hS (i := 4) (d := 29) (v := .bool false) rfl rfl (by kernel_rfl) (by kernel_rfl) (by kernel_rfl) (fun _ _ _ h => h) (Or.inl ⟨by kernel_rfl, fun w' hw' => by kernel_rfl⟩) ?_
  refine takeH hS (i := 5) (d := 30) (v := .bool false) rfl rfl (by kernel_rfl) (by kernel_rfl) (by kernel_rfl) (fun _ _ _ h => h) (Or.inl ⟨by kernel_rfl, fun w' hw' => by kernel_rfl⟩) ?_
  refine takeH hS (i := 6) (d := 31) (v := .bool false) rfl rfl (by kernel_rfl) (by kernel_rfl) (by kernel_rfl) (fun _ _ _ h => h) (Or.inl ⟨by kernel_rfl, fun w' hw' => by kernel_rfl⟩) ?_
  go_frame
  refine takeH hS (i := 7) (d := 32) (v := .agg (bA (sec f))) rfl rfl (by kernel_rfl) (by kernel_rfl) (by kernel_rfl) (fun _ _ _ h => h) (Or.inl ⟨by kernel_rfl, fun w' hw' => by exact exec_load _ rfl (w4.heap.size) rfl (HX7.out.below hw' HX7.out.lt) Try.underlying32 rfl (info_sec HXl.out)⟩) ?_
  refine takeH hS (i := 8) (d := 33) (v := .agg (bA (sec g))) rfl rfl (by kernel_rfl) (by kernel_rfl) (by kernel_rfl) (fun _ _ _ h => h) (Or.inl ⟨by kernel_rfl, fun w' hw' => by exact exec_load _ rfl (w6.heap.size) rfl (HY7.out.below hw' HY7.out.lt) Try.underlying32 rfl (info_sec HYl.out)⟩) ?_
  refine takeH hS (i := 9) (d := 34) (v := .bool false) rfl rfl (by kernel_rfl) (by kernel_rfl) (by kernel_rfl) (fun _ _ _ h => h) (Or.inl ⟨by kernel_rfl, fun w' hw' => by exact exec_eql_sector tySec _ _ _ rfl (sec f) (sec g) rfl rfl HXl.out HYl.out false Hd1.out⟩) ?_
  refine takeH hS (i := 10) (d := 35) (v := .agg (frA f)) rfl rfl (by kernel_rfl) (by kernel_rfl) (by kernel_rfl) (fun _ _ _ h => h) (Or.inl ⟨by kernel_rfl, fun w' hw' => by exact exec_load _ rfl (w.heap.size) rfl (HF7.out.below hw' HF7.out.lt) Try.underlying24 rfl (info_frA HL.out)⟩) ?_
  refine takeH hS (i := 11) (d := 36) (v := .agg (frA g)) rfl rfl (by kernel_rfl) (by kernel_rfl) (by kernel_rfl) (fun _ _ _ h => h) (Or.inl ⟨by kernel_rfl, fun w' hw' => by exact exec_load _ rfl (w.heap.size + 1) rfl (HG7.out.below hw' HG7.out.lt) Try.underlying24 rfl (info_frA HLg.out)⟩) ?_
  refine takeH hS (i := 12) (d := 37) (v := .bool false) rfl rfl (by kernel_rfl) (by kernel_rfl) (by kernel_rfl) (fun _ _ _ h => h) (Or.inl ⟨by kernel_rfl, fun w' hw' => by exact exec_eql_frame tyFr _ _ _ rfl f g rfl rfl HL.out HLg.out false Hd2.out⟩) ?_
  go_frame
  refine takeH hS (i := 13) (d := 38) (v := .bool true) rfl rfl (by kernel_rfl) (by kernel_rfl) (by kernel_rfl) (fun _ _ _ h => h) (Or.inl ⟨by kernel_rfl, fun w' hw' => by kernel_rfl⟩) ?_
  refine takeH hS (i := 14) (d := 39) (v := .bool true) rfl rfl (by kernel_rfl) (by kernel_rfl) (by kernel_rfl) (fun _ _ _ h => h) (Or.inl ⟨by kernel_rfl, fun w' hw' => by kernel_rfl⟩) ?_
  refine takeH hS (i := 15) (d := 4) (v := .bool true) rfl rfl (by kernel_rfl) (by kernel_rfl) (by kernel_rfl) (fun _ _ _ h => h) (Or.inl ⟨by kernel_rfl, fun w' hw' => by kernel_rfl⟩) ?_
  refine wpAnyH_done (by kernel_rfl) ?_ _
  go_frame
  go_wp2_with fail
  go_ret
  exact ⟨rfl, HB7.out.drew⟩

theorem walkFrameUnlike (f g : FrR) (w : World) (hf : FrOk f) (hg : FrOk g) :
    Calls Try.prog 6 #[.agg (frA f), .agg (frA g)] w fun e w' => e = .returned (.bool true) ∧ Below w.heap.size w w' := by
  cases hr : rightB f with
  | false =>
    cases hrg : rightB g with
    | false => exact walkUnlike_ff f g w hf.len hf.lt hg.len hg.lt hr hrg
    | true => exact walkUnlike_ft f g w hf.len hf.lt hg.len hg.lt hr hrg
  | true =>
    cases hrg : rightB g with
    | false => exact walkUnlike_tf f g w hf.len hf.lt hg.len hg.lt hr hrg
    | true =>
      by_cases he : f = g
      · exact walkUnlike_eq f g w hf.len hf.lt hg.len hg.lt hr hrg he
      · exact walkUnlike_ne f g w hf.len hf.lt hg.len hg.lt hr hrg he

end Go.Proofs.Ytlkghdgomfcfkaa
