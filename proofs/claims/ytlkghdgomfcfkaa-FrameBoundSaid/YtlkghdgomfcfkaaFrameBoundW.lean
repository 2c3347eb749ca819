/-
  The walk of FrameBound.
-/
import Derived.Test.YtlkghdgomfcfkaaFrameK
namespace Go.Proofs.Ytlkghdgomfcfkaa
open Go.RowKit CrcM
set_option linter.unusedVariables false
set_option linter.unnecessarySimpa false
set_option linter.unusedSimpArgs false

set_option maxRecDepth 100000 in
set_option maxHeartbeats 4000000 in
theorem walkBound_bad (f : FrR) (zn of : Int) (w : World) (hl : f.b.length = 44) (hb : ∀ c ∈ f.b, c < 256) (hr : rightB f = false) :
    Calls Try.prog 8 #[.agg (frA f), .int .i64 zn, .int .i64 of] w fun e w' => e = .returned (.bool true) ∧ Below w.heap.size w w' := by
  have HL := Lib.hid hl
  have Hb := Lib.hid hb
  have Hr := Lib.hid hr
  have hz1 := zero_tab
  have hz2 := zero_sec
  have hz3 := zero_fr
  have HF0 : Hid (Blk (w.alloc (Obj.cells (frA f) 24)) w.heap.size 24 (frA f)) := Lib.hid (Blk.new w 24 (frA f))
  have HB0 : Hid (Below w.heap.size w (w.alloc (Obj.cells (frA f) 24))) := Lib.hid (below_alloc _ _)
  clear hl hb hr
  go_enter Try.func8, Try.ntmps8
  go_wp2_with fail
  refine (anchor3_any _).mono ?_
  rintro e w1 ⟨rfl, hb1⟩
  have HF1 := Lib.hid (HF0.out.below hb1 HF0.out.lt)
  have HB1 := Lib.hid (bthen HB0.out hb1)
  clear hb1 HB0 HF0
  go_wp2_with fail
  refine (new_any _).mono ?_
  rintro e w2 ⟨rfl, hb2⟩
  have HT3 : Hid (Blk (w2.alloc (Obj.cells tbl 28)) w2.heap.size 28 tbl) := Lib.hid (Blk.new _ _ _)
  have HF3 := Lib.hid ((HF1.out.below hb2 HF1.out.lt).alloc (Obj.cells tbl 28))
  have HB3 : Hid (Below w.heap.size w (w2.alloc (Obj.cells tbl 28))) := Lib.hid (bthen (bthen HB1.out hb2) (below_alloc _ _))
  clear hb2 HB1 HF1
  go_wp2_with (first | (refine wpl_store_new rfl _ _ rfl (tbl) w2 28 (pt 0) rfl rfl rfl info_tbl (by rw [pt_size, tbl_size]) tbl_cells ?_; go_frame) | (refine wpl_load rfl _ rfl (w2.heap.size) rfl _ _ _ HT3.out Try.underlying28 rfl info_tbl ?_; go_frame) | (refine wpl_load rfl _ rfl (w.heap.size) rfl _ _ _ HF3.out Try.underlying24 rfl (info_frA HL.out) ?_; go_frame))
  clear hz1
  generalize w2.alloc (Obj.cells tbl 28) = w3 at *
  refine (encode_bad f _ HL.out Hb.out Hr.out).mono ?_
  rintro e w4 ⟨rfl, hb4⟩
  have HB4 := Lib.hid (bthen HB3.out hb4)
  clear hb4 HB3 HT3 HF3
  go_wp2_with (first | (refine wpl_store_new rfl _ _ rfl (bA (zeros 64)) w4 32 (bA (zeros 64)) rfl rfl rfl (info_sec (zeros_length 64)) ((bA_size _).trans ((zeros_length 64).trans ((bA_size _).trans (zeros_length 64)).symm)) (bA_one _) ?_; go_frame))
  go_ret
  exact ⟨rfl, bthen HB4.out (below_alloc _ _)⟩

set_option maxRecDepth 100000 in
set_option maxHeartbeats 4000000 in
theorem walkBound_own (f : FrR) (zn of : Int) (w : World) (hl : f.b.length = 44) (hb : ∀ c ∈ f.b, c < 256) (hr : rightB f = true) (h1 : f.z = zn) (h2 : f.o = of) :
    Calls Try.prog 8 #[.agg (frA f), .int .i64 zn, .int .i64 of] w fun e w' => e = .returned (.bool true) ∧ Below w.heap.size w w' := by
  have HL := Lib.hid hl
  have Hb := Lib.hid hb
  have Hr := Lib.hid hr
  have hz1 := zero_tab
  have hz2 := zero_sec
  have hz3 := zero_fr
  have HF0 : Hid (Blk (w.alloc (Obj.cells (frA f) 24)) w.heap.size 24 (frA f)) := Lib.hid (Blk.new w 24 (frA f))
  have HB0 : Hid (Below w.heap.size w (w.alloc (Obj.cells (frA f) 24))) := Lib.hid (below_alloc _ _)
  have HE : Hid (atE (sec f) zn of = 0) := Lib.hid ((at_sec f zn of hr hl hb).1 ⟨h1, h2⟩).1
  have HX : Hid (atF (sec f) zn of = f) := Lib.hid ((at_sec f zn of hr hl hb).1 ⟨h1, h2⟩).2
  have d1 : (zn == f.z) = true := by rw [h1]; simp
  have d2 : (of == f.o) = true := by rw [h2]; simp
  clear h1 h2
  clear hl hb hr
  go_enter Try.func8, Try.ntmps8
  go_wp2_with fail
  refine (anchor3_any _).mono ?_
  rintro e w1 ⟨rfl, hb1⟩
  have HF1 := Lib.hid (HF0.out.below hb1 HF0.out.lt)
  have HB1 := Lib.hid (bthen HB0.out hb1)
  clear hb1 HB0 HF0
  go_wp2_with fail
  refine (new_any _).mono ?_
  rintro e w2 ⟨rfl, hb2⟩
  have HT3 : Hid (Blk (w2.alloc (Obj.cells tbl 28)) w2.heap.size 28 tbl) := Lib.hid (Blk.new _ _ _)
  have HF3 := Lib.hid ((HF1.out.below hb2 HF1.out.lt).alloc (Obj.cells tbl 28))
  have HB3 : Hid (Below w.heap.size w (w2.alloc (Obj.cells tbl 28))) := Lib.hid (bthen (bthen HB1.out hb2) (below_alloc _ _))
  clear hb2 HB1 HF1
  go_wp2_with (first | (refine wpl_store_new rfl _ _ rfl (tbl) w2 28 (pt 0) rfl rfl rfl info_tbl (by rw [pt_size, tbl_size]) tbl_cells ?_; go_frame) | (refine wpl_load rfl _ rfl (w2.heap.size) rfl _ _ _ HT3.out Try.underlying28 rfl info_tbl ?_; go_frame) | (refine wpl_load rfl _ rfl (w.heap.size) rfl _ _ _ HF3.out Try.underlying24 rfl (info_frA HL.out) ?_; go_frame))
  clear hz1
  generalize w2.alloc (Obj.cells tbl 28) = w3 at *
  refine (encode_ok f _ HL.out Hb.out Hr.out).mono ?_
  rintro e w4 ⟨rfl, hb4⟩
  have HSl : Hid ((sec f).length = 64) := Lib.hid (sec_length HL.out)
  have HT4 := Lib.hid (HT3.out.below hb4 HT3.out.lt)
  have HF4 := Lib.hid (HF3.out.below hb4 HF3.out.lt)
  have HB4 := Lib.hid (bthen HB3.out hb4)
  clear hb4 HB3 HT3 HF3
  have HS5 : Hid (Blk (w4.alloc (Obj.cells (bA (sec f)) 32)) w4.heap.size 32 (bA (sec f))) := Lib.hid (Blk.new _ _ _)
  have HT5 := Lib.hid (HT4.out.alloc (Obj.cells (bA (sec f)) 32))
  have HF5 := Lib.hid (HF4.out.alloc (Obj.cells (bA (sec f)) 32))
  have HB5 := Lib.hid (bthen HB4.out (below_alloc w4 (Obj.cells (bA (sec f)) 32)))
  clear HB4 HT4 HF4
  go_wp2_with (first | (refine wpl_store_new rfl _ _ rfl (bA (sec f)) w4 32 (bA (zeros 64)) rfl rfl rfl (info_sec HSl.out) ((bA_size _).trans ((zeros_length 64).trans ((bA_size _).trans HSl.out).symm)) (bA_one _) ?_; go_frame) | (refine wpl_load rfl _ rfl (w2.heap.size) rfl _ _ _ HT5.out Try.underlying28 rfl info_tbl ?_; go_frame) | (refine wpl_load rfl _ rfl (w4.heap.size) rfl _ _ _ HS5.out Try.underlying32 rfl (info_sec HSl.out) ?_; go_frame))
  clear hz2
  generalize w4.alloc (Obj.cells (bA (sec f)) 32) = w5 at *
  refine (at_any (sec f) zn of _ HSl.out (sec_lt Hb.out)).mono ?_
  rintro e w6 ⟨rfl, hb6⟩
  rw [HE.out, HX.out]
  clear HS5 HT5
  have HF6 := Lib.hid (HF5.out.below hb6 HF5.out.lt)
  have HB6 := Lib.hid (bthen HB5.out hb6)
  clear hb6 HB5 HF5
  have HX7 : Hid (Blk (w6.alloc (Obj.cells (frA f) 24)) w6.heap.size 24 (frA f)) := Lib.hid (Blk.new _ _ _)
  have HF7 := Lib.hid (HF6.out.alloc (Obj.cells (frA f) 24))
  have HB7 := Lib.hid (bthen HB6.out (below_alloc w6 (Obj.cells (frA f) 24)))
  clear HB6 HF6
  have c1 := (HF7.out.cell 1).trans (frA_at1 f)
  have c2 := (HF7.out.cell 2).trans (frA_at2 f)
  go_wp2_with (first | (refine wpl_store_new rfl _ _ rfl (frA (f)) w6 24 (frA fr0) rfl rfl rfl (info_frA HL.out) ((frA_size fr0_len).trans (frA_size HL.out).symm) frA_one ?_; go_frame) | (refine wpl_load_g (by rfl) _ rfl (w6.heap.size) rfl _ _ _ HX7.out Try.underlying24 rfl (info_frA HL.out) ?_; go_frame) | (refine wpl_load_g (by rfl) _ rfl (w.heap.size) rfl _ _ _ HF7.out Try.underlying24 rfl (info_frA HL.out) ?_; go_frame) | (refine wpl_run (by rfl) (.bool true) (exec_eql_frame tyFr _ _ _ rfl (f) (f) rfl rfl HL.out HL.out true (eq_self f)) ?_; go_frame))
  go_ret
  exact ⟨rfl, HB7.out⟩

set_option maxRecDepth 100000 in
set_option maxHeartbeats 4000000 in
theorem walkBound_zone (f : FrR) (zn of : Int) (w : World) (hl : f.b.length = 44) (hb : ∀ c ∈ f.b, c < 256) (hr : rightB f = true) (h1 : f.z ≠ zn) :
    Calls Try.prog 8 #[.agg (frA f), .int .i64 zn, .int .i64 of] w fun e w' => e = .returned (.bool true) ∧ Below w.heap.size w w' := by
  have HL := Lib.hid hl
  have Hb := Lib.hid hb
  have Hr := Lib.hid hr
  have hz1 := zero_tab
  have hz2 := zero_sec
  have hz3 := zero_fr
  have HF0 : Hid (Blk (w.alloc (Obj.cells (frA f) 24)) w.heap.size 24 (frA f)) := Lib.hid (Blk.new w 24 (frA f))
  have HB0 : Hid (Below w.heap.size w (w.alloc (Obj.cells (frA f) 24))) := Lib.hid (below_alloc _ _)
  have HE : Hid (atE (sec f) zn of = 12) := Lib.hid ((at_sec f zn of hr hl hb).2 (fun h => h1 h.1)).1
  have HX : Hid (atF (sec f) zn of = fr0) := Lib.hid ((at_sec f zn of hr hl hb).2 (fun h => h1 h.1)).2
  have d1 : (zn == f.z) = false := by rw [beq_eq_false_iff_ne]; exact fun e => h1 e.symm
  clear h1
  clear hl hb hr
  go_enter Try.func8, Try.ntmps8
  go_wp2_with fail
  refine (anchor3_any _).mono ?_
  rintro e w1 ⟨rfl, hb1⟩
  have HF1 := Lib.hid (HF0.out.below hb1 HF0.out.lt)
  have HB1 := Lib.hid (bthen HB0.out hb1)
  clear hb1 HB0 HF0
  go_wp2_with fail
  refine (new_any _).mono ?_
  rintro e w2 ⟨rfl, hb2⟩
  have HT3 : Hid (Blk (w2.alloc (Obj.cells tbl 28)) w2.heap.size 28 tbl) := Lib.hid (Blk.new _ _ _)
  have HF3 := Lib.hid ((HF1.out.below hb2 HF1.out.lt).alloc (Obj.cells tbl 28))
  have HB3 : Hid (Below w.heap.size w (w2.alloc (Obj.cells tbl 28))) := Lib.hid (bthen (bthen HB1.out hb2) (below_alloc _ _))
  clear hb2 HB1 HF1
  go_wp2_with (first | (refine wpl_store_new rfl _ _ rfl (tbl) w2 28 (pt 0) rfl rfl rfl info_tbl (by rw [pt_size, tbl_size]) tbl_cells ?_; go_frame) | (refine wpl_load rfl _ rfl (w2.heap.size) rfl _ _ _ HT3.out Try.underlying28 rfl info_tbl ?_; go_frame) | (refine wpl_load rfl _ rfl (w.heap.size) rfl _ _ _ HF3.out Try.underlying24 rfl (info_frA HL.out) ?_; go_frame))
  clear hz1
  generalize w2.alloc (Obj.cells tbl 28) = w3 at *
  refine (encode_ok f _ HL.out Hb.out Hr.out).mono ?_
  rintro e w4 ⟨rfl, hb4⟩
  have HSl : Hid ((sec f).length = 64) := Lib.hid (sec_length HL.out)
  have HT4 := Lib.hid (HT3.out.below hb4 HT3.out.lt)
  have HF4 := Lib.hid (HF3.out.below hb4 HF3.out.lt)
  have HB4 := Lib.hid (bthen HB3.out hb4)
  clear hb4 HB3 HT3 HF3
  have HS5 : Hid (Blk (w4.alloc (Obj.cells (bA (sec f)) 32)) w4.heap.size 32 (bA (sec f))) := Lib.hid (Blk.new _ _ _)
  have HT5 := Lib.hid (HT4.out.alloc (Obj.cells (bA (sec f)) 32))
  have HF5 := Lib.hid (HF4.out.alloc (Obj.cells (bA (sec f)) 32))
  have HB5 := Lib.hid (bthen HB4.out (below_alloc w4 (Obj.cells (bA (sec f)) 32)))
  clear HB4 HT4 HF4
  go_wp2_with (first | (refine wpl_store_new rfl _ _ rfl (bA (sec f)) w4 32 (bA (zeros 64)) rfl rfl rfl (info_sec HSl.out) ((bA_size _).trans ((zeros_length 64).trans ((bA_size _).trans HSl.out).symm)) (bA_one _) ?_; go_frame) | (refine wpl_load rfl _ rfl (w2.heap.size) rfl _ _ _ HT5.out Try.underlying28 rfl info_tbl ?_; go_frame) | (refine wpl_load rfl _ rfl (w4.heap.size) rfl _ _ _ HS5.out Try.underlying32 rfl (info_sec HSl.out) ?_; go_frame))
  clear hz2
  generalize w4.alloc (Obj.cells (bA (sec f)) 32) = w5 at *
  refine (at_any (sec f) zn of _ HSl.out (sec_lt Hb.out)).mono ?_
  rintro e w6 ⟨rfl, hb6⟩
  rw [HE.out, HX.out]
  clear HS5 HT5
  have HF6 := Lib.hid (HF5.out.below hb6 HF5.out.lt)
  have HB6 := Lib.hid (bthen HB5.out hb6)
  clear hb6 HB5 HF5
  have HX7 : Hid (Blk (w6.alloc (Obj.cells (frA fr0) 24)) w6.heap.size 24 (frA fr0)) := Lib.hid (Blk.new _ _ _)
  have HF7 := Lib.hid (HF6.out.alloc (Obj.cells (frA fr0) 24))
  have HB7 := Lib.hid (bthen HB6.out (below_alloc w6 (Obj.cells (frA fr0) 24)))
  clear HB6 HF6
  have c1 := (HF7.out.cell 1).trans (frA_at1 f)
  have c2 := (HF7.out.cell 2).trans (frA_at2 f)
  go_wp2_with (first | (refine wpl_store_new rfl _ _ rfl (frA (fr0)) w6 24 (frA fr0) rfl rfl rfl (info_frA fr0_len) ((frA_size fr0_len).trans (frA_size fr0_len).symm) frA_one ?_; go_frame) | (refine wpl_load_g (by rfl) _ rfl (w6.heap.size) rfl _ _ _ HX7.out Try.underlying24 rfl (info_frA fr0_len) ?_; go_frame) | (refine wpl_load_g (by rfl) _ rfl (w.heap.size) rfl _ _ _ HF7.out Try.underlying24 rfl (info_frA HL.out) ?_; go_frame) | (refine wpl_build (by rfl) 24 _ rfl (.agg (frA fr0)) (fun _ => by kernel_rfl) ?_; go_frame) | (refine wpl_run (by rfl) (.bool true) (exec_eql_frame tyFr _ _ _ rfl (fr0) (fr0) rfl rfl fr0_len fr0_len true (eq_self fr0)) ?_; go_frame))
  go_ret
  exact ⟨rfl, HB7.out⟩

set_option maxRecDepth 100000 in
set_option maxHeartbeats 4000000 in
theorem walkBound_off (f : FrR) (zn of : Int) (w : World) (hl : f.b.length = 44) (hb : ∀ c ∈ f.b, c < 256) (hr : rightB f = true) (h1 : f.z = zn) (h2 : f.o ≠ of) :
    Calls Try.prog 8 #[.agg (frA f), .int .i64 zn, .int .i64 of] w fun e w' => e = .returned (.bool true) ∧ Below w.heap.size w w' := by
  have HL := Lib.hid hl
  have Hb := Lib.hid hb
  have Hr := Lib.hid hr
  have hz1 := zero_tab
  have hz2 := zero_sec
  have hz3 := zero_fr
  have HF0 : Hid (Blk (w.alloc (Obj.cells (frA f) 24)) w.heap.size 24 (frA f)) := Lib.hid (Blk.new w 24 (frA f))
  have HB0 : Hid (Below w.heap.size w (w.alloc (Obj.cells (frA f) 24))) := Lib.hid (below_alloc _ _)
  have HE : Hid (atE (sec f) zn of = 12) := Lib.hid ((at_sec f zn of hr hl hb).2 (fun h => h2 h.2)).1
  have HX : Hid (atF (sec f) zn of = fr0) := Lib.hid ((at_sec f zn of hr hl hb).2 (fun h => h2 h.2)).2
  have d1 : (zn == f.z) = true := by rw [h1]; simp
  have d2 : (of == f.o) = false := by rw [beq_eq_false_iff_ne]; exact fun e => h2 e.symm
  clear h1 h2
  clear hl hb hr
  go_enter Try.func8, Try.ntmps8
  go_wp2_with fail
  refine (anchor3_any _).mono ?_
  rintro e w1 ⟨rfl, hb1⟩
  have HF1 := Lib.hid (HF0.out.below hb1 HF0.out.lt)
  have HB1 := Lib.hid (bthen HB0.out hb1)
  clear hb1 HB0 HF0
  go_wp2_with fail
  refine (new_any _).mono ?_
  rintro e w2 ⟨rfl, hb2⟩
  have HT3 : Hid (Blk (w2.alloc (Obj.cells tbl 28)) w2.heap.size 28 tbl) := Lib.hid (Blk.new _ _ _)
  have HF3 := Lib.hid ((HF1.out.below hb2 HF1.out.lt).alloc (Obj.cells tbl 28))
  have HB3 : Hid (Below w.heap.size w (w2.alloc (Obj.cells tbl 28))) := Lib.hid (bthen (bthen HB1.out hb2) (below_alloc _ _))
  clear hb2 HB1 HF1
  go_wp2_with (first | (refine wpl_store_new rfl _ _ rfl (tbl) w2 28 (pt 0) rfl rfl rfl info_tbl (by rw [pt_size, tbl_size]) tbl_cells ?_; go_frame) | (refine wpl_load rfl _ rfl (w2.heap.size) rfl _ _ _ HT3.out Try.underlying28 rfl info_tbl ?_; go_frame) | (refine wpl_load rfl _ rfl (w.heap.size) rfl _ _ _ HF3.out Try.underlying24 rfl (info_frA HL.out) ?_; go_frame))
  clear hz1
  generalize w2.alloc (Obj.cells tbl 28) = w3 at *
  refine (encode_ok f _ HL.out Hb.out Hr.out).mono ?_
  rintro e w4 ⟨rfl, hb4⟩
  have HSl : Hid ((sec f).length = 64) := Lib.hid (sec_length HL.out)
  have HT4 := Lib.hid (HT3.out.below hb4 HT3.out.lt)
  have HF4 := Lib.hid (HF3.out.below hb4 HF3.out.lt)
  have HB4 := Lib.hid (bthen HB3.out hb4)
  clear hb4 HB3 HT3 HF3
  have HS5 : Hid (Blk (w4.alloc (Obj.cells (bA (sec f)) 32)) w4.heap.size 32 (bA (sec f))) := Lib.hid (Blk.new _ _ _)
  have HT5 := Lib.hid (HT4.out.alloc (Obj.cells (bA (sec f)) 32))
  have HF5 := Lib.hid (HF4.out.alloc (Obj.cells (bA (sec f)) 32))
  have HB5 := Lib.hid (bthen HB4.out (below_alloc w4 (Obj.cells (bA (sec f)) 32)))
  clear HB4 HT4 HF4
  go_wp2_with (first | (refine wpl_store_new rfl _ _ rfl (bA (sec f)) w4 32 (bA (zeros 64)) rfl rfl rfl (info_sec HSl.out) ((bA_size _).trans ((zeros_length 64).trans ((bA_size _).trans HSl.out).symm)) (bA_one _) ?_; go_frame) | (refine wpl_load rfl _ rfl (w2.heap.size) rfl _ _ _ HT5.out Try.underlying28 rfl info_tbl ?_; go_frame) | (refine wpl_load rfl _ rfl (w4.heap.size) rfl _ _ _ HS5.out Try.underlying32 rfl (info_sec HSl.out) ?_; go_frame))
  clear hz2
  generalize w4.alloc (Obj.cells (bA (sec f)) 32) = w5 at *
  refine (at_any (sec f) zn of _ HSl.out (sec_lt Hb.out)).mono ?_
  rintro e w6 ⟨rfl, hb6⟩
  rw [HE.out, HX.out]
  clear HS5 HT5
  have HF6 := Lib.hid (HF5.out.below hb6 HF5.out.lt)
  have HB6 := Lib.hid (bthen HB5.out hb6)
  clear hb6 HB5 HF5
  have HX7 : Hid (Blk (w6.alloc (Obj.cells (frA fr0) 24)) w6.heap.size 24 (frA fr0)) := Lib.hid (Blk.new _ _ _)
  have HF7 := Lib.hid (HF6.out.alloc (Obj.cells (frA fr0) 24))
  have HB7 := Lib.hid (bthen HB6.out (below_alloc w6 (Obj.cells (frA fr0) 24)))
  clear HB6 HF6
  have c1 := (HF7.out.cell 1).trans (frA_at1 f)
  have c2 := (HF7.out.cell 2).trans (frA_at2 f)
  go_wp2_with (first | (refine wpl_store_new rfl _ _ rfl (frA (fr0)) w6 24 (frA fr0) rfl rfl rfl (info_frA fr0_len) ((frA_size fr0_len).trans (frA_size fr0_len).symm) frA_one ?_; go_frame) | (refine wpl_load_g (by rfl) _ rfl (w6.heap.size) rfl _ _ _ HX7.out Try.underlying24 rfl (info_frA fr0_len) ?_; go_frame) | (refine wpl_load_g (by rfl) _ rfl (w.heap.size) rfl _ _ _ HF7.out Try.underlying24 rfl (info_frA HL.out) ?_; go_frame) | (refine wpl_build (by rfl) 24 _ rfl (.agg (frA fr0)) (fun _ => by kernel_rfl) ?_; go_frame) | (refine wpl_run (by rfl) (.bool true) (exec_eql_frame tyFr _ _ _ rfl (fr0) (fr0) rfl rfl fr0_len fr0_len true (eq_self fr0)) ?_; go_frame))
  go_ret
  exact ⟨rfl, HB7.out⟩

theorem walkFrameBound (f : FrR) (zn of : Int) (w : World) (hf : FrOk f) (hz : (Lit.int .i64 zn).wf = true) (ho : (Lit.int .i64 of).wf = true) :
    Calls Try.prog 8 #[.agg (frA f), .int .i64 zn, .int .i64 of] w fun e w' => e = .returned (.bool true) ∧ Below w.heap.size w w' := by
  cases hr : rightB f with
  | false => exact walkBound_bad f zn of w hf.len hf.lt hr
  | true =>
    by_cases h1 : f.z = zn
    · by_cases h2 : f.o = of
      · exact walkBound_own f zn of w hf.len hf.lt hr h1 h2
      · exact walkBound_off f zn of w hf.len hf.lt hr h1 h2
    · exact walkBound_zone f zn of w hf.len hf.lt hr h1

end Go.Proofs.Ytlkghdgomfcfkaa
