/-
  The walk of EntryReads.
-/
import Derived.Test.YtdjnfikacjfkkaaEntryL
namespace Go.Proofs.Ytdjnfikacjfkkaa
open Go.RowKit CrcM
set_option linter.unusedVariables false
set_option linter.unnecessarySimpa false
set_option linter.unusedSimpArgs false

set_option maxRecDepth 100000 in
set_option maxHeartbeats 800000 in
theorem walkReads_o (f : FrR) (w : World) (hl : f.b.length = 44) (hb : ∀ c ∈ f.b, c < 256) (hs : f.s ≤ 9223372036854775807) (ho : rofB f.k f.b = false) :
    Calls Try.prog 5 #[.agg (frA f)] w fun en w' => en = .returned (.bool true) ∧ Below w.heap.size w w' := by
  have HL := Lib.hid hl
  have Hb := Lib.hid hb
  have Hs := Lib.hid hs
  have hz0 := zero_en
  have hz1 := zero_e4
  have hz2 := zero_fr
  have HX0 : Hid (Blk (w.alloc (Obj.cells (frA f) 41)) w.heap.size 41 (frA f)) := Lib.hid (Blk.new w 41 (frA f))
  have HB0 : Hid (Below w.heap.size w (w.alloc (Obj.cells (frA f) 41))) := Lib.hid (below_alloc _ _)
  have hh : rdB f = false := by rw [rdB_eq f hl hb, ho]; rfl
  have Hv := Lib.hid (rdV_bad hh)
  have He := Lib.hid (rdE_bad hh)
  obtain ⟨D, hD⟩ : ∃ D, rofV f.k f.b = D := ⟨_, rfl⟩
  have HDl : Hid (D.y.length = 32) := Lib.hid (by rw [← hD, rofV_bad ho]; exact en0_len)
  have Hd := Lib.hid hD
  have Ho := Lib.hid ho
  clear hl hb hs hh ho hD
  go_enter Try.func5, Try.ntmps5
  go_wp2_with fail
  refine (anchor4_any _).mono ?_
  rintro en w1 ⟨rfl, hb1⟩
  have HX1 := Lib.hid (HX0.out.below hb1 HX0.out.lt)
  have HB1 := Lib.hid (bthen HB0.out hb1)
  clear hb1 HB0 HX0
  go_wp2_with (first | (refine wpl_load rfl _ rfl (w.heap.size) rfl _ _ _ HX1.out Try.underlying41 rfl (info_frA HL.out) ?_; go_frame))
  refine (eread_any f _ HL.out Hb.out Hs.out).mono ?_
  rintro en w2 ⟨rfl, hb2⟩
  rw [Hv.out, He.out]
  have HX2 := Lib.hid (HX1.out.below hb2 HX1.out.lt)
  have HB2 := Lib.hid (bthen HB1.out hb2)
  clear hb2 HB1 HX1
  have HN3 : Hid (Blk (w2.alloc (Obj.cells (enA (en0)) 25)) w2.heap.size 25 (enA (en0))) := Lib.hid (Blk.new _ _ _)
  have HX3 := Lib.hid (HX2.out.alloc (Obj.cells (enA (en0)) 25))
  have HB3 := Lib.hid (bthen HB2.out (below_alloc w2 (Obj.cells (enA (en0)) 25)))
  clear HB2 HX2
  have c0 := (HX3.out.cell 0).trans (frA_at0 f)
  go_wp2_with (first | (refine wpl_store_new rfl _ _ rfl (enA (en0)) w2 25 (enA en0) rfl rfl rfl (info_enA en0_len) ((enA_size en0_len).trans (enA_size en0_len).symm) enA_one ?_; go_frame) | (refine wpl_load_mid (by rfl) 26 _ rfl (w.heap.size) 5 rfl f.b _ (fr_range HX3.out) Try.underlying26 rfl (info_44_l HL.out) ?_; go_frame))
  clear c0 hz0
  generalize w2.alloc (Obj.cells (enA (en0)) 25) = w3 at *
  refine (rof4_any f.k f.b _ HL.out Hb.out).mono ?_
  rintro en w4 ⟨rfl, hb4⟩
  rw [Hd.out, Ho.out]
  have HX4 := Lib.hid (HX3.out.below hb4 HX3.out.lt)
  have HN4 := Lib.hid (HN3.out.below hb4 HN3.out.lt)
  have HB4 := Lib.hid (bthen HB3.out hb4)
  clear hb4 HB3 HX3 HN3
  have HM5 : Hid (Blk (w4.alloc (Obj.cells (enA (D)) 32)) w4.heap.size 32 (enA (D))) := Lib.hid (Blk.new _ _ _)
  have HX5 := Lib.hid (HX4.out.alloc (Obj.cells (enA (D)) 32))
  have HN5 := Lib.hid (HN4.out.alloc (Obj.cells (enA (D)) 32))
  have HB5 := Lib.hid (bthen HB4.out (below_alloc w4 (Obj.cells (enA (D)) 32)))
  clear HB4 HX4 HN4
  go_upto_region 5 with (refine wpl_store_new rfl _ _ rfl (enA (D)) w4 32 (enA en0) rfl rfl rfl (info_e4A HDl.out) ((enA_size en0_len).trans (enA_size HDl.out).symm) enA_one ?_; go_frame)
  generalize w4.alloc (Obj.cells (enA (D)) 32) = w5 at *
  go_upto_region 6 with fail
  go_wp2_with (first | (refine wpl_load_g (by rfl) _ rfl (w2.heap.size) rfl _ _ _ HN5.out Try.underlying25 rfl (info_enA en0_len) ?_; go_frame) | (refine wpl_build (by rfl) 25 _ rfl (.agg (enA en0)) (fun _ => by kernel_rfl) ?_; go_frame) | (refine wpl_run (by rfl) (.bool true) (exec_eql_entry tyEn _ _ _ rfl (en0) (en0) rfl rfl en0_len en0_len true (decide_eq_true rfl)) ?_; go_frame))
  go_ret
  exact ⟨rfl, HB5.out⟩

set_option maxRecDepth 100000 in
set_option maxHeartbeats 800000 in
theorem walkReads_f (f : FrR) (w : World) (hl : f.b.length = 44) (hb : ∀ c ∈ f.b, c < 256) (hs : f.s ≤ 9223372036854775807) (ho : rofB f.k f.b = true) (hf : rightB f = false) :
    Calls Try.prog 5 #[.agg (frA f)] w fun en w' => en = .returned (.bool true) ∧ Below w.heap.size w w' := by
  have HL := Lib.hid hl
  have Hb := Lib.hid hb
  have Hs := Lib.hid hs
  have hz0 := zero_en
  have hz1 := zero_e4
  have hz2 := zero_fr
  have HX0 : Hid (Blk (w.alloc (Obj.cells (frA f) 41)) w.heap.size 41 (frA f)) := Lib.hid (Blk.new w 41 (frA f))
  have HB0 : Hid (Below w.heap.size w (w.alloc (Obj.cells (frA f) 41))) := Lib.hid (below_alloc _ _)
  have hh : rdB f = false := by rw [rdB_eq f hl hb, hf]; simp
  have Hv := Lib.hid (rdV_bad hh)
  have He := Lib.hid (rdE_bad hh)
  obtain ⟨D, hD⟩ : ∃ D, rofV f.k f.b = D := ⟨_, rfl⟩
  have hdl : D.y.length = 32 := by rw [← hD, rofV_ok ho]; exact doc_len hl
  have hdd : doc f.k f.b = D := by rw [← hD, rofV_ok ho]
  have hdr : rB D = true := by rw [← hdd]; exact ho
  have hrr := rB_ranges hdr
  have Hd := Lib.hid hD
  have Ho := Lib.hid ho
  have HDl := Lib.hid hdl
  have Hf := Lib.hid hf
  clear hl hb hs ho hD hdl hdd hdr hrr hf hh
  go_enter Try.func5, Try.ntmps5
  go_wp2_with fail
  refine (anchor4_any _).mono ?_
  rintro en w1 ⟨rfl, hb1⟩
  have HX1 := Lib.hid (HX0.out.below hb1 HX0.out.lt)
  have HB1 := Lib.hid (bthen HB0.out hb1)
  clear hb1 HB0 HX0
  go_wp2_with (first | (refine wpl_load rfl _ rfl (w.heap.size) rfl _ _ _ HX1.out Try.underlying41 rfl (info_frA HL.out) ?_; go_frame))
  refine (eread_any f _ HL.out Hb.out Hs.out).mono ?_
  rintro en w2 ⟨rfl, hb2⟩
  rw [Hv.out, He.out]
  have HX2 := Lib.hid (HX1.out.below hb2 HX1.out.lt)
  have HB2 := Lib.hid (bthen HB1.out hb2)
  clear hb2 HB1 HX1
  have HN3 : Hid (Blk (w2.alloc (Obj.cells (enA (en0)) 25)) w2.heap.size 25 (enA (en0))) := Lib.hid (Blk.new _ _ _)
  have HX3 := Lib.hid (HX2.out.alloc (Obj.cells (enA (en0)) 25))
  have HB3 := Lib.hid (bthen HB2.out (below_alloc w2 (Obj.cells (enA (en0)) 25)))
  clear HB2 HX2
  have c0 := (HX3.out.cell 0).trans (frA_at0 f)
  go_wp2_with (first | (refine wpl_store_new rfl _ _ rfl (enA (en0)) w2 25 (enA en0) rfl rfl rfl (info_enA en0_len) ((enA_size en0_len).trans (enA_size en0_len).symm) enA_one ?_; go_frame) | (refine wpl_load_mid (by rfl) 26 _ rfl (w.heap.size) 5 rfl f.b _ (fr_range HX3.out) Try.underlying26 rfl (info_44_l HL.out) ?_; go_frame))
  clear c0 hz0
  generalize w2.alloc (Obj.cells (enA (en0)) 25) = w3 at *
  refine (rof4_any f.k f.b _ HL.out Hb.out).mono ?_
  rintro en w4 ⟨rfl, hb4⟩
  rw [Hd.out, Ho.out]
  have HX4 := Lib.hid (HX3.out.below hb4 HX3.out.lt)
  have HN4 := Lib.hid (HN3.out.below hb4 HN3.out.lt)
  have HB4 := Lib.hid (bthen HB3.out hb4)
  clear hb4 HB3 HX3 HN3
  have HM5 : Hid (Blk (w4.alloc (Obj.cells (enA (D)) 32)) w4.heap.size 32 (enA (D))) := Lib.hid (Blk.new _ _ _)
  have HX5 := Lib.hid (HX4.out.alloc (Obj.cells (enA (D)) 32))
  have HN5 := Lib.hid (HN4.out.alloc (Obj.cells (enA (D)) 32))
  have HB5 := Lib.hid (bthen HB4.out (below_alloc w4 (Obj.cells (enA (D)) 32)))
  clear HB4 HX4 HN4
  go_upto_region 5 with (refine wpl_store_new rfl _ _ rfl (enA (D)) w4 32 (enA en0) rfl rfl rfl (info_e4A HDl.out) ((enA_size en0_len).trans (enA_size HDl.out).symm) enA_one ?_; go_frame)
  generalize w4.alloc (Obj.cells (enA (D)) 32) = w5 at *
  go_upto_region 6 with (first | (refine wpl_load_g (by rfl) _ rfl (w.heap.size) rfl _ _ _ HX5.out Try.underlying41 rfl (info_frA HL.out) ?_; go_frame))
  refine (rright_any f _).mono ?_
  rintro en w6 ⟨rfl, hb6⟩
  rw [Hf.out]
  have HX6 := Lib.hid (HX5.out.below hb6 HX5.out.lt)
  have HN6 := Lib.hid (HN5.out.below hb6 HN5.out.lt)
  have HM6 := Lib.hid (HM5.out.below hb6 HM5.out.lt)
  have HB6 := Lib.hid (bthen HB5.out hb6)
  clear hb6 HB5 HX5 HN5 HM5
  go_upto_region 6 with fail
  go_wp2_with (first | (refine wpl_load_g (by rfl) _ rfl (w2.heap.size) rfl _ _ _ HN6.out Try.underlying25 rfl (info_enA en0_len) ?_; go_frame) | (refine wpl_build (by rfl) 25 _ rfl (.agg (enA en0)) (fun _ => by kernel_rfl) ?_; go_frame) | (refine wpl_run (by rfl) (.bool true) (exec_eql_entry tyEn _ _ _ rfl (en0) (en0) rfl rfl en0_len en0_len true (decide_eq_true rfl)) ?_; go_frame))
  go_ret
  exact ⟨rfl, HB6.out⟩

set_option maxRecDepth 100000 in
set_option maxHeartbeats 800000 in
theorem walkReads_lo (f : FrR) (w : World) (hl : f.b.length = 44) (hb : ∀ c ∈ f.b, c < 256) (hs : f.s ≤ 9223372036854775807) (ho : rofB f.k f.b = true) (hf : rightB f = true) (h1 : f.s < (doc f.k f.b).f) :
    Calls Try.prog 5 #[.agg (frA f)] w fun en w' => en = .returned (.bool true) ∧ Below w.heap.size w w' := by
  have HL := Lib.hid hl
  have Hb := Lib.hid hb
  have Hs := Lib.hid hs
  have hz0 := zero_en
  have hz1 := zero_e4
  have hz2 := zero_fr
  have HX0 : Hid (Blk (w.alloc (Obj.cells (frA f) 41)) w.heap.size 41 (frA f)) := Lib.hid (Blk.new w 41 (frA f))
  have HB0 : Hid (Below w.heap.size w (w.alloc (Obj.cells (frA f) 41))) := Lib.hid (below_alloc _ _)
  have hh : rdB f = false := by rw [rdB_eq f hl hb]; unfold amB; rw [decide_eq_false (show ¬ (doc f.k f.b).f ≤ f.s by omega)]; simp
  have Hv := Lib.hid (rdV_bad hh)
  have He := Lib.hid (rdE_bad hh)
  obtain ⟨D, hD⟩ : ∃ D, rofV f.k f.b = D := ⟨_, rfl⟩
  have hdl : D.y.length = 32 := by rw [← hD, rofV_ok ho]; exact doc_len hl
  have hdd : doc f.k f.b = D := by rw [← hD, rofV_ok ho]
  have hdr : rB D = true := by rw [← hdd]; exact ho
  have hrr := rB_ranges hdr
  have Hd := Lib.hid hD
  have Ho := Lib.hid ho
  have HDl := Lib.hid hdl
  rw [hdd] at h1
  have Hf := Lib.hid hf
  have D1 : Hid (decide (f.s < D.f) = true) := Lib.hid (decide_eq_true h1)
  clear hl hb hs ho hD hdl hdd hdr hrr hf hh h1
  go_enter Try.func5, Try.ntmps5
  go_wp2_with fail
  refine (anchor4_any _).mono ?_
  rintro en w1 ⟨rfl, hb1⟩
  have HX1 := Lib.hid (HX0.out.below hb1 HX0.out.lt)
  have HB1 := Lib.hid (bthen HB0.out hb1)
  clear hb1 HB0 HX0
  go_wp2_with (first | (refine wpl_load rfl _ rfl (w.heap.size) rfl _ _ _ HX1.out Try.underlying41 rfl (info_frA HL.out) ?_; go_frame))
  refine (eread_any f _ HL.out Hb.out Hs.out).mono ?_
  rintro en w2 ⟨rfl, hb2⟩
  rw [Hv.out, He.out]
  have HX2 := Lib.hid (HX1.out.below hb2 HX1.out.lt)
  have HB2 := Lib.hid (bthen HB1.out hb2)
  clear hb2 HB1 HX1
  have HN3 : Hid (Blk (w2.alloc (Obj.cells (enA (en0)) 25)) w2.heap.size 25 (enA (en0))) := Lib.hid (Blk.new _ _ _)
  have HX3 := Lib.hid (HX2.out.alloc (Obj.cells (enA (en0)) 25))
  have HB3 := Lib.hid (bthen HB2.out (below_alloc w2 (Obj.cells (enA (en0)) 25)))
  clear HB2 HX2
  have c0 := (HX3.out.cell 0).trans (frA_at0 f)
  go_wp2_with (first | (refine wpl_store_new rfl _ _ rfl (enA (en0)) w2 25 (enA en0) rfl rfl rfl (info_enA en0_len) ((enA_size en0_len).trans (enA_size en0_len).symm) enA_one ?_; go_frame) | (refine wpl_load_mid (by rfl) 26 _ rfl (w.heap.size) 5 rfl f.b _ (fr_range HX3.out) Try.underlying26 rfl (info_44_l HL.out) ?_; go_frame))
  clear c0 hz0
  generalize w2.alloc (Obj.cells (enA (en0)) 25) = w3 at *
  refine (rof4_any f.k f.b _ HL.out Hb.out).mono ?_
  rintro en w4 ⟨rfl, hb4⟩
  rw [Hd.out, Ho.out]
  have HX4 := Lib.hid (HX3.out.below hb4 HX3.out.lt)
  have HN4 := Lib.hid (HN3.out.below hb4 HN3.out.lt)
  have HB4 := Lib.hid (bthen HB3.out hb4)
  clear hb4 HB3 HX3 HN3
  have HM5 : Hid (Blk (w4.alloc (Obj.cells (enA (D)) 32)) w4.heap.size 32 (enA (D))) := Lib.hid (Blk.new _ _ _)
  have HX5 := Lib.hid (HX4.out.alloc (Obj.cells (enA (D)) 32))
  have HN5 := Lib.hid (HN4.out.alloc (Obj.cells (enA (D)) 32))
  have HB5 := Lib.hid (bthen HB4.out (below_alloc w4 (Obj.cells (enA (D)) 32)))
  clear HB4 HX4 HN4
  go_upto_region 5 with (refine wpl_store_new rfl _ _ rfl (enA (D)) w4 32 (enA en0) rfl rfl rfl (info_e4A HDl.out) ((enA_size en0_len).trans (enA_size HDl.out).symm) enA_one ?_; go_frame)
  generalize w4.alloc (Obj.cells (enA (D)) 32) = w5 at *
  go_upto_region 6 with (first | (refine wpl_load_g (by rfl) _ rfl (w.heap.size) rfl _ _ _ HX5.out Try.underlying41 rfl (info_frA HL.out) ?_; go_frame))
  refine (rright_any f _).mono ?_
  rintro en w6 ⟨rfl, hb6⟩
  rw [Hf.out]
  have HX6 := Lib.hid (HX5.out.below hb6 HX5.out.lt)
  have HN6 := Lib.hid (HN5.out.below hb6 HN5.out.lt)
  have HM6 := Lib.hid (HM5.out.below hb6 HM5.out.lt)
  have HB6 := Lib.hid (bthen HB5.out hb6)
  clear hb6 HB5 HX5 HN5 HM5
  have c1 := (HM6.out.cell 1).trans (enA_at1 D)
  have c2 := (HM6.out.cell 2).trans (enA_at2 D)
  have c4 := (HX6.out.cell 4).trans (frA_at4 f)
  have d1 := D1.out
  go_upto_region 6 with fail
  go_wp2_with (first | (refine wpl_load_g (by rfl) _ rfl (w2.heap.size) rfl _ _ _ HN6.out Try.underlying25 rfl (info_enA en0_len) ?_; go_frame) | (refine wpl_build (by rfl) 25 _ rfl (.agg (enA en0)) (fun _ => by kernel_rfl) ?_; go_frame) | (refine wpl_run (by rfl) (.bool true) (exec_eql_entry tyEn _ _ _ rfl (en0) (en0) rfl rfl en0_len en0_len true (decide_eq_true rfl)) ?_; go_frame))
  go_ret
  exact ⟨rfl, HB6.out⟩

set_option maxRecDepth 100000 in
set_option maxHeartbeats 800000 in
theorem walkReads_hi (f : FrR) (w : World) (hl : f.b.length = 44) (hb : ∀ c ∈ f.b, c < 256) (hs : f.s ≤ 9223372036854775807) (ho : rofB f.k f.b = true) (hf : rightB f = true) (h1 : ¬ f.s < (doc f.k f.b).f) (h2 : (doc f.k f.b).f + (doc f.k f.b).c ≤ f.s) :
    Calls Try.prog 5 #[.agg (frA f)] w fun en w' => en = .returned (.bool true) ∧ Below w.heap.size w w' := by
  have HL := Lib.hid hl
  have Hb := Lib.hid hb
  have Hs := Lib.hid hs
  have hz0 := zero_en
  have hz1 := zero_e4
  have hz2 := zero_fr
  have HX0 : Hid (Blk (w.alloc (Obj.cells (frA f) 41)) w.heap.size 41 (frA f)) := Lib.hid (Blk.new w 41 (frA f))
  have HB0 : Hid (Below w.heap.size w (w.alloc (Obj.cells (frA f) 41))) := Lib.hid (below_alloc _ _)
  have hh : rdB f = false := by rw [rdB_eq f hl hb]; unfold amB; rw [decide_eq_false (show ¬ f.s - (doc f.k f.b).f < (doc f.k f.b).c by omega)]; simp
  have Hv := Lib.hid (rdV_bad hh)
  have He := Lib.hid (rdE_bad hh)
  obtain ⟨D, hD⟩ : ∃ D, rofV f.k f.b = D := ⟨_, rfl⟩
  have hdl : D.y.length = 32 := by rw [← hD, rofV_ok ho]; exact doc_len hl
  have hdd : doc f.k f.b = D := by rw [← hD, rofV_ok ho]
  have hdr : rB D = true := by rw [← hdd]; exact ho
  have hrr := rB_ranges hdr
  have Hd := Lib.hid hD
  have Ho := Lib.hid ho
  have HDl := Lib.hid hdl
  rw [hdd] at h1 h2
  have Hf := Lib.hid hf
  have D1 : Hid (decide (f.s < D.f) = false) := Lib.hid (decide_eq_false h1)
  have D2 : Hid (decide (D.f + D.c ≤ f.s) = true) := Lib.hid (decide_eq_true h2)
  have hwr : IntKind.i64.wrap (D.f + D.c) = D.f + D.c := by rw [IntKind.wrap_i64]; omega
  have HW := Lib.hid hwr
  clear hwr
  clear hl hb hs ho hD hdl hdd hdr hrr hf hh h1 h2
  go_enter Try.func5, Try.ntmps5
  go_wp2_with fail
  refine (anchor4_any _).mono ?_
  rintro en w1 ⟨rfl, hb1⟩
  have HX1 := Lib.hid (HX0.out.below hb1 HX0.out.lt)
  have HB1 := Lib.hid (bthen HB0.out hb1)
  clear hb1 HB0 HX0
  go_wp2_with (first | (refine wpl_load rfl _ rfl (w.heap.size) rfl _ _ _ HX1.out Try.underlying41 rfl (info_frA HL.out) ?_; go_frame))
  refine (eread_any f _ HL.out Hb.out Hs.out).mono ?_
  rintro en w2 ⟨rfl, hb2⟩
  rw [Hv.out, He.out]
  have HX2 := Lib.hid (HX1.out.below hb2 HX1.out.lt)
  have HB2 := Lib.hid (bthen HB1.out hb2)
  clear hb2 HB1 HX1
  have HN3 : Hid (Blk (w2.alloc (Obj.cells (enA (en0)) 25)) w2.heap.size 25 (enA (en0))) := Lib.hid (Blk.new _ _ _)
  have HX3 := Lib.hid (HX2.out.alloc (Obj.cells (enA (en0)) 25))
  have HB3 := Lib.hid (bthen HB2.out (below_alloc w2 (Obj.cells (enA (en0)) 25)))
  clear HB2 HX2
  have c0 := (HX3.out.cell 0).trans (frA_at0 f)
  go_wp2_with (first | (refine wpl_store_new rfl _ _ rfl (enA (en0)) w2 25 (enA en0) rfl rfl rfl (info_enA en0_len) ((enA_size en0_len).trans (enA_size en0_len).symm) enA_one ?_; go_frame) | (refine wpl_load_mid (by rfl) 26 _ rfl (w.heap.size) 5 rfl f.b _ (fr_range HX3.out) Try.underlying26 rfl (info_44_l HL.out) ?_; go_frame))
  clear c0 hz0
  generalize w2.alloc (Obj.cells (enA (en0)) 25) = w3 at *
  refine (rof4_any f.k f.b _ HL.out Hb.out).mono ?_
  rintro en w4 ⟨rfl, hb4⟩
  rw [Hd.out, Ho.out]
  have HX4 := Lib.hid (HX3.out.below hb4 HX3.out.lt)
  have HN4 := Lib.hid (HN3.out.below hb4 HN3.out.lt)
  have HB4 := Lib.hid (bthen HB3.out hb4)
  clear hb4 HB3 HX3 HN3
  have HM5 : Hid (Blk (w4.alloc (Obj.cells (enA (D)) 32)) w4.heap.size 32 (enA (D))) := Lib.hid (Blk.new _ _ _)
  have HX5 := Lib.hid (HX4.out.alloc (Obj.cells (enA (D)) 32))
  have HN5 := Lib.hid (HN4.out.alloc (Obj.cells (enA (D)) 32))
  have HB5 := Lib.hid (bthen HB4.out (below_alloc w4 (Obj.cells (enA (D)) 32)))
  clear HB4 HX4 HN4
  go_upto_region 5 with (refine wpl_store_new rfl _ _ rfl (enA (D)) w4 32 (enA en0) rfl rfl rfl (info_e4A HDl.out) ((enA_size en0_len).trans (enA_size HDl.out).symm) enA_one ?_; go_frame)
  generalize w4.alloc (Obj.cells (enA (D)) 32) = w5 at *
  go_upto_region 6 with (first | (refine wpl_load_g (by rfl) _ rfl (w.heap.size) rfl _ _ _ HX5.out Try.underlying41 rfl (info_frA HL.out) ?_; go_frame))
  refine (rright_any f _).mono ?_
  rintro en w6 ⟨rfl, hb6⟩
  rw [Hf.out]
  have HX6 := Lib.hid (HX5.out.below hb6 HX5.out.lt)
  have HN6 := Lib.hid (HN5.out.below hb6 HN5.out.lt)
  have HM6 := Lib.hid (HM5.out.below hb6 HM5.out.lt)
  have HB6 := Lib.hid (bthen HB5.out hb6)
  clear hb6 HB5 HX5 HN5 HM5
  have c1 := (HM6.out.cell 1).trans (enA_at1 D)
  have c2 := (HM6.out.cell 2).trans (enA_at2 D)
  have c4 := (HX6.out.cell 4).trans (frA_at4 f)
  have d1 := D1.out
  have d2 := D2.out
  have d3 := HW.out
  go_upto_region 6 with fail
  go_wp2_with (first | (refine wpl_load_g (by rfl) _ rfl (w2.heap.size) rfl _ _ _ HN6.out Try.underlying25 rfl (info_enA en0_len) ?_; go_frame) | (refine wpl_build (by rfl) 25 _ rfl (.agg (enA en0)) (fun _ => by kernel_rfl) ?_; go_frame) | (refine wpl_run (by rfl) (.bool true) (exec_eql_entry tyEn _ _ _ rfl (en0) (en0) rfl rfl en0_len en0_len true (decide_eq_true rfl)) ?_; go_frame))
  go_ret
  exact ⟨rfl, HB6.out⟩

set_option maxRecDepth 100000 in
set_option maxHeartbeats 800000 in
theorem walkReads_ok (f : FrR) (w : World) (hl : f.b.length = 44) (hb : ∀ c ∈ f.b, c < 256) (hs : f.s ≤ 9223372036854775807) (ho : rofB f.k f.b = true) (hf : rightB f = true) (h1 : ¬ f.s < (doc f.k f.b).f) (h2 : ¬ (doc f.k f.b).f + (doc f.k f.b).c ≤ f.s) :
    Calls Try.prog 5 #[.agg (frA f)] w fun en w' => en = .returned (.bool true) ∧ Below w.heap.size w w' := by
  have HL := Lib.hid hl
  have Hb := Lib.hid hb
  have Hs := Lib.hid hs
  have hz0 := zero_en
  have hz1 := zero_e4
  have hz2 := zero_fr
  have HX0 : Hid (Blk (w.alloc (Obj.cells (frA f) 41)) w.heap.size 41 (frA f)) := Lib.hid (Blk.new w 41 (frA f))
  have HB0 : Hid (Below w.heap.size w (w.alloc (Obj.cells (frA f) 41))) := Lib.hid (below_alloc _ _)
  have hh : rdB f = true := by rw [rdB_eq f hl hb, ho, hf]; unfold amB; rw [decide_eq_true (show (doc f.k f.b).f ≤ f.s by omega), decide_eq_true (show f.s - (doc f.k f.b).f < (doc f.k f.b).c by omega)]; rfl
  obtain ⟨hr1, hr2, hr3⟩ := frm_rd hh hl hb
  obtain ⟨D, hD⟩ : ∃ D, rofV f.k f.b = D := ⟨_, rfl⟩
  have hdl : D.y.length = 32 := by rw [← hD, rofV_ok ho]; exact doc_len hl
  have hdd : doc f.k f.b = D := by rw [← hD, rofV_ok ho]
  have hdr : rB D = true := by rw [← hdd]; exact ho
  have hrr := rB_ranges hdr
  have Hd := Lib.hid hD
  have Ho := Lib.hid ho
  have HDl := Lib.hid hdl
  have hdb : ∀ c ∈ D.y, c < 256 := by rw [← hdd]; exact doc_lt hb
  rw [hdd] at h1 h2
  rw [hr1, hD] at hr2 hr3
  have Hv : Hid (rdV f = D) := Lib.hid (hr1.trans hD)
  have He := Lib.hid (rdE_ok hh)
  have HDb := Lib.hid hdb
  have Hfe := Lib.hid (frmE_ok hr2)
  have Hfv := Lib.hid hr3
  have Hf := Lib.hid hf
  have D1 : Hid (decide (f.s < D.f) = false) := Lib.hid (decide_eq_false h1)
  have D2 : Hid (decide (D.f + D.c ≤ f.s) = false) := Lib.hid (decide_eq_false h2)
  have hwr : IntKind.i64.wrap (D.f + D.c) = D.f + D.c := by rw [IntKind.wrap_i64]; omega
  have HW := Lib.hid hwr
  clear hwr
  clear hl hb hs ho hD hdl hdd hdr hrr hf hh h1 h2 hr1 hr2 hr3 hdb
  go_enter Try.func5, Try.ntmps5
  go_wp2_with fail
  refine (anchor4_any _).mono ?_
  rintro en w1 ⟨rfl, hb1⟩
  have HX1 := Lib.hid (HX0.out.below hb1 HX0.out.lt)
  have HB1 := Lib.hid (bthen HB0.out hb1)
  clear hb1 HB0 HX0
  go_wp2_with (first | (refine wpl_load rfl _ rfl (w.heap.size) rfl _ _ _ HX1.out Try.underlying41 rfl (info_frA HL.out) ?_; go_frame))
  refine (eread_any f _ HL.out Hb.out Hs.out).mono ?_
  rintro en w2 ⟨rfl, hb2⟩
  rw [Hv.out, He.out]
  have HX2 := Lib.hid (HX1.out.below hb2 HX1.out.lt)
  have HB2 := Lib.hid (bthen HB1.out hb2)
  clear hb2 HB1 HX1
  have HN3 : Hid (Blk (w2.alloc (Obj.cells (enA (D)) 25)) w2.heap.size 25 (enA (D))) := Lib.hid (Blk.new _ _ _)
  have HX3 := Lib.hid (HX2.out.alloc (Obj.cells (enA (D)) 25))
  have HB3 := Lib.hid (bthen HB2.out (below_alloc w2 (Obj.cells (enA (D)) 25)))
  clear HB2 HX2
  have c0 := (HX3.out.cell 0).trans (frA_at0 f)
  go_wp2_with (first | (refine wpl_store_new rfl _ _ rfl (enA (D)) w2 25 (enA en0) rfl rfl rfl (info_enA HDl.out) ((enA_size en0_len).trans (enA_size HDl.out).symm) enA_one ?_; go_frame) | (refine wpl_load_mid (by rfl) 26 _ rfl (w.heap.size) 5 rfl f.b _ (fr_range HX3.out) Try.underlying26 rfl (info_44_l HL.out) ?_; go_frame))
  clear c0 hz0
  generalize w2.alloc (Obj.cells (enA (D)) 25) = w3 at *
  refine (rof4_any f.k f.b _ HL.out Hb.out).mono ?_
  rintro en w4 ⟨rfl, hb4⟩
  rw [Hd.out, Ho.out]
  have HX4 := Lib.hid (HX3.out.below hb4 HX3.out.lt)
  have HN4 := Lib.hid (HN3.out.below hb4 HN3.out.lt)
  have HB4 := Lib.hid (bthen HB3.out hb4)
  clear hb4 HB3 HX3 HN3
  have HM5 : Hid (Blk (w4.alloc (Obj.cells (enA (D)) 32)) w4.heap.size 32 (enA (D))) := Lib.hid (Blk.new _ _ _)
  have HX5 := Lib.hid (HX4.out.alloc (Obj.cells (enA (D)) 32))
  have HN5 := Lib.hid (HN4.out.alloc (Obj.cells (enA (D)) 32))
  have HB5 := Lib.hid (bthen HB4.out (below_alloc w4 (Obj.cells (enA (D)) 32)))
  clear HB4 HX4 HN4
  go_upto_region 5 with (refine wpl_store_new rfl _ _ rfl (enA (D)) w4 32 (enA en0) rfl rfl rfl (info_e4A HDl.out) ((enA_size en0_len).trans (enA_size HDl.out).symm) enA_one ?_; go_frame)
  generalize w4.alloc (Obj.cells (enA (D)) 32) = w5 at *
  go_upto_region 6 with (first | (refine wpl_load_g (by rfl) _ rfl (w.heap.size) rfl _ _ _ HX5.out Try.underlying41 rfl (info_frA HL.out) ?_; go_frame))
  refine (rright_any f _).mono ?_
  rintro en w6 ⟨rfl, hb6⟩
  rw [Hf.out]
  have HX6 := Lib.hid (HX5.out.below hb6 HX5.out.lt)
  have HN6 := Lib.hid (HN5.out.below hb6 HN5.out.lt)
  have HM6 := Lib.hid (HM5.out.below hb6 HM5.out.lt)
  have HB6 := Lib.hid (bthen HB5.out hb6)
  clear hb6 HB5 HX5 HN5 HM5
  have c1 := (HM6.out.cell 1).trans (enA_at1 D)
  have c2 := (HM6.out.cell 2).trans (enA_at2 D)
  have c4 := (HX6.out.cell 4).trans (frA_at4 f)
  have b1 := (HX6.out.cell 1).trans (frA_at1 f)
  have b2 := (HX6.out.cell 2).trans (frA_at2 f)
  have b3 := (HX6.out.cell 3).trans (frA_at3 f)
  have d1 := D1.out
  have d2 := D2.out
  have d3 := HW.out
  go_upto_region 7 with fail
  go_wp2_with (first | (refine wpl_load rfl _ rfl (w2.heap.size) rfl _ _ _ HN6.out Try.underlying25 rfl (info_enA HDl.out) ?_; go_frame))
  clear c1 c2 c4 b1 b2 b3 d1 d2 d3 hz1
  refine (eframe_any D f.z f.o f.e f.s _ HDl.out HDb.out Hs.out).mono ?_
  rintro en w7 ⟨rfl, hb7⟩
  rw [Hfv.out, Hfe.out]
  have HX7 := Lib.hid (HX6.out.below hb7 HX6.out.lt)
  have HN7 := Lib.hid (HN6.out.below hb7 HN6.out.lt)
  have HM7 := Lib.hid (HM6.out.below hb7 HM6.out.lt)
  have HB7 := Lib.hid (bthen HB6.out hb7)
  clear hb7 HB6 HX6 HN6 HM6
  have HR8 : Hid (Blk (w7.alloc (Obj.cells (frA f) 41)) w7.heap.size 41 (frA f)) := Lib.hid (Blk.new _ _ _)
  have HX8 := Lib.hid (HX7.out.alloc (Obj.cells (frA f) 41))
  have HN8 := Lib.hid (HN7.out.alloc (Obj.cells (frA f) 41))
  have HM8 := Lib.hid (HM7.out.alloc (Obj.cells (frA f) 41))
  have HB8 := Lib.hid (bthen HB7.out (below_alloc w7 (Obj.cells (frA f) 41)))
  clear HB7 HX7 HN7 HM7
  go_wp2_with (first | (refine wpl_store_new rfl _ _ rfl (frA (f)) w7 41 (frA fr0) rfl rfl rfl (info_frA HL.out) ((frA_size fr0_len).trans (frA_size HL.out).symm) frA_one ?_; go_frame))
  clear hz2
  generalize w7.alloc (Obj.cells (frA f) 41) = w8 at *
  refine wp_region_held (S := fun w' => Below w8.heap.size w8 w') (by kernel_rfl) ?_
  change wpAnyH _ _ _ _ _ _ _ _ (World.drew _)
  have hS : Below w8.heap.size w8 w8.drew := (Below.refl _ _).drew
  refine takeH hS (i := 0) (d := 68) (v := .int .i64 0) rfl rfl (by kernel_rfl) (by kernel_rfl) (by kernel_rfl) (fun _ _ _ h => h) (Or.inl ⟨by kernel_rfl, fun w' hw' => by kernel_rfl⟩) ?_
  refine takeH hS (i := 1) (d := 69) (v := .bool true) rfl rfl (by kernel_rfl) (by kernel_rfl) (by kernel_rfl) (fun _ _ _ h => h) (Or.inl ⟨by kernel_rfl, fun w' hw' => by kernel_rfl⟩) ?_
  refine takeH hS (i := 2) (d := 70) (v := .bool true) rfl rfl (by kernel_rfl) (by kernel_rfl) (by kernel_rfl) (fun _ _ _ h => h) (Or.inl ⟨by kernel_rfl, fun w' hw' => by kernel_rfl⟩) ?_
  go_frame
  refine takeH hS (i := 3) (d := 71) (v := .agg (enA D)) rfl rfl (by kernel_rfl) (by kernel_rfl) (by kernel_rfl) (fun _ _ _ h => h) (Or.inl ⟨by kernel_rfl, fun w' hw' => by exact exec_load _ rfl (w2.heap.size) rfl (HN8.out.below hw' HN8.out.lt) Try.underlying25 rfl (info_enA HDl.out)⟩) ?_
  refine takeH hS (i := 5) (d := 73) (v := .agg (enA D)) rfl rfl (by kernel_rfl) (by kernel_rfl) (by kernel_rfl) (fun _ _ _ h => h) (Or.inl ⟨by kernel_rfl, fun w' hw' => by exact exec_load _ rfl (w4.heap.size) rfl (HM8.out.below hw' HM8.out.lt) Try.underlying32 rfl (info_e4A HDl.out)⟩) ?_
  go_frame
  refine nextH (i := 4) rfl (by kernel_rfl) (by kernel_rfl) (fun K' hK => ?_)
  go_wp2_with fail
  refine (of_any D _ HDl.out).mono ?_
  rintro en w9 ⟨rfl, hb9⟩
  have hS2 : Below w8.heap.size w8 w9 := bel_next hS hb9
  refine hK.out _ _ ⟨hS2, ?_⟩
  clear hK K' hb9
  refine takeH hS2 (i := 6) (d := 74) (v := .bool true) rfl rfl (by kernel_rfl) (by kernel_rfl) (by kernel_rfl) (fun _ _ _ h => h) (Or.inl ⟨by kernel_rfl, fun w' hw' => by exact exec_eql_entry tyE4 _ _ _ rfl D D rfl rfl HDl.out HDl.out true (decide_eq_true rfl)⟩) ?_
  go_frame
  refine takeH hS2 (i := 7) (d := 75) (v := .bool true) rfl rfl (by kernel_rfl) (by kernel_rfl) (by kernel_rfl) (fun _ _ _ h => h) (Or.inl ⟨by kernel_rfl, fun w' hw' => by kernel_rfl⟩) ?_
  refine takeH hS2 (i := 8) (d := 76) (v := .bool true) rfl rfl (by kernel_rfl) (by kernel_rfl) (by kernel_rfl) (fun _ _ _ h => h) (Or.inl ⟨by kernel_rfl, fun w' hw' => by kernel_rfl⟩) ?_
  go_frame
  refine takeH hS2 (i := 9) (d := 77) (v := .agg (frA f)) rfl rfl (by kernel_rfl) (by kernel_rfl) (by kernel_rfl) (fun _ _ _ h => h) (Or.inl ⟨by kernel_rfl, fun w' hw' => by exact exec_load _ rfl (w7.heap.size) rfl (HR8.out.below hw' HR8.out.lt) Try.underlying41 rfl (info_frA HL.out)⟩) ?_
  refine takeH hS2 (i := 10) (d := 78) (v := .agg (frA f)) rfl rfl (by kernel_rfl) (by kernel_rfl) (by kernel_rfl) (fun _ _ _ h => h) (Or.inl ⟨by kernel_rfl, fun w' hw' => by exact exec_load _ rfl (w.heap.size) rfl (HX8.out.below hw' HX8.out.lt) Try.underlying41 rfl (info_frA HL.out)⟩) ?_
  refine takeH hS2 (i := 11) (d := 79) (v := .bool true) rfl rfl (by kernel_rfl) (by kernel_rfl) (by kernel_rfl) (fun _ _ _ h => h) (Or.inl ⟨by kernel_rfl, fun w' hw' => by exact exec_eql_frame tyFr _ _ _ rfl f f rfl rfl HL.out HL.out true (eq_self _)⟩) ?_
  go_frame
  refine takeH hS2 (i := 12) (d := 80) (v := .bool true) rfl rfl (by kernel_rfl) (by kernel_rfl) (by kernel_rfl) (fun _ _ _ h => h) (Or.inl ⟨by kernel_rfl, fun w' hw' => by kernel_rfl⟩) ?_
  refine takeH hS2 (i := 13) (d := 81) (v := .bool true) rfl rfl (by kernel_rfl) (by kernel_rfl) (by kernel_rfl) (fun _ _ _ h => h) (Or.inl ⟨by kernel_rfl, fun w' hw' => by kernel_rfl⟩) ?_
  go_frame
  refine takeH hS2 (i := 14) (d := 82) (v := .int .i64 0) rfl rfl (by kernel_rfl) (by kernel_rfl) (by kernel_rfl) (fun _ _ _ h => h) (Or.inl ⟨by kernel_rfl, fun w' hw' => by kernel_rfl⟩) ?_
  refine takeH hS2 (i := 15) (d := 83) (v := .bool true) rfl rfl (by kernel_rfl) (by kernel_rfl) (by kernel_rfl) (fun _ _ _ h => h) (Or.inl ⟨by kernel_rfl, fun w' hw' => by kernel_rfl⟩) ?_
  refine takeH hS2 (i := 16) (d := 84) (v := .bool true) rfl rfl (by kernel_rfl) (by kernel_rfl) (by kernel_rfl) (fun _ _ _ h => h) (Or.inl ⟨by kernel_rfl, fun w' hw' => by kernel_rfl⟩) ?_
  refine takeH hS2 (i := 17) (d := 2) (v := .bool true) rfl rfl (by kernel_rfl) (by kernel_rfl) (by kernel_rfl) (fun _ _ _ h => h) (Or.inl ⟨by kernel_rfl, fun w' hw' => by kernel_rfl⟩) ?_
  refine wpAnyH_done (by kernel_rfl) ?_ _
  go_frame
  go_wp2_with fail
  go_ret
  exact ⟨rfl, bthen HB8.out hS2⟩

theorem walkEntryReads (f : FrR) (w : World) (h : FrOk f) :
    Calls Try.prog 5 #[.agg (frA f)] w fun en w' => en = .returned (.bool true) ∧ Below w.heap.size w w' := by
  have hs := (bounds_i64 h.ws).2
  cases ho : rofB f.k f.b with
  | false => exact walkReads_o f w h.len h.lt hs ho
  | true =>
    cases hf : rightB f with
    | false => exact walkReads_f f w h.len h.lt hs ho hf
    | true =>
      by_cases h1 : f.s < (doc f.k f.b).f
      · exact walkReads_lo f w h.len h.lt hs ho hf h1
      · by_cases h2 : (doc f.k f.b).f + (doc f.k f.b).c ≤ f.s
        · exact walkReads_hi f w h.len h.lt hs ho hf h1 h2
        · exact walkReads_ok f w h.len h.lt hs ho hf h1 h2

end Go.Proofs.Ytdjnfikacjfkkaa
