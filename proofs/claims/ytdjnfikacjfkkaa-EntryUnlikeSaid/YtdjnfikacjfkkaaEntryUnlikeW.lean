/-
  The walk of EntryUnlike.
-/
import Derived.Test.YtdjnfikacjfkkaaEntryK
namespace Go.Proofs.Ytdjnfikacjfkkaa
open Go.RowKit CrcM
set_option linter.unusedVariables false
set_option linter.unnecessarySimpa false
set_option linter.unusedSimpArgs false

set_option maxRecDepth 100000 in
set_option maxHeartbeats 4000000 in
theorem walkUnlike_ff (a b : EnR) (w : World) (hl : a.y.length = 32) (hb : ∀ c ∈ a.y, c < 256) (hlg : b.y.length = 32) (hbg : ∀ c ∈ b.y, c < 256) (hr : rB a = false) (hrg : rB b = false) :
    Calls Try.prog 6 #[.agg (enA a), .agg (enA b)] w fun en w' => en = .returned (.bool true) ∧ Below w.heap.size w w' := by
  have HL := Lib.hid hl
  have Hb := Lib.hid hb
  have HLg := Lib.hid hlg
  have Hbg := Lib.hid hbg
  have hz0 := zero_44
  have HX0 : Hid (Blk ((w.alloc (Obj.cells (enA a) 25)).alloc (Obj.cells (enA b) 25)) w.heap.size 25 (enA a)) := Lib.hid (Blk.alloc (Blk.new w 25 (enA a)) _)
  have HY0 : Hid (Blk ((w.alloc (Obj.cells (enA a) 25)).alloc (Obj.cells (enA b) 25)) (w.heap.size + 1) 25 (enA b)) := Lib.hid (by
    have h := Blk.new (w.alloc (Obj.cells (enA a) 25)) 25 (enA b)
    rwa [show (w.alloc (Obj.cells (enA a) 25)).heap.size = w.heap.size + 1 by simp] at h)
  have HB0 : Hid (Below w.heap.size w ((w.alloc (Obj.cells (enA a) 25)).alloc (Obj.cells (enA b) 25))) := Lib.hid (bthen (below_alloc _ _) (below_alloc _ _))
  have Hr := Lib.hid hr
  have Hrg := Lib.hid hrg
  clear hr hrg
  clear hl hb hlg hbg
  go_enter Try.func6, Try.ntmps6
  go_wp2_with fail
  refine (anchor4_any _).mono ?_
  rintro en w1 ⟨rfl, hb1⟩
  have HX1 := Lib.hid (HX0.out.below hb1 HX0.out.lt)
  have HY1 := Lib.hid (HY0.out.below hb1 HY0.out.lt)
  have HB1 := Lib.hid (bthen HB0.out hb1)
  clear hb1 HB0 HX0 HY0
  go_wp2_with (first | (refine wpl_load rfl _ rfl (w.heap.size) rfl _ _ _ HX1.out Try.underlying25 rfl (info_enA HL.out) ?_; go_frame))
  refine (body_bad a _ HL.out Hb.out Hr.out).mono ?_
  rintro en w2 ⟨rfl, hb2⟩
  have HX2 := Lib.hid (HX1.out.below hb2 HX1.out.lt)
  have HY2 := Lib.hid (HY1.out.below hb2 HY1.out.lt)
  have HB2 := Lib.hid (bthen HB1.out hb2)
  clear hb2 HB1 HX1 HY1
  have HP3 : Hid (Blk (w2.alloc (Obj.cells (bA (zeros 44)) 26)) w2.heap.size 26 (bA (zeros 44))) := Lib.hid (Blk.new _ _ _)
  have HX3 := Lib.hid (HX2.out.alloc (Obj.cells (bA (zeros 44)) 26))
  have HY3 := Lib.hid (HY2.out.alloc (Obj.cells (bA (zeros 44)) 26))
  have HB3 := Lib.hid (bthen HB2.out (below_alloc w2 (Obj.cells (bA (zeros 44)) 26)))
  clear HB2 HX2 HY2
  go_wp2_with (first | (refine wpl_store_new rfl _ _ rfl (bA (zeros 44)) w2 26 (bA (zeros 44)) rfl rfl rfl (info_44 (zeros_length 44)) ((bA_size _).trans ((zeros_length 44).trans ((bA_size _).trans (zeros_length 44)).symm)) (bA_one _) ?_; go_frame) | (refine wpl_load rfl _ rfl (w.heap.size + 1) rfl _ _ _ HY3.out Try.underlying25 rfl (info_enA HLg.out) ?_; go_frame))
  generalize w2.alloc (Obj.cells (bA (zeros 44)) 26) = w3 at *
  refine (body_bad b _ HLg.out Hbg.out Hrg.out).mono ?_
  rintro en w4 ⟨rfl, hb4⟩
  have HX4 := Lib.hid (HX3.out.below hb4 HX3.out.lt)
  have HY4 := Lib.hid (HY3.out.below hb4 HY3.out.lt)
  have HP4 := Lib.hid (HP3.out.below hb4 HP3.out.lt)
  have HB4 := Lib.hid (bthen HB3.out hb4)
  clear hb4 HB3 HX3 HY3 HP3
  have HR5 : Hid (Blk (w4.alloc (Obj.cells (bA (zeros 44)) 26)) w4.heap.size 26 (bA (zeros 44))) := Lib.hid (Blk.new _ _ _)
  have HX5 := Lib.hid (HX4.out.alloc (Obj.cells (bA (zeros 44)) 26))
  have HY5 := Lib.hid (HY4.out.alloc (Obj.cells (bA (zeros 44)) 26))
  have HP5 := Lib.hid (HP4.out.alloc (Obj.cells (bA (zeros 44)) 26))
  have HB5 := Lib.hid (bthen HB4.out (below_alloc w4 (Obj.cells (bA (zeros 44)) 26)))
  clear HB4 HX4 HY4 HP4
  go_wp2_with (first | (refine wpl_store_new rfl _ _ rfl (bA (zeros 44)) w4 26 (bA (zeros 44)) rfl rfl rfl (info_44 (zeros_length 44)) ((bA_size _).trans ((zeros_length 44).trans ((bA_size _).trans (zeros_length 44)).symm)) (bA_one _) ?_; go_frame))
  go_ret
  exact ⟨rfl, HB5.out⟩

set_option maxRecDepth 100000 in
set_option maxHeartbeats 4000000 in
theorem walkUnlike_ft (a b : EnR) (w : World) (hl : a.y.length = 32) (hb : ∀ c ∈ a.y, c < 256) (hlg : b.y.length = 32) (hbg : ∀ c ∈ b.y, c < 256) (hr : rB a = false) (hrg : rB b = true) :
    Calls Try.prog 6 #[.agg (enA a), .agg (enA b)] w fun en w' => en = .returned (.bool true) ∧ Below w.heap.size w w' := by
  have HL := Lib.hid hl
  have Hb := Lib.hid hb
  have HLg := Lib.hid hlg
  have Hbg := Lib.hid hbg
  have hz0 := zero_44
  have HX0 : Hid (Blk ((w.alloc (Obj.cells (enA a) 25)).alloc (Obj.cells (enA b) 25)) w.heap.size 25 (enA a)) := Lib.hid (Blk.alloc (Blk.new w 25 (enA a)) _)
  have HY0 : Hid (Blk ((w.alloc (Obj.cells (enA a) 25)).alloc (Obj.cells (enA b) 25)) (w.heap.size + 1) 25 (enA b)) := Lib.hid (by
    have h := Blk.new (w.alloc (Obj.cells (enA a) 25)) 25 (enA b)
    rwa [show (w.alloc (Obj.cells (enA a) 25)).heap.size = w.heap.size + 1 by simp] at h)
  have HB0 : Hid (Below w.heap.size w ((w.alloc (Obj.cells (enA a) 25)).alloc (Obj.cells (enA b) 25))) := Lib.hid (bthen (below_alloc _ _) (below_alloc _ _))
  have Hr := Lib.hid hr
  have Hrg := Lib.hid hrg
  clear hr hrg
  clear hl hb hlg hbg
  go_enter Try.func6, Try.ntmps6
  go_wp2_with fail
  refine (anchor4_any _).mono ?_
  rintro en w1 ⟨rfl, hb1⟩
  have HX1 := Lib.hid (HX0.out.below hb1 HX0.out.lt)
  have HY1 := Lib.hid (HY0.out.below hb1 HY0.out.lt)
  have HB1 := Lib.hid (bthen HB0.out hb1)
  clear hb1 HB0 HX0 HY0
  go_wp2_with (first | (refine wpl_load rfl _ rfl (w.heap.size) rfl _ _ _ HX1.out Try.underlying25 rfl (info_enA HL.out) ?_; go_frame))
  refine (body_bad a _ HL.out Hb.out Hr.out).mono ?_
  rintro en w2 ⟨rfl, hb2⟩
  have HX2 := Lib.hid (HX1.out.below hb2 HX1.out.lt)
  have HY2 := Lib.hid (HY1.out.below hb2 HY1.out.lt)
  have HB2 := Lib.hid (bthen HB1.out hb2)
  clear hb2 HB1 HX1 HY1
  have HP3 : Hid (Blk (w2.alloc (Obj.cells (bA (zeros 44)) 26)) w2.heap.size 26 (bA (zeros 44))) := Lib.hid (Blk.new _ _ _)
  have HX3 := Lib.hid (HX2.out.alloc (Obj.cells (bA (zeros 44)) 26))
  have HY3 := Lib.hid (HY2.out.alloc (Obj.cells (bA (zeros 44)) 26))
  have HB3 := Lib.hid (bthen HB2.out (below_alloc w2 (Obj.cells (bA (zeros 44)) 26)))
  clear HB2 HX2 HY2
  go_wp2_with (first | (refine wpl_store_new rfl _ _ rfl (bA (zeros 44)) w2 26 (bA (zeros 44)) rfl rfl rfl (info_44 (zeros_length 44)) ((bA_size _).trans ((zeros_length 44).trans ((bA_size _).trans (zeros_length 44)).symm)) (bA_one _) ?_; go_frame) | (refine wpl_load rfl _ rfl (w.heap.size + 1) rfl _ _ _ HY3.out Try.underlying25 rfl (info_enA HLg.out) ?_; go_frame))
  generalize w2.alloc (Obj.cells (bA (zeros 44)) 26) = w3 at *
  refine (body_ok b _ HLg.out Hbg.out Hrg.out).mono ?_
  rintro en w4 ⟨rfl, hb4⟩
  have HX4 := Lib.hid (HX3.out.below hb4 HX3.out.lt)
  have HY4 := Lib.hid (HY3.out.below hb4 HY3.out.lt)
  have HP4 := Lib.hid (HP3.out.below hb4 HP3.out.lt)
  have HB4 := Lib.hid (bthen HB3.out hb4)
  clear hb4 HB3 HX3 HY3 HP3
  have HR5 : Hid (Blk (w4.alloc (Obj.cells (bA (ebod b)) 26)) w4.heap.size 26 (bA (ebod b))) := Lib.hid (Blk.new _ _ _)
  have HX5 := Lib.hid (HX4.out.alloc (Obj.cells (bA (ebod b)) 26))
  have HY5 := Lib.hid (HY4.out.alloc (Obj.cells (bA (ebod b)) 26))
  have HP5 := Lib.hid (HP4.out.alloc (Obj.cells (bA (ebod b)) 26))
  have HB5 := Lib.hid (bthen HB4.out (below_alloc w4 (Obj.cells (bA (ebod b)) 26)))
  clear HB4 HX4 HY4 HP4
  go_wp2_with (first | (refine wpl_store_new rfl _ _ rfl (bA (ebod b)) w4 26 (bA (zeros 44)) rfl rfl rfl (info_44 (ebod_length HLg.out)) ((bA_size _).trans ((zeros_length 44).trans ((bA_size _).trans (ebod_length HLg.out)).symm)) (bA_one _) ?_; go_frame))
  go_ret
  exact ⟨rfl, HB5.out⟩

set_option maxRecDepth 100000 in
set_option maxHeartbeats 4000000 in
theorem walkUnlike_tf (a b : EnR) (w : World) (hl : a.y.length = 32) (hb : ∀ c ∈ a.y, c < 256) (hlg : b.y.length = 32) (hbg : ∀ c ∈ b.y, c < 256) (hr : rB a = true) (hrg : rB b = false) :
    Calls Try.prog 6 #[.agg (enA a), .agg (enA b)] w fun en w' => en = .returned (.bool true) ∧ Below w.heap.size w w' := by
  have HL := Lib.hid hl
  have Hb := Lib.hid hb
  have HLg := Lib.hid hlg
  have Hbg := Lib.hid hbg
  have hz0 := zero_44
  have HX0 : Hid (Blk ((w.alloc (Obj.cells (enA a) 25)).alloc (Obj.cells (enA b) 25)) w.heap.size 25 (enA a)) := Lib.hid (Blk.alloc (Blk.new w 25 (enA a)) _)
  have HY0 : Hid (Blk ((w.alloc (Obj.cells (enA a) 25)).alloc (Obj.cells (enA b) 25)) (w.heap.size + 1) 25 (enA b)) := Lib.hid (by
    have h := Blk.new (w.alloc (Obj.cells (enA a) 25)) 25 (enA b)
    rwa [show (w.alloc (Obj.cells (enA a) 25)).heap.size = w.heap.size + 1 by simp] at h)
  have HB0 : Hid (Below w.heap.size w ((w.alloc (Obj.cells (enA a) 25)).alloc (Obj.cells (enA b) 25))) := Lib.hid (bthen (below_alloc _ _) (below_alloc _ _))
  have Hr := Lib.hid hr
  have Hrg := Lib.hid hrg
  clear hr hrg
  clear hl hb hlg hbg
  go_enter Try.func6, Try.ntmps6
  go_wp2_with fail
  refine (anchor4_any _).mono ?_
  rintro en w1 ⟨rfl, hb1⟩
  have HX1 := Lib.hid (HX0.out.below hb1 HX0.out.lt)
  have HY1 := Lib.hid (HY0.out.below hb1 HY0.out.lt)
  have HB1 := Lib.hid (bthen HB0.out hb1)
  clear hb1 HB0 HX0 HY0
  go_wp2_with (first | (refine wpl_load rfl _ rfl (w.heap.size) rfl _ _ _ HX1.out Try.underlying25 rfl (info_enA HL.out) ?_; go_frame))
  refine (body_ok a _ HL.out Hb.out Hr.out).mono ?_
  rintro en w2 ⟨rfl, hb2⟩
  have HX2 := Lib.hid (HX1.out.below hb2 HX1.out.lt)
  have HY2 := Lib.hid (HY1.out.below hb2 HY1.out.lt)
  have HB2 := Lib.hid (bthen HB1.out hb2)
  clear hb2 HB1 HX1 HY1
  have HP3 : Hid (Blk (w2.alloc (Obj.cells (bA (ebod a)) 26)) w2.heap.size 26 (bA (ebod a))) := Lib.hid (Blk.new _ _ _)
  have HX3 := Lib.hid (HX2.out.alloc (Obj.cells (bA (ebod a)) 26))
  have HY3 := Lib.hid (HY2.out.alloc (Obj.cells (bA (ebod a)) 26))
  have HB3 := Lib.hid (bthen HB2.out (below_alloc w2 (Obj.cells (bA (ebod a)) 26)))
  clear HB2 HX2 HY2
  go_wp2_with (first | (refine wpl_store_new rfl _ _ rfl (bA (ebod a)) w2 26 (bA (zeros 44)) rfl rfl rfl (info_44 (ebod_length HL.out)) ((bA_size _).trans ((zeros_length 44).trans ((bA_size _).trans (ebod_length HL.out)).symm)) (bA_one _) ?_; go_frame) | (refine wpl_load rfl _ rfl (w.heap.size + 1) rfl _ _ _ HY3.out Try.underlying25 rfl (info_enA HLg.out) ?_; go_frame))
  generalize w2.alloc (Obj.cells (bA (ebod a)) 26) = w3 at *
  refine (body_bad b _ HLg.out Hbg.out Hrg.out).mono ?_
  rintro en w4 ⟨rfl, hb4⟩
  have HX4 := Lib.hid (HX3.out.below hb4 HX3.out.lt)
  have HY4 := Lib.hid (HY3.out.below hb4 HY3.out.lt)
  have HP4 := Lib.hid (HP3.out.below hb4 HP3.out.lt)
  have HB4 := Lib.hid (bthen HB3.out hb4)
  clear hb4 HB3 HX3 HY3 HP3
  have HR5 : Hid (Blk (w4.alloc (Obj.cells (bA (zeros 44)) 26)) w4.heap.size 26 (bA (zeros 44))) := Lib.hid (Blk.new _ _ _)
  have HX5 := Lib.hid (HX4.out.alloc (Obj.cells (bA (zeros 44)) 26))
  have HY5 := Lib.hid (HY4.out.alloc (Obj.cells (bA (zeros 44)) 26))
  have HP5 := Lib.hid (HP4.out.alloc (Obj.cells (bA (zeros 44)) 26))
  have HB5 := Lib.hid (bthen HB4.out (below_alloc w4 (Obj.cells (bA (zeros 44)) 26)))
  clear HB4 HX4 HY4 HP4
  go_wp2_with (first | (refine wpl_store_new rfl _ _ rfl (bA (zeros 44)) w4 26 (bA (zeros 44)) rfl rfl rfl (info_44 (zeros_length 44)) ((bA_size _).trans ((zeros_length 44).trans ((bA_size _).trans (zeros_length 44)).symm)) (bA_one _) ?_; go_frame))
  go_ret
  exact ⟨rfl, HB5.out⟩

set_option maxRecDepth 100000 in
set_option maxHeartbeats 4000000 in
theorem walkUnlike_kk (a b : EnR) (w : World) (hl : a.y.length = 32) (hb : ∀ c ∈ a.y, c < 256) (hlg : b.y.length = 32) (hbg : ∀ c ∈ b.y, c < 256) (hr : rB a = true) (hrg : rB b = true) (hk : a.k ≠ b.k) :
    Calls Try.prog 6 #[.agg (enA a), .agg (enA b)] w fun en w' => en = .returned (.bool true) ∧ Below w.heap.size w w' := by
  have HL := Lib.hid hl
  have Hb := Lib.hid hb
  have HLg := Lib.hid hlg
  have Hbg := Lib.hid hbg
  have hz0 := zero_44
  have HX0 : Hid (Blk ((w.alloc (Obj.cells (enA a) 25)).alloc (Obj.cells (enA b) 25)) w.heap.size 25 (enA a)) := Lib.hid (Blk.alloc (Blk.new w 25 (enA a)) _)
  have HY0 : Hid (Blk ((w.alloc (Obj.cells (enA a) 25)).alloc (Obj.cells (enA b) 25)) (w.heap.size + 1) 25 (enA b)) := Lib.hid (by
    have h := Blk.new (w.alloc (Obj.cells (enA a) 25)) 25 (enA b)
    rwa [show (w.alloc (Obj.cells (enA a) 25)).heap.size = w.heap.size + 1 by simp] at h)
  have HB0 : Hid (Below w.heap.size w ((w.alloc (Obj.cells (enA a) 25)).alloc (Obj.cells (enA b) 25))) := Lib.hid (bthen (below_alloc _ _) (below_alloc _ _))
  have Hr := Lib.hid hr
  have Hrg := Lib.hid hrg
  have Hk := Lib.hid hk
  clear hr hrg hk
  clear hl hb hlg hbg
  go_enter Try.func6, Try.ntmps6
  go_wp2_with fail
  refine (anchor4_any _).mono ?_
  rintro en w1 ⟨rfl, hb1⟩
  have HX1 := Lib.hid (HX0.out.below hb1 HX0.out.lt)
  have HY1 := Lib.hid (HY0.out.below hb1 HY0.out.lt)
  have HB1 := Lib.hid (bthen HB0.out hb1)
  clear hb1 HB0 HX0 HY0
  go_wp2_with (first | (refine wpl_load rfl _ rfl (w.heap.size) rfl _ _ _ HX1.out Try.underlying25 rfl (info_enA HL.out) ?_; go_frame))
  refine (body_ok a _ HL.out Hb.out Hr.out).mono ?_
  rintro en w2 ⟨rfl, hb2⟩
  have HX2 := Lib.hid (HX1.out.below hb2 HX1.out.lt)
  have HY2 := Lib.hid (HY1.out.below hb2 HY1.out.lt)
  have HB2 := Lib.hid (bthen HB1.out hb2)
  clear hb2 HB1 HX1 HY1
  have HP3 : Hid (Blk (w2.alloc (Obj.cells (bA (ebod a)) 26)) w2.heap.size 26 (bA (ebod a))) := Lib.hid (Blk.new _ _ _)
  have HX3 := Lib.hid (HX2.out.alloc (Obj.cells (bA (ebod a)) 26))
  have HY3 := Lib.hid (HY2.out.alloc (Obj.cells (bA (ebod a)) 26))
  have HB3 := Lib.hid (bthen HB2.out (below_alloc w2 (Obj.cells (bA (ebod a)) 26)))
  clear HB2 HX2 HY2
  go_wp2_with (first | (refine wpl_store_new rfl _ _ rfl (bA (ebod a)) w2 26 (bA (zeros 44)) rfl rfl rfl (info_44 (ebod_length HL.out)) ((bA_size _).trans ((zeros_length 44).trans ((bA_size _).trans (ebod_length HL.out)).symm)) (bA_one _) ?_; go_frame) | (refine wpl_load rfl _ rfl (w.heap.size + 1) rfl _ _ _ HY3.out Try.underlying25 rfl (info_enA HLg.out) ?_; go_frame))
  generalize w2.alloc (Obj.cells (bA (ebod a)) 26) = w3 at *
  refine (body_ok b _ HLg.out Hbg.out Hrg.out).mono ?_
  rintro en w4 ⟨rfl, hb4⟩
  have HX4 := Lib.hid (HX3.out.below hb4 HX3.out.lt)
  have HY4 := Lib.hid (HY3.out.below hb4 HY3.out.lt)
  have HP4 := Lib.hid (HP3.out.below hb4 HP3.out.lt)
  have HB4 := Lib.hid (bthen HB3.out hb4)
  clear hb4 HB3 HX3 HY3 HP3
  have HR5 : Hid (Blk (w4.alloc (Obj.cells (bA (ebod b)) 26)) w4.heap.size 26 (bA (ebod b))) := Lib.hid (Blk.new _ _ _)
  have HX5 := Lib.hid (HX4.out.alloc (Obj.cells (bA (ebod b)) 26))
  have HY5 := Lib.hid (HY4.out.alloc (Obj.cells (bA (ebod b)) 26))
  have HP5 := Lib.hid (HP4.out.alloc (Obj.cells (bA (ebod b)) 26))
  have HB5 := Lib.hid (bthen HB4.out (below_alloc w4 (Obj.cells (bA (ebod b)) 26)))
  clear HB4 HX4 HY4 HP4
  have c0 := (HX5.out.cell 0).trans (enA_at0 a)
  have d0 := (HY5.out.cell 0).trans (enA_at0 b)
  have dk : (a.k != b.k) = true := by rw [bne_iff_ne]; exact Hk.out
  go_wp2_with (first | (refine wpl_store_new rfl _ _ rfl (bA (ebod b)) w4 26 (bA (zeros 44)) rfl rfl rfl (info_44 (ebod_length HLg.out)) ((bA_size _).trans ((zeros_length 44).trans ((bA_size _).trans (ebod_length HLg.out)).symm)) (bA_one _) ?_; go_frame))
  go_ret
  exact ⟨rfl, HB5.out⟩

set_option maxRecDepth 100000 in
set_option maxHeartbeats 4000000 in
theorem walkUnlike_eq (a b : EnR) (w : World) (hl : a.y.length = 32) (hb : ∀ c ∈ a.y, c < 256) (hlg : b.y.length = 32) (hbg : ∀ c ∈ b.y, c < 256) (hr : rB a = true) (hrg : rB b = true) (hk : a.k = b.k) (he : a = b) :
    Calls Try.prog 6 #[.agg (enA a), .agg (enA b)] w fun en w' => en = .returned (.bool true) ∧ Below w.heap.size w w' := by
  have HL := Lib.hid hl
  have Hb := Lib.hid hb
  have HLg := Lib.hid hlg
  have Hbg := Lib.hid hbg
  have hz0 := zero_44
  have HX0 : Hid (Blk ((w.alloc (Obj.cells (enA a) 25)).alloc (Obj.cells (enA b) 25)) w.heap.size 25 (enA a)) := Lib.hid (Blk.alloc (Blk.new w 25 (enA a)) _)
  have HY0 : Hid (Blk ((w.alloc (Obj.cells (enA a) 25)).alloc (Obj.cells (enA b) 25)) (w.heap.size + 1) 25 (enA b)) := Lib.hid (by
    have h := Blk.new (w.alloc (Obj.cells (enA a) 25)) 25 (enA b)
    rwa [show (w.alloc (Obj.cells (enA a) 25)).heap.size = w.heap.size + 1 by simp] at h)
  have HB0 : Hid (Below w.heap.size w ((w.alloc (Obj.cells (enA a) 25)).alloc (Obj.cells (enA b) 25))) := Lib.hid (bthen (below_alloc _ _) (below_alloc _ _))
  have Hr := Lib.hid hr
  have Hrg := Lib.hid hrg
  have Hk := Lib.hid hk
  have Hd1 : Hid (decide (ebod a = ebod b) = true) := Lib.hid (decide_eq_true (by rw [he]))
  have Hd2 : Hid (decide (a = b) = true) := Lib.hid (decide_eq_true he)
  clear hr hrg hk he
  clear hl hb hlg hbg
  go_enter Try.func6, Try.ntmps6
  go_wp2_with fail
  refine (anchor4_any _).mono ?_
  rintro en w1 ⟨rfl, hb1⟩
  have HX1 := Lib.hid (HX0.out.below hb1 HX0.out.lt)
  have HY1 := Lib.hid (HY0.out.below hb1 HY0.out.lt)
  have HB1 := Lib.hid (bthen HB0.out hb1)
  clear hb1 HB0 HX0 HY0
  go_wp2_with (first | (refine wpl_load rfl _ rfl (w.heap.size) rfl _ _ _ HX1.out Try.underlying25 rfl (info_enA HL.out) ?_; go_frame))
  refine (body_ok a _ HL.out Hb.out Hr.out).mono ?_
  rintro en w2 ⟨rfl, hb2⟩
  have HX2 := Lib.hid (HX1.out.below hb2 HX1.out.lt)
  have HY2 := Lib.hid (HY1.out.below hb2 HY1.out.lt)
  have HB2 := Lib.hid (bthen HB1.out hb2)
  clear hb2 HB1 HX1 HY1
  have HP3 : Hid (Blk (w2.alloc (Obj.cells (bA (ebod a)) 26)) w2.heap.size 26 (bA (ebod a))) := Lib.hid (Blk.new _ _ _)
  have HX3 := Lib.hid (HX2.out.alloc (Obj.cells (bA (ebod a)) 26))
  have HY3 := Lib.hid (HY2.out.alloc (Obj.cells (bA (ebod a)) 26))
  have HB3 := Lib.hid (bthen HB2.out (below_alloc w2 (Obj.cells (bA (ebod a)) 26)))
  clear HB2 HX2 HY2
  go_wp2_with (first | (refine wpl_store_new rfl _ _ rfl (bA (ebod a)) w2 26 (bA (zeros 44)) rfl rfl rfl (info_44 (ebod_length HL.out)) ((bA_size _).trans ((zeros_length 44).trans ((bA_size _).trans (ebod_length HL.out)).symm)) (bA_one _) ?_; go_frame) | (refine wpl_load rfl _ rfl (w.heap.size + 1) rfl _ _ _ HY3.out Try.underlying25 rfl (info_enA HLg.out) ?_; go_frame))
  generalize w2.alloc (Obj.cells (bA (ebod a)) 26) = w3 at *
  refine (body_ok b _ HLg.out Hbg.out Hrg.out).mono ?_
  rintro en w4 ⟨rfl, hb4⟩
  have HX4 := Lib.hid (HX3.out.below hb4 HX3.out.lt)
  have HY4 := Lib.hid (HY3.out.below hb4 HY3.out.lt)
  have HP4 := Lib.hid (HP3.out.below hb4 HP3.out.lt)
  have HB4 := Lib.hid (bthen HB3.out hb4)
  clear hb4 HB3 HX3 HY3 HP3
  have HR5 : Hid (Blk (w4.alloc (Obj.cells (bA (ebod b)) 26)) w4.heap.size 26 (bA (ebod b))) := Lib.hid (Blk.new _ _ _)
  have HX5 := Lib.hid (HX4.out.alloc (Obj.cells (bA (ebod b)) 26))
  have HY5 := Lib.hid (HY4.out.alloc (Obj.cells (bA (ebod b)) 26))
  have HP5 := Lib.hid (HP4.out.alloc (Obj.cells (bA (ebod b)) 26))
  have HB5 := Lib.hid (bthen HB4.out (below_alloc w4 (Obj.cells (bA (ebod b)) 26)))
  clear HB4 HX4 HY4 HP4
  have c0 := (HX5.out.cell 0).trans (enA_at0 a)
  have d0 := (HY5.out.cell 0).trans (enA_at0 b)
  rw [← Hk.out] at d0
  go_wp2_with (first | (refine wpl_store_new rfl _ _ rfl (bA (ebod b)) w4 26 (bA (zeros 44)) rfl rfl rfl (info_44 (ebod_length HLg.out)) ((bA_size _).trans ((zeros_length 44).trans ((bA_size _).trans (ebod_length HLg.out)).symm)) (bA_one _) ?_; go_frame))
  clear c0 d0
  generalize w4.alloc (Obj.cells (bA (ebod b)) 26) = w5 at *
  refine wp_region_held (S := fun w' => Below w5.heap.size w5 w') (by kernel_rfl) ?_
  change wpAnyH _ _ _ _ _ _ _ _ (World.drew _)
  have hS : Below w5.heap.size w5 w5.drew := (Below.refl _ _).drew
  refine takeH hS (i := 0) (d := 34) (v := .agg (bA (ebod a))) rfl rfl (by kernel_rfl) (by kernel_rfl) (by kernel_rfl) (fun _ _ _ h => h) (Or.inl ⟨by kernel_rfl, fun w' hw' => by exact exec_load _ rfl (w2.heap.size) rfl (HP5.out.below hw' HP5.out.lt) Try.underlying26 rfl (info_44 (ebod_length HL.out))⟩) ?_
  refine takeH hS (i := 1) (d := 35) (v := .agg (bA (ebod b))) rfl rfl (by kernel_rfl) (by kernel_rfl) (by kernel_rfl) (fun _ _ _ h => h) (Or.inl ⟨by kernel_rfl, fun w' hw' => by exact exec_load _ rfl (w4.heap.size) rfl (HR5.out.below hw' HR5.out.lt) Try.underlying26 rfl (info_44 (ebod_length HLg.out))⟩) ?_
  refine takeH hS (i := 2) (d := 36) (v := .bool true) rfl rfl (by kernel_rfl) (by kernel_rfl) (by kernel_rfl) (fun _ _ _ h => h) (Or.inl ⟨by kernel_rfl, fun w' hw' => by exact exec_eql_sector ty44 _ _ _ rfl (ebod a) (ebod b) rfl rfl (ebod_length HL.out) (ebod_length HLg.out) true Hd1.out⟩) ?_
  refine takeH hS (i := 3) (d := 37) (v := .agg (enA a)) rfl rfl (by kernel_rfl) (by kernel_rfl) (by kernel_rfl) (fun _ _ _ h => h) (Or.inl ⟨by kernel_rfl, fun w' hw' => by exact exec_load _ rfl (w.heap.size) rfl (HX5.out.below hw' HX5.out.lt) Try.underlying25 rfl (info_enA HL.out)⟩) ?_
  refine takeH hS (i := 4) (d := 38) (v := .agg (enA b)) rfl rfl (by kernel_rfl) (by kernel_rfl) (by kernel_rfl) (fun _ _ _ h => h) (Or.inl ⟨by kernel_rfl, fun w' hw' => by exact exec_load _ rfl (w.heap.size + 1) rfl (HY5.out.below hw' HY5.out.lt) Try.underlying25 rfl (info_enA HLg.out)⟩) ?_
  refine takeH hS (i := 5) (d := 39) (v := .bool true) rfl rfl (by kernel_rfl) (by kernel_rfl) (by kernel_rfl) (fun _ _ _ h => h) (Or.inl ⟨by kernel_rfl, fun w' hw' => by exact exec_eql_entry tyEn _ _ _ rfl a b rfl rfl HL.out HLg.out true Hd2.out⟩) ?_
  go_frame
  refine takeH hS (i := 6) (d := 40) (v := .bool true) rfl rfl (by kernel_rfl) (by kernel_rfl) (by kernel_rfl) (fun _ _ _ h => h) (Or.inl ⟨by kernel_rfl, fun w' hw' => by kernel_rfl⟩) ?_
  refine takeH hS (i := 7) (d := 4) (v := .bool true) rfl rfl (by kernel_rfl) (by kernel_rfl) (by kernel_rfl) (fun _ _ _ h => h) (Or.inl ⟨by kernel_rfl, fun w' hw' => by kernel_rfl⟩) ?_
  refine wpAnyH_done (by kernel_rfl) ?_ _
  go_frame
  go_wp2_with fail
  go_ret
  exact ⟨rfl, HB5.out.drew⟩

set_option maxRecDepth 100000 in
set_option maxHeartbeats 4000000 in
theorem walkUnlike_ne (a b : EnR) (w : World) (hl : a.y.length = 32) (hb : ∀ c ∈ a.y, c < 256) (hlg : b.y.length = 32) (hbg : ∀ c ∈ b.y, c < 256) (hr : rB a = true) (hrg : rB b = true) (hk : a.k = b.k) (he : a ≠ b) :
    Calls Try.prog 6 #[.agg (enA a), .agg (enA b)] w fun en w' => en = .returned (.bool true) ∧ Below w.heap.size w w' := by
  have HL := Lib.hid hl
  have Hb := Lib.hid hb
  have HLg := Lib.hid hlg
  have Hbg := Lib.hid hbg
  have hz0 := zero_44
  have HX0 : Hid (Blk ((w.alloc (Obj.cells (enA a) 25)).alloc (Obj.cells (enA b) 25)) w.heap.size 25 (enA a)) := Lib.hid (Blk.alloc (Blk.new w 25 (enA a)) _)
  have HY0 : Hid (Blk ((w.alloc (Obj.cells (enA a) 25)).alloc (Obj.cells (enA b) 25)) (w.heap.size + 1) 25 (enA b)) := Lib.hid (by
    have h := Blk.new (w.alloc (Obj.cells (enA a) 25)) 25 (enA b)
    rwa [show (w.alloc (Obj.cells (enA a) 25)).heap.size = w.heap.size + 1 by simp] at h)
  have HB0 : Hid (Below w.heap.size w ((w.alloc (Obj.cells (enA a) 25)).alloc (Obj.cells (enA b) 25))) := Lib.hid (bthen (below_alloc _ _) (below_alloc _ _))
  have Hr := Lib.hid hr
  have Hrg := Lib.hid hrg
  have Hk := Lib.hid hk
  have Hd1 : Hid (decide (ebod a = ebod b) = false) := Lib.hid (decide_eq_false (fun h => he ((ebod_inj hr hrg hk hl hlg).1 h)))
  have Hd2 : Hid (decide (a = b) = false) := Lib.hid (decide_eq_false he)
  clear hr hrg hk he
  clear hl hb hlg hbg
  go_enter Try.func6, Try.ntmps6
  go_wp2_with fail
  refine (anchor4_any _).mono ?_
  rintro en w1 ⟨rfl, hb1⟩
  have HX1 := Lib.hid (HX0.out.below hb1 HX0.out.lt)
  have HY1 := Lib.hid (HY0.out.below hb1 HY0.out.lt)
  have HB1 := Lib.hid (bthen HB0.out hb1)
  clear hb1 HB0 HX0 HY0
  go_wp2_with (first | (refine wpl_load rfl _ rfl (w.heap.size) rfl _ _ _ HX1.out Try.underlying25 rfl (info_enA HL.out) ?_; go_frame))
  refine (body_ok a _ HL.out Hb.out Hr.out).mono ?_
  rintro en w2 ⟨rfl, hb2⟩
  have HX2 := Lib.hid (HX1.out.below hb2 HX1.out.lt)
  have HY2 := Lib.hid (HY1.out.below hb2 HY1.out.lt)
  have HB2 := Lib.hid (bthen HB1.out hb2)
  clear hb2 HB1 HX1 HY1
  have HP3 : Hid (Blk (w2.alloc (Obj.cells (bA (ebod a)) 26)) w2.heap.size 26 (bA (ebod a))) := Lib.hid (Blk.new _ _ _)
  have HX3 := Lib.hid (HX2.out.alloc (Obj.cells (bA (ebod a)) 26))
  have HY3 := Lib.hid (HY2.out.alloc (Obj.cells (bA (ebod a)) 26))
  have HB3 := Lib.hid (bthen HB2.out (below_alloc w2 (Obj.cells (bA (ebod a)) 26)))
  clear HB2 HX2 HY2
  go_wp2_with (first | (refine wpl_store_new rfl _ _ rfl (bA (ebod a)) w2 26 (bA (zeros 44)) rfl rfl rfl (info_44 (ebod_length HL.out)) ((bA_size _).trans ((zeros_length 44).trans ((bA_size _).trans (ebod_length HL.out)).symm)) (bA_one _) ?_; go_frame) | (refine wpl_load rfl _ rfl (w.heap.size + 1) rfl _ _ _ HY3.out Try.underlying25 rfl (info_enA HLg.out) ?_; go_frame))
  generalize w2.alloc (Obj.cells (bA (ebod a)) 26) = w3 at *
  refine (body_ok b _ HLg.out Hbg.out Hrg.out).mono ?_
  rintro en w4 ⟨rfl, hb4⟩
  have HX4 := Lib.hid (HX3.out.below hb4 HX3.out.lt)
  have HY4 := Lib.hid (HY3.out.below hb4 HY3.out.lt)
  have HP4 := Lib.hid (HP3.out.below hb4 HP3.out.lt)
  have HB4 := Lib.hid (bthen HB3.out hb4)
  clear hb4 HB3 HX3 HY3 HP3
  have HR5 : Hid (Blk (w4.alloc (Obj.cells (bA (ebod b)) 26)) w4.heap.size 26 (bA (ebod b))) := Lib.hid (Blk.new _ _ _)
  have HX5 := Lib.hid (HX4.out.alloc (Obj.cells (bA (ebod b)) 26))
  have HY5 := Lib.hid (HY4.out.alloc (Obj.cells (bA (ebod b)) 26))
  have HP5 := Lib.hid (HP4.out.alloc (Obj.cells (bA (ebod b)) 26))
  have HB5 := Lib.hid (bthen HB4.out (below_alloc w4 (Obj.cells (bA (ebod b)) 26)))
  clear HB4 HX4 HY4 HP4
  have c0 := (HX5.out.cell 0).trans (enA_at0 a)
  have d0 := (HY5.out.cell 0).trans (enA_at0 b)
  rw [← Hk.out] at d0
  go_wp2_with (first | (refine wpl_store_new rfl _ _ rfl (bA (ebod b)) w4 26 (bA (zeros 44)) rfl rfl rfl (info_44 (ebod_length HLg.out)) ((bA_size _).trans ((zeros_length 44).trans ((bA_size _).trans (ebod_length HLg.out)).symm)) (bA_one _) ?_; go_frame))
  clear c0 d0
  generalize w4.alloc (Obj.cells (bA (ebod b)) 26) = w5 at *
  refine wp_region_held (S := fun w' => Below w5.heap.size w5 w') (by kernel_rfl) ?_
  change wpAnyH _ _ _ _ _ _ _ _ (World.drew _)
  have hS : Below w5.heap.size w5 w5.drew := (Below.refl _ _).drew
  refine takeH hS (i := 0) (d := 34) (v := .agg (bA (ebod a))) rfl rfl (by kernel_rfl) (by kernel_rfl) (by kernel_rfl) (fun _ _ _ h => h) (Or.inl ⟨by kernel_rfl, fun w' hw' => by exact exec_load _ rfl (w2.heap.size) rfl (HP5.out.below hw' HP5.out.lt) Try.underlying26 rfl (info_44 (ebod_length HL.out))⟩) ?_
  refine takeH hS (i := 1) (d := 35) (v := .agg (bA (ebod b))) rfl rfl (by kernel_rfl) (by kernel_rfl) (by kernel_rfl) (fun _ _ _ h => h) (Or.inl ⟨by kernel_rfl, fun w' hw' => by exact exec_load _ rfl (w4.heap.size) rfl (HR5.out.below hw' HR5.out.lt) Try.underlying26 rfl (info_44 (ebod_length HLg.out))⟩) ?_
  refine takeH hS (i := 2) (d := 36) (v := .bool false) rfl rfl (by kernel_rfl) (by kernel_rfl) (by kernel_rfl) (fun _ _ _ h => h) (Or.inl ⟨by kernel_rfl, fun w' hw' => by exact exec_eql_sector ty44 _ _ _ rfl (ebod a) (ebod b) rfl rfl (ebod_length HL.out) (ebod_length HLg.out) false Hd1.out⟩) ?_
  refine takeH hS (i := 3) (d := 37) (v := .agg (enA a)) rfl rfl (by kernel_rfl) (by kernel_rfl) (by kernel_rfl) (fun _ _ _ h => h) (Or.inl ⟨by kernel_rfl, fun w' hw' => by exact exec_load _ rfl (w.heap.size) rfl (HX5.out.below hw' HX5.out.lt) Try.underlying25 rfl (info_enA HL.out)⟩) ?_
  refine takeH hS (i := 4) (d := 38) (v := .agg (enA b)) rfl rfl (by kernel_rfl) (by kernel_rfl) (by kernel_rfl) (fun _ _ _ h => h) (Or.inl ⟨by kernel_rfl, fun w' hw' => by exact exec_load _ rfl (w.heap.size + 1) rfl (HY5.out.below hw' HY5.out.lt) Try.underlying25 rfl (info_enA HLg.out)⟩) ?_
  refine takeH hS (i := 5) (d := 39) (v := .bool false) rfl rfl (by kernel_rfl) (by kernel_rfl) (by kernel_rfl) (fun _ _ _ h => h) (Or.inl ⟨by kernel_rfl, fun w' hw' => by exact exec_eql_entry tyEn _ _ _ rfl a b rfl rfl HL.out HLg.out false Hd2.out⟩) ?_
  go_frame
  refine takeH hS (i := 6) (d := 40) (v := .bool true) rfl rfl (by kernel_rfl) (by kernel_rfl) (by kernel_rfl) (fun _ _ _ h => h) (Or.inl ⟨by kernel_rfl, fun w' hw' => by kernel_rfl⟩) ?_
  refine takeH hS (i := 7) (d := 4) (v := .bool true) rfl rfl (by kernel_rfl) (by kernel_rfl) (by kernel_rfl) (fun _ _ _ h => h) (Or.inl ⟨by kernel_rfl, fun w' hw' => by kernel_rfl⟩) ?_
  refine wpAnyH_done (by kernel_rfl) ?_ _
  go_frame
  go_wp2_with fail
  go_ret
  exact ⟨rfl, HB5.out.drew⟩

theorem walkEntryUnlike (a b : EnR) (w : World) (ha : EnOk a) (hb : EnOk b) :
    Calls Try.prog 6 #[.agg (enA a), .agg (enA b)] w fun en w' => en = .returned (.bool true) ∧ Below w.heap.size w w' := by
  cases hr : rB a with
  | false =>
    cases hrg : rB b with
    | false => exact walkUnlike_ff a b w ha.len ha.lt hb.len hb.lt hr hrg
    | true => exact walkUnlike_ft a b w ha.len ha.lt hb.len hb.lt hr hrg
  | true =>
    cases hrg : rB b with
    | false => exact walkUnlike_tf a b w ha.len ha.lt hb.len hb.lt hr hrg
    | true =>
      by_cases hk : a.k = b.k
      · by_cases he : a = b
        · exact walkUnlike_eq a b w ha.len ha.lt hb.len hb.lt hr hrg hk he
        · exact walkUnlike_ne a b w ha.len ha.lt hb.len hb.lt hr hrg hk he
      · exact walkUnlike_kk a b w ha.len ha.lt hb.len hb.lt hr hrg hk

end Go.Proofs.Ytdjnfikacjfkkaa
