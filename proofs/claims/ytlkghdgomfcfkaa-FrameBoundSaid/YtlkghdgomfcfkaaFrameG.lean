/-
  Layer 3 (frame), sixth part: At, Sum, Xor.
-/
import Derived.Test.YtlkghdgomfcfkaaFrameF
namespace Go.Proofs.Ytlkghdgomfcfkaa
open Go.RowKit CrcM
set_option linter.unusedVariables false
set_option linter.unnecessarySimpa false
set_option linter.unusedSimpArgs false

set_option maxRecDepth 100000 in
set_option maxHeartbeats 1000000 in
theorem at_err (bs : List Nat) (zn of : Int) (w : World) (hl : bs.length = 64) (hb : ∀ c ∈ bs, c < 256) (he : decE bs ≠ 0) :
    Calls Try.prog 15 #[.agg tbl, .agg (bA bs), .int .i64 zn, .int .i64 of] w (DecPost fr0 (decE bs) w) := by
  have HL := Lib.hid hl
  have Hb := Lib.hid hb
  have hz := zero_fr
  have hT : Blk (((w.alloc (Obj.cells tbl 28)).alloc (Obj.cells (bA bs) 32)).alloc (Obj.cells (frA fr0) 24)) w.heap.size 28 tbl := Blk.alloc (Blk.alloc (Blk.new w 28 tbl) _) _
  have hX : Blk (((w.alloc (Obj.cells tbl 28)).alloc (Obj.cells (bA bs) 32)).alloc (Obj.cells (frA fr0) 24)) (w.heap.size + 1) 32 (bA bs) := by
    have h := Blk.alloc (Blk.new (w.alloc (Obj.cells tbl 28)) 32 (bA bs)) (Obj.cells (frA fr0) 24)
    rwa [show (w.alloc (Obj.cells tbl 28)).heap.size = w.heap.size + 1 by simp] at h
  have hO : Blk (((w.alloc (Obj.cells tbl 28)).alloc (Obj.cells (bA bs) 32)).alloc (Obj.cells (frA fr0) 24)) (w.heap.size + 2) 24 (frA fr0) := by
    have h := Blk.new ((w.alloc (Obj.cells tbl 28)).alloc (Obj.cells (bA bs) 32)) 24 (frA fr0)
    rwa [show ((w.alloc (Obj.cells tbl 28)).alloc (Obj.cells (bA bs) 32)).heap.size = w.heap.size + 2 by simp] at h
  have hB : Below w.heap.size w (((w.alloc (Obj.cells tbl 28)).alloc (Obj.cells (bA bs) 32)).alloc (Obj.cells (frA fr0) 24)) := bthen (below_alloc _ _) (bthen (below_alloc _ _) (below_alloc _ _))
  have HT0 := Lib.hid hT
  have HX0 := Lib.hid hX
  have HO0 := Lib.hid hO
  have HB0 := Lib.hid hB
  have HLf : Hid ((decF bs).b.length = 44) := Lib.hid (decF_len hl)
  have hx0 : (decE bs != 0) = true := by rw [bne_iff_ne]; exact he
  clear he
  clear hl hb hT hX hO hB
  go_enter Try.func15, Try.ntmps15
  go_wp2_with (first | (refine wpl_load rfl _ rfl (w.heap.size) rfl _ _ _ HT0.out Try.underlying28 rfl info_tbl ?_; go_frame) | (refine wpl_load rfl _ rfl (w.heap.size + 1) rfl _ _ _ HX0.out Try.underlying32 rfl (info_sec HL.out) ?_; go_frame))
  refine (decode_any bs _ HL.out Hb.out).mono ?_
  rintro e w1 ⟨rfl, hb1⟩
  have HB1 := Lib.hid (bthen HB0.out hb1)
  have HO1 := Lib.hid (HO0.out.below hb1 HO0.out.lt)
  have HN : Hid (Blk (w1.alloc (Obj.cells (frA fr0) 24)) w1.heap.size 24 (frA fr0)) := Lib.hid (Blk.new _ _ _)
  have HB3 : Hid (Below w.heap.size w (w1.alloc (Obj.cells (frA fr0) 24))) := Lib.hid (bthen HB1.out (below_alloc _ _))
  have HO3 : Hid (Blk (w1.alloc (Obj.cells (frA fr0) 24)) (w.heap.size + 2) 24 (frA fr0)) := Lib.hid (HO1.out.alloc _)
  have HLt : Hid (w.heap.size + 2 < w1.heap.size) := Lib.hid HO1.out.lt
  clear hb1 HT0 HX0 HO0 HB0 HB1 HO1
  generalize decE bs = x at *
  generalize decF bs = f at *
  go_wp2_with (first | (refine wpl_build (by kernel_rfl) 24 _ rfl (.agg (frA fr0)) (fun _ => by kernel_rfl) ?_; go_frame) | (refine wpl_store rfl _ _ rfl (w1.heap.size) (frA f) rfl rfl _ _ HN.out (info_frA HLf.out) ((frA_size fr0_len).trans (frA_size HLf.out).symm) frA_one ?_; intro w4 hS4 hK4; have HF4 := Lib.hid hS4; have c1 := (HF4.out.cell 1).trans (frA_at1 f); have c2 := (HF4.out.cell 2).trans (frA_at2 f); have HO4 := Lib.hid (HO3.out.kept hK4 (by have := HLt.out; omega)); have HB4 := Lib.hid (bkept HB3.out (Nat.le_refl _) hK4 (fun i hi h => by have := HLt.out; omega)); clear hS4 hK4 HN HO3 HB3 hz; go_frame) | (refine wpl_store rfl _ _ rfl (w.heap.size + 2) (frA (fr0)) rfl rfl _ _ HO4.out (info_frA fr0_len) ((frA_size fr0_len).trans (frA_size fr0_len).symm) frA_one ?_; intro w5 hS5 hK5; have HS5 := Lib.hid hS5; have HK5 := Lib.hid hK5; clear hS5 hK5; go_frame))
  refine bodyPost_ret (v := .tuple #[.agg (frA (fr0)), .int .i64 x]) (results_cell_slot Try.results15 _ _ (w.heap.size + 2) _ _ _ _ rfl rfl HS5.out Try.underlying24 rfl (info_frA fr0_len)) rfl ⟨rfl, ?_⟩
  exact bkept HB4.out (Nat.le_refl _) HK5.out (fun i hi h => by omega)

set_option maxRecDepth 100000 in
set_option maxHeartbeats 1000000 in
theorem at_zone (bs : List Nat) (zn of : Int) (w : World) (hl : bs.length = 64) (hb : ∀ c ∈ bs, c < 256) (he : decE bs = 0) (hzn : (decF bs).z ≠ zn) :
    Calls Try.prog 15 #[.agg tbl, .agg (bA bs), .int .i64 zn, .int .i64 of] w (DecPost fr0 12 w) := by
  have HL := Lib.hid hl
  have Hb := Lib.hid hb
  have hz := zero_fr
  have hT : Blk (((w.alloc (Obj.cells tbl 28)).alloc (Obj.cells (bA bs) 32)).alloc (Obj.cells (frA fr0) 24)) w.heap.size 28 tbl := Blk.alloc (Blk.alloc (Blk.new w 28 tbl) _) _
  have hX : Blk (((w.alloc (Obj.cells tbl 28)).alloc (Obj.cells (bA bs) 32)).alloc (Obj.cells (frA fr0) 24)) (w.heap.size + 1) 32 (bA bs) := by
    have h := Blk.alloc (Blk.new (w.alloc (Obj.cells tbl 28)) 32 (bA bs)) (Obj.cells (frA fr0) 24)
    rwa [show (w.alloc (Obj.cells tbl 28)).heap.size = w.heap.size + 1 by simp] at h
  have hO : Blk (((w.alloc (Obj.cells tbl 28)).alloc (Obj.cells (bA bs) 32)).alloc (Obj.cells (frA fr0) 24)) (w.heap.size + 2) 24 (frA fr0) := by
    have h := Blk.new ((w.alloc (Obj.cells tbl 28)).alloc (Obj.cells (bA bs) 32)) 24 (frA fr0)
    rwa [show ((w.alloc (Obj.cells tbl 28)).alloc (Obj.cells (bA bs) 32)).heap.size = w.heap.size + 2 by simp] at h
  have hB : Below w.heap.size w (((w.alloc (Obj.cells tbl 28)).alloc (Obj.cells (bA bs) 32)).alloc (Obj.cells (frA fr0) 24)) := bthen (below_alloc _ _) (bthen (below_alloc _ _) (below_alloc _ _))
  have HT0 := Lib.hid hT
  have HX0 := Lib.hid hX
  have HO0 := Lib.hid hO
  have HB0 := Lib.hid hB
  have HLf : Hid ((decF bs).b.length = 44) := Lib.hid (decF_len hl)
  have He := Lib.hid he
  have hz1 : ((decF bs).z != zn) = true := by rw [bne_iff_ne]; exact hzn
  clear he hzn
  clear hl hb hT hX hO hB
  go_enter Try.func15, Try.ntmps15
  go_wp2_with (first | (refine wpl_load rfl _ rfl (w.heap.size) rfl _ _ _ HT0.out Try.underlying28 rfl info_tbl ?_; go_frame) | (refine wpl_load rfl _ rfl (w.heap.size + 1) rfl _ _ _ HX0.out Try.underlying32 rfl (info_sec HL.out) ?_; go_frame))
  refine (decode_any bs _ HL.out Hb.out).mono ?_
  rintro e w1 ⟨rfl, hb1⟩
  have HB1 := Lib.hid (bthen HB0.out hb1)
  have HO1 := Lib.hid (HO0.out.below hb1 HO0.out.lt)
  have HN : Hid (Blk (w1.alloc (Obj.cells (frA fr0) 24)) w1.heap.size 24 (frA fr0)) := Lib.hid (Blk.new _ _ _)
  have HB3 : Hid (Below w.heap.size w (w1.alloc (Obj.cells (frA fr0) 24))) := Lib.hid (bthen HB1.out (below_alloc _ _))
  have HO3 : Hid (Blk (w1.alloc (Obj.cells (frA fr0) 24)) (w.heap.size + 2) 24 (frA fr0)) := Lib.hid (HO1.out.alloc _)
  have HLt : Hid (w.heap.size + 2 < w1.heap.size) := Lib.hid HO1.out.lt
  clear hb1 HT0 HX0 HO0 HB0 HB1 HO1
  generalize decE bs = x at *
  generalize decF bs = f at *
  obtain rfl : x = 0 := He.out
  go_wp2_with (first | (refine wpl_build (by kernel_rfl) 24 _ rfl (.agg (frA fr0)) (fun _ => by kernel_rfl) ?_; go_frame) | (refine wpl_store rfl _ _ rfl (w1.heap.size) (frA f) rfl rfl _ _ HN.out (info_frA HLf.out) ((frA_size fr0_len).trans (frA_size HLf.out).symm) frA_one ?_; intro w4 hS4 hK4; have HF4 := Lib.hid hS4; have c1 := (HF4.out.cell 1).trans (frA_at1 f); have c2 := (HF4.out.cell 2).trans (frA_at2 f); have HO4 := Lib.hid (HO3.out.kept hK4 (by have := HLt.out; omega)); have HB4 := Lib.hid (bkept HB3.out (Nat.le_refl _) hK4 (fun i hi h => by have := HLt.out; omega)); clear hS4 hK4 HN HO3 HB3 hz; go_frame) | (refine wpl_store rfl _ _ rfl (w.heap.size + 2) (frA (fr0)) rfl rfl _ _ HO4.out (info_frA fr0_len) ((frA_size fr0_len).trans (frA_size fr0_len).symm) frA_one ?_; intro w5 hS5 hK5; have HS5 := Lib.hid hS5; have HK5 := Lib.hid hK5; clear hS5 hK5; go_frame))
  refine bodyPost_ret (v := .tuple #[.agg (frA (fr0)), .int .i64 12]) (results_cell_slot Try.results15 _ _ (w.heap.size + 2) _ _ _ _ rfl rfl HS5.out Try.underlying24 rfl (info_frA fr0_len)) rfl ⟨rfl, ?_⟩
  exact bkept HB4.out (Nat.le_refl _) HK5.out (fun i hi h => by omega)

set_option maxRecDepth 100000 in
set_option maxHeartbeats 1000000 in
theorem at_off (bs : List Nat) (zn of : Int) (w : World) (hl : bs.length = 64) (hb : ∀ c ∈ bs, c < 256) (he : decE bs = 0) (hzn : (decF bs).z = zn) (ho : (decF bs).o ≠ of) :
    Calls Try.prog 15 #[.agg tbl, .agg (bA bs), .int .i64 zn, .int .i64 of] w (DecPost fr0 12 w) := by
  have HL := Lib.hid hl
  have Hb := Lib.hid hb
  have hz := zero_fr
  have hT : Blk (((w.alloc (Obj.cells tbl 28)).alloc (Obj.cells (bA bs) 32)).alloc (Obj.cells (frA fr0) 24)) w.heap.size 28 tbl := Blk.alloc (Blk.alloc (Blk.new w 28 tbl) _) _
  have hX : Blk (((w.alloc (Obj.cells tbl 28)).alloc (Obj.cells (bA bs) 32)).alloc (Obj.cells (frA fr0) 24)) (w.heap.size + 1) 32 (bA bs) := by
    have h := Blk.alloc (Blk.new (w.alloc (Obj.cells tbl 28)) 32 (bA bs)) (Obj.cells (frA fr0) 24)
    rwa [show (w.alloc (Obj.cells tbl 28)).heap.size = w.heap.size + 1 by simp] at h
  have hO : Blk (((w.alloc (Obj.cells tbl 28)).alloc (Obj.cells (bA bs) 32)).alloc (Obj.cells (frA fr0) 24)) (w.heap.size + 2) 24 (frA fr0) := by
    have h := Blk.new ((w.alloc (Obj.cells tbl 28)).alloc (Obj.cells (bA bs) 32)) 24 (frA fr0)
    rwa [show ((w.alloc (Obj.cells tbl 28)).alloc (Obj.cells (bA bs) 32)).heap.size = w.heap.size + 2 by simp] at h
  have hB : Below w.heap.size w (((w.alloc (Obj.cells tbl 28)).alloc (Obj.cells (bA bs) 32)).alloc (Obj.cells (frA fr0) 24)) := bthen (below_alloc _ _) (bthen (below_alloc _ _) (below_alloc _ _))
  have HT0 := Lib.hid hT
  have HX0 := Lib.hid hX
  have HO0 := Lib.hid hO
  have HB0 := Lib.hid hB
  have HLf : Hid ((decF bs).b.length = 44) := Lib.hid (decF_len hl)
  have He := Lib.hid he
  have hz1 : ((decF bs).z != zn) = false := by rw [hzn]; simp
  have ho1 : ((decF bs).o != of) = true := by rw [bne_iff_ne]; exact ho
  clear he hzn ho
  clear hl hb hT hX hO hB
  go_enter Try.func15, Try.ntmps15
  go_wp2_with (first | (refine wpl_load rfl _ rfl (w.heap.size) rfl _ _ _ HT0.out Try.underlying28 rfl info_tbl ?_; go_frame) | (refine wpl_load rfl _ rfl (w.heap.size + 1) rfl _ _ _ HX0.out Try.underlying32 rfl (info_sec HL.out) ?_; go_frame))
  refine (decode_any bs _ HL.out Hb.out).mono ?_
  rintro e w1 ⟨rfl, hb1⟩
  have HB1 := Lib.hid (bthen HB0.out hb1)
  have HO1 := Lib.hid (HO0.out.below hb1 HO0.out.lt)
  have HN : Hid (Blk (w1.alloc (Obj.cells (frA fr0) 24)) w1.heap.size 24 (frA fr0)) := Lib.hid (Blk.new _ _ _)
  have HB3 : Hid (Below w.heap.size w (w1.alloc (Obj.cells (frA fr0) 24))) := Lib.hid (bthen HB1.out (below_alloc _ _))
  have HO3 : Hid (Blk (w1.alloc (Obj.cells (frA fr0) 24)) (w.heap.size + 2) 24 (frA fr0)) := Lib.hid (HO1.out.alloc _)
  have HLt : Hid (w.heap.size + 2 < w1.heap.size) := Lib.hid HO1.out.lt
  clear hb1 HT0 HX0 HO0 HB0 HB1 HO1
  generalize decE bs = x at *
  generalize decF bs = f at *
  obtain rfl : x = 0 := He.out
  go_wp2_with (first | (refine wpl_build (by kernel_rfl) 24 _ rfl (.agg (frA fr0)) (fun _ => by kernel_rfl) ?_; go_frame) | (refine wpl_store rfl _ _ rfl (w1.heap.size) (frA f) rfl rfl _ _ HN.out (info_frA HLf.out) ((frA_size fr0_len).trans (frA_size HLf.out).symm) frA_one ?_; intro w4 hS4 hK4; have HF4 := Lib.hid hS4; have c1 := (HF4.out.cell 1).trans (frA_at1 f); have c2 := (HF4.out.cell 2).trans (frA_at2 f); have HO4 := Lib.hid (HO3.out.kept hK4 (by have := HLt.out; omega)); have HB4 := Lib.hid (bkept HB3.out (Nat.le_refl _) hK4 (fun i hi h => by have := HLt.out; omega)); clear hS4 hK4 HN HO3 HB3 hz; go_frame) | (refine wpl_store rfl _ _ rfl (w.heap.size + 2) (frA (fr0)) rfl rfl _ _ HO4.out (info_frA fr0_len) ((frA_size fr0_len).trans (frA_size fr0_len).symm) frA_one ?_; intro w5 hS5 hK5; have HS5 := Lib.hid hS5; have HK5 := Lib.hid hK5; clear hS5 hK5; go_frame))
  refine bodyPost_ret (v := .tuple #[.agg (frA (fr0)), .int .i64 12]) (results_cell_slot Try.results15 _ _ (w.heap.size + 2) _ _ _ _ rfl rfl HS5.out Try.underlying24 rfl (info_frA fr0_len)) rfl ⟨rfl, ?_⟩
  exact bkept HB4.out (Nat.le_refl _) HK5.out (fun i hi h => by omega)

set_option maxRecDepth 100000 in
set_option maxHeartbeats 1000000 in
theorem at_ok (bs : List Nat) (zn of : Int) (w : World) (hl : bs.length = 64) (hb : ∀ c ∈ bs, c < 256) (he : decE bs = 0) (hzn : (decF bs).z = zn) (ho : (decF bs).o = of) :
    Calls Try.prog 15 #[.agg tbl, .agg (bA bs), .int .i64 zn, .int .i64 of] w (DecPost (decF bs) 0 w) := by
  have HL := Lib.hid hl
  have Hb := Lib.hid hb
  have hz := zero_fr
  have hT : Blk (((w.alloc (Obj.cells tbl 28)).alloc (Obj.cells (bA bs) 32)).alloc (Obj.cells (frA fr0) 24)) w.heap.size 28 tbl := Blk.alloc (Blk.alloc (Blk.new w 28 tbl) _) _
  have hX : Blk (((w.alloc (Obj.cells tbl 28)).alloc (Obj.cells (bA bs) 32)).alloc (Obj.cells (frA fr0) 24)) (w.heap.size + 1) 32 (bA bs) := by
    have h := Blk.alloc (Blk.new (w.alloc (Obj.cells tbl 28)) 32 (bA bs)) (Obj.cells (frA fr0) 24)
    rwa [show (w.alloc (Obj.cells tbl 28)).heap.size = w.heap.size + 1 by simp] at h
  have hO : Blk (((w.alloc (Obj.cells tbl 28)).alloc (Obj.cells (bA bs) 32)).alloc (Obj.cells (frA fr0) 24)) (w.heap.size + 2) 24 (frA fr0) := by
    have h := Blk.new ((w.alloc (Obj.cells tbl 28)).alloc (Obj.cells (bA bs) 32)) 24 (frA fr0)
    rwa [show ((w.alloc (Obj.cells tbl 28)).alloc (Obj.cells (bA bs) 32)).heap.size = w.heap.size + 2 by simp] at h
  have hB : Below w.heap.size w (((w.alloc (Obj.cells tbl 28)).alloc (Obj.cells (bA bs) 32)).alloc (Obj.cells (frA fr0) 24)) := bthen (below_alloc _ _) (bthen (below_alloc _ _) (below_alloc _ _))
  have HT0 := Lib.hid hT
  have HX0 := Lib.hid hX
  have HO0 := Lib.hid hO
  have HB0 := Lib.hid hB
  have HLf : Hid ((decF bs).b.length = 44) := Lib.hid (decF_len hl)
  have He := Lib.hid he
  have hz1 : ((decF bs).z != zn) = false := by rw [hzn]; simp
  have ho1 : ((decF bs).o != of) = false := by rw [ho]; simp
  clear he hzn ho
  clear hl hb hT hX hO hB
  go_enter Try.func15, Try.ntmps15
  go_wp2_with (first | (refine wpl_load rfl _ rfl (w.heap.size) rfl _ _ _ HT0.out Try.underlying28 rfl info_tbl ?_; go_frame) | (refine wpl_load rfl _ rfl (w.heap.size + 1) rfl _ _ _ HX0.out Try.underlying32 rfl (info_sec HL.out) ?_; go_frame))
  refine (decode_any bs _ HL.out Hb.out).mono ?_
  rintro e w1 ⟨rfl, hb1⟩
  have HB1 := Lib.hid (bthen HB0.out hb1)
  have HO1 := Lib.hid (HO0.out.below hb1 HO0.out.lt)
  have HN : Hid (Blk (w1.alloc (Obj.cells (frA fr0) 24)) w1.heap.size 24 (frA fr0)) := Lib.hid (Blk.new _ _ _)
  have HB3 : Hid (Below w.heap.size w (w1.alloc (Obj.cells (frA fr0) 24))) := Lib.hid (bthen HB1.out (below_alloc _ _))
  have HO3 : Hid (Blk (w1.alloc (Obj.cells (frA fr0) 24)) (w.heap.size + 2) 24 (frA fr0)) := Lib.hid (HO1.out.alloc _)
  have HLt : Hid (w.heap.size + 2 < w1.heap.size) := Lib.hid HO1.out.lt
  clear hb1 HT0 HX0 HO0 HB0 HB1 HO1
  generalize decE bs = x at *
  generalize decF bs = f at *
  obtain rfl : x = 0 := He.out
  go_wp2_with (first | (refine wpl_store rfl _ _ rfl (w1.heap.size) (frA f) rfl rfl _ _ HN.out (info_frA HLf.out) ((frA_size fr0_len).trans (frA_size HLf.out).symm) frA_one ?_; intro w4 hS4 hK4; have HF4 := Lib.hid hS4; have c1 := (HF4.out.cell 1).trans (frA_at1 f); have c2 := (HF4.out.cell 2).trans (frA_at2 f); have HO4 := Lib.hid (HO3.out.kept hK4 (by have := HLt.out; omega)); have HB4 := Lib.hid (bkept HB3.out (Nat.le_refl _) hK4 (fun i hi h => by have := HLt.out; omega)); clear hS4 hK4 HN HO3 HB3 hz; go_frame) | (refine wpl_load rfl _ rfl (w1.heap.size) rfl _ _ _ HF4.out Try.underlying24 rfl (info_frA HLf.out) ?_; go_frame) | (refine wpl_store rfl _ _ rfl (w.heap.size + 2) (frA (f)) rfl rfl _ _ HO4.out (info_frA HLf.out) ((frA_size fr0_len).trans (frA_size HLf.out).symm) frA_one ?_; intro w5 hS5 hK5; have HS5 := Lib.hid hS5; have HK5 := Lib.hid hK5; clear hS5 hK5; go_frame))
  refine bodyPost_ret (v := .tuple #[.agg (frA (f)), .int .i64 0]) (results_cell_slot Try.results15 _ _ (w.heap.size + 2) _ _ _ _ rfl rfl HS5.out Try.underlying24 rfl (info_frA HLf.out)) rfl ⟨rfl, ?_⟩
  exact bkept HB4.out (Nat.le_refl _) HK5.out (fun i hi h => by omega)

/-- At's error and frame. -/
def atE (bs : List Nat) (zn of : Int) : Int := if decE bs = 0 then (if (decF bs).z = zn ∧ (decF bs).o = of then 0 else 12) else decE bs
def atF (bs : List Nat) (zn of : Int) : FrR := if decE bs = 0 ∧ (decF bs).z = zn ∧ (decF bs).o = of then decF bs else fr0

theorem atF_len {bs : List Nat} (h : bs.length = 64) (zn of : Int) : (atF bs zn of).b.length = 44 := by
  unfold atF; split
  · exact decF_len h
  · exact fr0_len

theorem at_any (bs : List Nat) (zn of : Int) (w : World) (hl : bs.length = 64) (hb : ∀ c ∈ bs, c < 256) :
    Calls Try.prog 15 #[.agg tbl, .agg (bA bs), .int .i64 zn, .int .i64 of] w (DecPost (atF bs zn of) (atE bs zn of) w) := by
  unfold atF atE
  by_cases h1 : decE bs = 0
  · by_cases h2 : (decF bs).z = zn
    · by_cases h3 : (decF bs).o = of
      · rw [if_pos ⟨h1, h2, h3⟩, if_pos h1, if_pos ⟨h2, h3⟩]; exact at_ok bs zn of w hl hb h1 h2 h3
      · rw [if_neg (fun h => h3 h.2.2), if_pos h1, if_neg (fun h => h3 h.2)]; exact at_off bs zn of w hl hb h1 h2 h3
    · rw [if_neg (fun h => h2 h.2.1), if_pos h1, if_neg (fun h => h2 h.1)]; exact at_zone bs zn of w hl hb h1 h2
  · rw [if_neg (fun h => h1 h.1), if_neg h1]; exact at_err bs zn of w hl hb h1

theorem run_slice_60 (w : World) (g : Nat) :
    (Instr.sliceAt 32 (.pointer (some ⟨g, 0, none⟩)) (some (.int .i64 60)) none none).run Try.prog w = .ok (.slice (some ⟨g, 60, none⟩) 4 4) w := by
  obtain ⟨i0, hi, hz0, hz1, hz2⟩ := info_parts Try.infoByte
  simp [Instr.sliceAt, Instr.sureAddr, Instr.sliceBounds, Instr.sliceBound, run_underlying Try.underlying32, asIntOf, sizeOf, typeInfo, hi, hz1, Addr.add]

set_option maxHeartbeats 1000000 in
theorem sum4_any (bs : List Nat) (w : World) (hl : bs.length = 64) (hb : ∀ c ∈ bs, c < 256) :
    Calls Try.prog 18 #[.agg (bA bs)] w fun e w' => e = .returned (.int .i64 (num (bs.drop 60) : Nat)) ∧ Below w.heap.size w w' := by
  have hr := row_of_blk (Blk.new w 32 (bA bs)) hb 64 hl (by decide)
  have hr4 : RowB (w.alloc (Obj.cells (bA bs) 32)) (some ⟨w.heap.size, 60, none⟩) 4 4 (bs.drop 60) := by
    have h := hr.from 60 (by decide)
    have e : slAddr (some ⟨w.heap.size, 0, none⟩) 64 60 = some ⟨w.heap.size, 60, none⟩ := by simp [slAddr, Addr.add]
    rw [e] at h
    exact h
  have HR := Lib.hid hr4
  have HL := Lib.hid hl
  have s1 := run_slice_60
  clear hr hr4 hl hb
  go_enter Try.func18, Try.ntmps18
  go_wp2_with fail
  refine (rdF_new _ _ _ (bs.drop 60) _ HR.out (by decide)).mono ?_
  rintro e w1 ⟨r, rfl, hr1, hR1, hb1⟩
  have HB1 := Lib.hid (bthen (below_alloc w _) hb1)
  have HR1 := Lib.hid hR1
  have HZ : Hid (w.heap.size < r) := Lib.hid (by simp at hr1; omega)
  clear hr1 hR1 hb1 HR s1
  go_wp2_with fail
  refine (rdF_num 4 _ r _ 0 4 w1 rfl HR1.out (by decide) (by decide) (by rw [List.length_drop, HL.out]; decide)).mono ?_
  rintro e w2 ⟨rfl, hR, hk⟩
  have HB2 := Lib.hid (bkept HB1.out (Nat.le_refl _) hk (fun i hi h => by have := HZ.out; omega))
  have e4 : ((bs.drop 60).drop 0).take 4 = bs.drop 60 := by rw [List.drop_zero]; exact List.take_of_length_le (by rw [List.length_drop, HL.out]; decide)
  rw [e4]
  clear hR hk e4
  go_wp2_with fail
  go_ret
  exact ⟨rfl, HB2.out⟩

/-- An exclusive or on its way: k bytes done. -/
def xl (xs ys : List Nat) (k : Nat) : List Nat := (List.range 64).map fun i => if i < k then xs.getD i 0 ^^^ ys.getD i 0 else xs.getD i 0
theorem xl_length (xs ys : List Nat) (k : Nat) : (xl xs ys k).length = 64 := by simp [xl]
theorem xl_at (xs ys : List Nat) (k : Nat) (h : k < 64) : (xl xs ys k).getD k 0 = xs.getD k 0 := by simp [xl, List.getD, h]
theorem xl_zero (xs ys : List Nat) (h : xs.length = 64) : xl xs ys 0 = xs := by
  apply list_eq_of_getD (n := 64) (xl_length _ _ _) h
  intro i hi
  simp [xl, List.getD, hi]
theorem xl_full (xs ys : List Nat) : xl xs ys 64 = zx xs ys 64 := by
  unfold xl zx
  apply List.map_congr_left
  intro i hi
  rw [if_pos (by simpa using hi)]
theorem xl_set (xs ys : List Nat) (k : Nat) (h : k < 64) : (xl xs ys k).set k (xs.getD k 0 ^^^ ys.getD k 0) = xl xs ys (k + 1) := by
  apply list_eq_of_getD (n := 64) (by rw [List.length_set, xl_length]) (xl_length _ _ _)
  intro i hi
  by_cases hk : k = i
  · subst hk
    simp [xl, List.getD, hi]
  · simp only [xl, List.getD, List.getElem?_set, if_neg hk]
    simp only [List.getElem?_map, List.getElem?_range hi, Option.map_some, Option.getD_some]
    by_cases h1 : i < k
    · rw [if_pos h1, if_pos (by omega)]
    · rw [if_neg h1, if_neg (by omega)]

theorem run_index_sec (w : World) (ys : List Nat) (k : Nat) (hk : k < 64) (hy : ys.length = 64) :
    (Instr.index 32 (.agg (bA ys)) (.int .i64 k)).run Try.prog w = .ok (.int .u8 (ys.getD k 0 : Nat)) w := by
  obtain ⟨i, hi⟩ := info_of_underlying (P := Try.prog) Try.underlying5
  have hs := run_sizeOf (P := Try.prog) w hi
  rw [Try.cellsByte] at hs
  have p1 := run_part_int (P := Try.prog) w Try.underlying5 (bA_at ys k (by omega))
  have hb : (0 : Int) ≤ k ∧ (k : Int) < (64 : Nat) := by omega
  simp only [Instr.index, asIntOf, Sem.run_bind, Sem.run_pure, Result.andThen_ok, run_underlying Try.underlying32, if_pos hb, hs, Int.toNat_natCast, Nat.mul_one, p1]

set_option maxRecDepth 100000 in
set_option maxHeartbeats 1000000 in
theorem xor_any (xs ys : List Nat) (w : World) (hx : xs.length = 64) (hy : ys.length = 64) (hxb : ∀ c ∈ xs, c < 256) (hyb : ∀ c ∈ ys, c < 256) :
    Calls Try.prog 19 #[.agg (bA xs), .agg (bA ys)] w fun e w' => e = .returned (.agg (bA (zx xs ys 64))) ∧ Below w.heap.size w w' := by
  have HX := Lib.hid hx
  have HY := Lib.hid hy
  have HXb := Lib.hid hxb
  have HYb := Lib.hid hyb
  have hz := zero_sec
  have hX : Blk (((w.alloc (Obj.cells (bA xs) 32)).alloc (Obj.cells (bA ys) 32)).alloc (Obj.cells (bA (zeros 64)) 32)) w.heap.size 32 (bA xs) := Blk.alloc (Blk.alloc (Blk.new w 32 (bA xs)) _) _
  have hY : Blk (((w.alloc (Obj.cells (bA xs) 32)).alloc (Obj.cells (bA ys) 32)).alloc (Obj.cells (bA (zeros 64)) 32)) (w.heap.size + 1) 32 (bA ys) := by
    have h := Blk.alloc (Blk.new (w.alloc (Obj.cells (bA xs) 32)) 32 (bA ys)) (Obj.cells (bA (zeros 64)) 32)
    rwa [show (w.alloc (Obj.cells (bA xs) 32)).heap.size = w.heap.size + 1 by simp] at h
  have hO : Blk (((w.alloc (Obj.cells (bA xs) 32)).alloc (Obj.cells (bA ys) 32)).alloc (Obj.cells (bA (zeros 64)) 32)) (w.heap.size + 2) 32 (bA (zeros 64)) := by
    have h := Blk.new ((w.alloc (Obj.cells (bA xs) 32)).alloc (Obj.cells (bA ys) 32)) 32 (bA (zeros 64))
    rwa [show ((w.alloc (Obj.cells (bA xs) 32)).alloc (Obj.cells (bA ys) 32)).heap.size = w.heap.size + 2 by simp] at h
  have hB : Below w.heap.size w (((w.alloc (Obj.cells (bA xs) 32)).alloc (Obj.cells (bA ys) 32)).alloc (Obj.cells (bA (zeros 64)) 32)) := bthen (below_alloc _ _) (bthen (below_alloc _ _) (below_alloc _ _))
  have HX0 := Lib.hid hX
  have HY0 := Lib.hid hY
  have HO0 := Lib.hid hO
  have HB0 := Lib.hid hB
  clear hx hy hxb hyb hX hY hO hB
  go_enter Try.func19, Try.ntmps19
  go_wp2_with (first | (refine wpl_load rfl _ rfl (w.heap.size + 1) rfl _ _ _ HY0.out Try.underlying32 rfl (info_sec HY.out) ?_; go_frame))
  clear hz
  generalize (((w.alloc (Obj.cells (bA xs) 32)).alloc (Obj.cells (bA ys) 32)).alloc (Obj.cells (bA (zeros 64)) 32)) = w0 at *
  go_loopw [8] (fun i wr => ∃ k : Nat, k ≤ 64 ∧ i = .int .i64 k ∧ Blk wr w.heap.size 32 (bA (xl xs ys k)) ∧ Kept (· = w.heap.size) w0 wr) (fun i _ => 64 - (intOf i).toNat)
  case atStart => exact ⟨0, Nat.zero_le _, rfl, by rw [xl_zero _ _ HX.out]; exact HX0.out, Kept.refl _ _⟩
  case round =>
    obtain ⟨k, hk, rfl, hg, hkp⟩ := hrel
    have Hg := Lib.hid hg
    have Hk := Lib.hid hkp
    clear hg hkp
    by_cases hlt : k < 64
    · have cx := (Hg.out.cell k).trans ((bA_at _ k (by rw [xl_length]; exact hlt)).trans (by rw [xl_at xs ys k hlt]))
      have fx := Hg.out.frozen k
      have cy := fun w => run_index_sec w ys k hlt HY.out
      have lx := getD_lt HXb.out k
      have ly := getD_lt HYb.out k
      have hxor := u8_xor_nat _ _ lx ly
      have hset := xl_set xs ys k hlt
      have hgs := Hg.out.set k (.int .u8 ((xs.getD k 0 ^^^ ys.getD k 0 : Nat)))
      rw [bA_set, hset] at hgs
      have Hgs := Lib.hid hgs
      clear hset hgs
      generalize xs.getD k 0 ^^^ ys.getD k 0 = v at *
      generalize xs.getD k 0 = x at *
      generalize ys.getD k 0 = y at *
      have hd : decide ((k : Int) < 64) = true := by simp; omega
      go_wp2_with fail
      go_roundw
      case rel => exact ⟨k + 1, by omega, by go_num, Hgs.out, Hk.out.setCell rfl _⟩
      case measure => simp [intOf]; omega
    · obtain rfl : k = 64 := by omega
      have Hg2 : Hid (Blk wr w.heap.size 32 (bA (zx xs ys 64))) := Lib.hid (by rw [← xl_full]; exact Hg.out)
      have HO2 := Lib.hid (HO0.out.kept Hk.out (by omega))
      have HB2 := Lib.hid (bkept HB0.out (Nat.le_refl _) Hk.out (fun i hi h => by omega))
      clear Hg Hk
      go_wp2_with (first | (refine wpl_load rfl _ rfl (w.heap.size) rfl _ _ _ Hg2.out Try.underlying32 rfl (info_sec (zx_length xs ys 64)) ?_; go_frame) | (refine wpl_store rfl _ _ rfl (w.heap.size + 2) (bA (zx xs ys 64)) rfl rfl _ _ HO2.out (info_sec (zx_length xs ys 64)) (by rw [bA_size, bA_size, zeros_length, zx_length]) (bA_one _) ?_; intro w3 hS3 hK3; have HS3 := Lib.hid hS3; have HK3 := Lib.hid hK3; clear hS3 hK3; go_frame))
      exact bodyPost_ret (v := .agg (bA (zx xs ys 64))) (results_cell_row Try.results19 _ _ (w.heap.size + 2) _ _ (0, 0) _ rfl HS3.out Try.underlying32 rfl (info_sec (zx_length xs ys 64))) rfl ⟨rfl, bkept HB2.out (Nat.le_refl _) HK3.out (fun i hi h => by omega)⟩

end Go.Proofs.Ytlkghdgomfcfkaa
