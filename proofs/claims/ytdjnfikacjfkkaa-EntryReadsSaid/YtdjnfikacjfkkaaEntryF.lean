/-
  Contracts of layer 4 (entry), fifth part: Of, among, Frame, Read and Fill.
-/
import Derived.Test.YtdjnfikacjfkkaaEntryE
namespace Go.Proofs.Ytdjnfikacjfkkaa
open Go.RowKit CrcM
set_option linter.unusedVariables false
set_option linter.unnecessarySimpa false
set_option linter.unusedSimpArgs false

/-- An entry, and an error or none. -/
def EnP (e : EnR) (x : Int) (w : World) (en : Ending) (w' : World) : Prop := en = .returned (.tuple #[.agg (enA e), .int .i64 x]) ∧ Below w.heap.size w w'

set_option maxRecDepth 100000 in
set_option maxHeartbeats 4000000 in
theorem eof_form (k : Int) (bs : List Nat) (w : World) (hl : bs.length = 44) (hb : ∀ c ∈ bs, c < 256) (hr : rB (sd k bs) = false) :
    Calls Try.prog 14 #[.int .i64 k, .agg (bA bs)] w (EnP en0 10 w) := by
  have HL := Lib.hid hl
  have Hs : Hid ((sd k bs).y.length = 32) := Lib.hid (sd_len hl)
  have Hsb : Hid (∀ c ∈ (sd k bs).y, c < 256) := Lib.hid (sd_lt hb)
  have Hb := Lib.hid hb
  have Hr := Lib.hid hr
  clear hr
  have hz := zero_en
  have hz4 := zero_44
  have HX0 : Hid (Blk ((w.alloc (Obj.cells (bA bs) 26)).alloc (Obj.cells (enA en0) 25)) w.heap.size 26 (bA bs)) := Lib.hid (Blk.alloc (Blk.new w 26 (bA bs)) _)
  have HO0 : Hid (Blk ((w.alloc (Obj.cells (bA bs) 26)).alloc (Obj.cells (enA en0) 25)) (w.heap.size + 1) 25 (enA en0)) := Lib.hid (by
    have h := Blk.new (w.alloc (Obj.cells (bA bs) 26)) 25 (enA en0)
    rwa [show (w.alloc (Obj.cells (bA bs) 26)).heap.size = w.heap.size + 1 by simp] at h)
  have HB0 : Hid (Below w.heap.size w ((w.alloc (Obj.cells (bA bs) 26)).alloc (Obj.cells (enA en0) 25))) := Lib.hid (bthen (below_alloc _ _) (below_alloc _ _))
  clear hl hb
  go_enter Try.func14, Try.ntmps14
  go_wp2_with (first | (refine wpl_load rfl _ rfl (w.heap.size) rfl _ _ _ HX0.out Try.underlying26 rfl (info_44 HL.out) ?_; go_frame))
  refine (said_any k bs _ HL.out Hb.out).mono ?_
  rintro en w1 ⟨rfl, hb1⟩
  generalize hsd : sd k bs = e at *
  have HX1 : Hid (Blk (w1.alloc (Obj.cells (enA e) 25)) w.heap.size 26 (bA bs)) := Lib.hid ((HX0.out.below hb1 HX0.out.lt).alloc _)
  have HO1 : Hid (Blk (w1.alloc (Obj.cells (enA e) 25)) (w.heap.size + 1) 25 (enA en0)) := Lib.hid ((HO0.out.below hb1 HO0.out.lt).alloc _)
  have HE1 : Hid (Blk (w1.alloc (Obj.cells (enA e) 25)) w1.heap.size 25 (enA e)) := Lib.hid (Blk.new _ _ _)
  have HB1 : Hid (Below w.heap.size w (w1.alloc (Obj.cells (enA e) 25))) := Lib.hid (bthen (bthen HB0.out hb1) (below_alloc _ _))
  clear hb1 HX0 HO0 HB0
  go_wp2_with (first | (refine wpl_store_new rfl _ _ rfl (enA e) w1 25 (enA en0) rfl rfl rfl (info_enA Hs.out) ((enA_size en0_len).trans (enA_size Hs.out).symm) enA_one ?_; go_frame) | (refine wpl_load rfl _ rfl (w1.heap.size) rfl _ _ _ HE1.out Try.underlying25 rfl (info_enA Hs.out) ?_; go_frame))
  generalize w1.alloc (Obj.cells (enA e) 25) = v1 at *
  refine (body_bad e _ Hs.out Hsb.out Hr.out).mono ?_
  rintro en w2 ⟨rfl, hb2⟩
  have HX2 : Hid (Blk (w2.alloc (Obj.cells (bA (zeros 44)) 26)) w.heap.size 26 (bA bs)) := Lib.hid ((HX1.out.below hb2 HX1.out.lt).alloc _)
  have HO2 : Hid (Blk (w2.alloc (Obj.cells (bA (zeros 44)) 26)) (w.heap.size + 1) 25 (enA en0)) := Lib.hid ((HO1.out.below hb2 HO1.out.lt).alloc _)
  have HE2 : Hid (Blk (w2.alloc (Obj.cells (bA (zeros 44)) 26)) w1.heap.size 25 (enA e)) := Lib.hid ((HE1.out.below hb2 HE1.out.lt).alloc _)
  have HN2 : Hid (Blk (w2.alloc (Obj.cells (bA (zeros 44)) 26)) w2.heap.size 26 (bA (zeros 44))) := Lib.hid (Blk.new _ _ _)
  have HB2 : Hid (Below w.heap.size w (w2.alloc (Obj.cells (bA (zeros 44)) 26))) := Lib.hid (bthen (bthen HB1.out hb2) (below_alloc _ _))
  clear hb2 HX1 HO1 HE1 HB1 hz
  go_wp2_with (first | (refine wpl_store_new rfl _ _ rfl (bA (zeros 44)) w2 26 (bA (zeros 44)) rfl rfl rfl (info_44 (zeros_length 44)) rfl (bA_one _) ?_; go_frame) | (refine wpl_build (by kernel_rfl) 25 _ rfl (.agg (enA en0)) (fun _ => by kernel_rfl) ?_; go_frame) | (refine wpl_store rfl _ _ rfl (w.heap.size + 1) (enA en0) rfl rfl _ _ HO2.out (info_enA en0_len) rfl enA_one ?_; intro w9 hS9 hK9; have HS9 := Lib.hid hS9; have HK9 := Lib.hid hK9; clear hS9 hK9; go_frame))
  exact bodyPost_ret (v := .tuple #[.agg (enA en0), .int .i64 10]) (results_cell_slot Try.results14 _ _ (w.heap.size + 1) _ _ _ _ rfl rfl HS9.out Try.underlying25 rfl (info_enA en0_len)) rfl ⟨rfl, bkept HB2.out (Nat.le_refl _) HK9.out (fun i hi h => by omega)⟩

set_option maxRecDepth 100000 in
set_option maxHeartbeats 4000000 in
theorem eof_unlike (k : Int) (bs : List Nat) (w : World) (hl : bs.length = 44) (hb : ∀ c ∈ bs, c < 256) (hr : rB (sd k bs) = true) (hd : ebod (sd k bs) ≠ bs) :
    Calls Try.prog 14 #[.int .i64 k, .agg (bA bs)] w (EnP en0 10 w) := by
  have HL := Lib.hid hl
  have Hs : Hid ((sd k bs).y.length = 32) := Lib.hid (sd_len hl)
  have Hsb : Hid (∀ c ∈ (sd k bs).y, c < 256) := Lib.hid (sd_lt hb)
  have Hb := Lib.hid hb
  have Hr := Lib.hid hr
  have Hd : Hid ((!decide (ebod (sd k bs) = bs)) = true) := Lib.hid (by simp [hd])
  clear hr hd
  have hz := zero_en
  have hz4 := zero_44
  have HX0 : Hid (Blk ((w.alloc (Obj.cells (bA bs) 26)).alloc (Obj.cells (enA en0) 25)) w.heap.size 26 (bA bs)) := Lib.hid (Blk.alloc (Blk.new w 26 (bA bs)) _)
  have HO0 : Hid (Blk ((w.alloc (Obj.cells (bA bs) 26)).alloc (Obj.cells (enA en0) 25)) (w.heap.size + 1) 25 (enA en0)) := Lib.hid (by
    have h := Blk.new (w.alloc (Obj.cells (bA bs) 26)) 25 (enA en0)
    rwa [show (w.alloc (Obj.cells (bA bs) 26)).heap.size = w.heap.size + 1 by simp] at h)
  have HB0 : Hid (Below w.heap.size w ((w.alloc (Obj.cells (bA bs) 26)).alloc (Obj.cells (enA en0) 25))) := Lib.hid (bthen (below_alloc _ _) (below_alloc _ _))
  clear hl hb
  go_enter Try.func14, Try.ntmps14
  go_wp2_with (first | (refine wpl_load rfl _ rfl (w.heap.size) rfl _ _ _ HX0.out Try.underlying26 rfl (info_44 HL.out) ?_; go_frame))
  refine (said_any k bs _ HL.out Hb.out).mono ?_
  rintro en w1 ⟨rfl, hb1⟩
  generalize hsd : sd k bs = e at *
  have HX1 : Hid (Blk (w1.alloc (Obj.cells (enA e) 25)) w.heap.size 26 (bA bs)) := Lib.hid ((HX0.out.below hb1 HX0.out.lt).alloc _)
  have HO1 : Hid (Blk (w1.alloc (Obj.cells (enA e) 25)) (w.heap.size + 1) 25 (enA en0)) := Lib.hid ((HO0.out.below hb1 HO0.out.lt).alloc _)
  have HE1 : Hid (Blk (w1.alloc (Obj.cells (enA e) 25)) w1.heap.size 25 (enA e)) := Lib.hid (Blk.new _ _ _)
  have HB1 : Hid (Below w.heap.size w (w1.alloc (Obj.cells (enA e) 25))) := Lib.hid (bthen (bthen HB0.out hb1) (below_alloc _ _))
  clear hb1 HX0 HO0 HB0
  go_wp2_with (first | (refine wpl_store_new rfl _ _ rfl (enA e) w1 25 (enA en0) rfl rfl rfl (info_enA Hs.out) ((enA_size en0_len).trans (enA_size Hs.out).symm) enA_one ?_; go_frame) | (refine wpl_load rfl _ rfl (w1.heap.size) rfl _ _ _ HE1.out Try.underlying25 rfl (info_enA Hs.out) ?_; go_frame))
  generalize w1.alloc (Obj.cells (enA e) 25) = v1 at *
  refine (body_ok e _ Hs.out Hsb.out Hr.out).mono ?_
  rintro en w2 ⟨rfl, hb2⟩
  have HX2 : Hid (Blk (w2.alloc (Obj.cells (bA (ebod e)) 26)) w.heap.size 26 (bA bs)) := Lib.hid ((HX1.out.below hb2 HX1.out.lt).alloc _)
  have HO2 : Hid (Blk (w2.alloc (Obj.cells (bA (ebod e)) 26)) (w.heap.size + 1) 25 (enA en0)) := Lib.hid ((HO1.out.below hb2 HO1.out.lt).alloc _)
  have HE2 : Hid (Blk (w2.alloc (Obj.cells (bA (ebod e)) 26)) w1.heap.size 25 (enA e)) := Lib.hid ((HE1.out.below hb2 HE1.out.lt).alloc _)
  have HN2 : Hid (Blk (w2.alloc (Obj.cells (bA (ebod e)) 26)) w2.heap.size 26 (bA (ebod e))) := Lib.hid (Blk.new _ _ _)
  have HB2 : Hid (Below w.heap.size w (w2.alloc (Obj.cells (bA (ebod e)) 26))) := Lib.hid (bthen (bthen HB1.out hb2) (below_alloc _ _))
  clear hb2 HX1 HO1 HE1 HB1 hz
  go_wp2_with (first | (refine wpl_store_new rfl _ _ rfl (bA (ebod e)) w2 26 (bA (zeros 44)) rfl rfl rfl (info_44 (ebod_length Hs.out)) ((bA_size _).trans ((zeros_length 44).trans ((bA_size _).trans (ebod_length Hs.out)).symm)) (bA_one _) ?_; go_frame) | (refine wpl_load_g (by kernel_rfl) _ rfl (w2.heap.size) rfl _ _ _ HN2.out Try.underlying26 rfl (info_44 (ebod_length Hs.out)) ?_; go_frame) | (refine wpl_load_g (by kernel_rfl) _ rfl (w.heap.size) rfl _ _ _ HX2.out Try.underlying26 rfl (info_44 HL.out) ?_; go_frame) | (refine wpl_run (by rfl) (.bool true) (exec_neq_sector ty44 _ _ _ rfl (ebod e) bs rfl rfl (ebod_length Hs.out) HL.out true Hd.out) ?_; go_frame) | (refine wpl_build (by kernel_rfl) 25 _ rfl (.agg (enA en0)) (fun _ => by kernel_rfl) ?_; go_frame) | (refine wpl_store rfl _ _ rfl (w.heap.size + 1) (enA en0) rfl rfl _ _ HO2.out (info_enA en0_len) rfl enA_one ?_; intro w9 hS9 hK9; have HS9 := Lib.hid hS9; have HK9 := Lib.hid hK9; clear hS9 hK9; go_frame))
  exact bodyPost_ret (v := .tuple #[.agg (enA en0), .int .i64 10]) (results_cell_slot Try.results14 _ _ (w.heap.size + 1) _ _ _ _ rfl rfl HS9.out Try.underlying25 rfl (info_enA en0_len)) rfl ⟨rfl, bkept HB2.out (Nat.le_refl _) HK9.out (fun i hi h => by omega)⟩

set_option maxRecDepth 100000 in
set_option maxHeartbeats 4000000 in
theorem eof_ok (k : Int) (bs : List Nat) (w : World) (hl : bs.length = 44) (hb : ∀ c ∈ bs, c < 256) (hr : rB (sd k bs) = true) (hd : ebod (sd k bs) = bs) :
    Calls Try.prog 14 #[.int .i64 k, .agg (bA bs)] w (EnP (sd k bs) 0 w) := by
  have HL := Lib.hid hl
  have Hs : Hid ((sd k bs).y.length = 32) := Lib.hid (sd_len hl)
  have Hsb : Hid (∀ c ∈ (sd k bs).y, c < 256) := Lib.hid (sd_lt hb)
  have Hb := Lib.hid hb
  have Hr := Lib.hid hr
  have Hd : Hid ((!decide (ebod (sd k bs) = bs)) = false) := Lib.hid (by simp [hd])
  clear hr hd
  have hz := zero_en
  have hz4 := zero_44
  have HX0 : Hid (Blk ((w.alloc (Obj.cells (bA bs) 26)).alloc (Obj.cells (enA en0) 25)) w.heap.size 26 (bA bs)) := Lib.hid (Blk.alloc (Blk.new w 26 (bA bs)) _)
  have HO0 : Hid (Blk ((w.alloc (Obj.cells (bA bs) 26)).alloc (Obj.cells (enA en0) 25)) (w.heap.size + 1) 25 (enA en0)) := Lib.hid (by
    have h := Blk.new (w.alloc (Obj.cells (bA bs) 26)) 25 (enA en0)
    rwa [show (w.alloc (Obj.cells (bA bs) 26)).heap.size = w.heap.size + 1 by simp] at h)
  have HB0 : Hid (Below w.heap.size w ((w.alloc (Obj.cells (bA bs) 26)).alloc (Obj.cells (enA en0) 25))) := Lib.hid (bthen (below_alloc _ _) (below_alloc _ _))
  clear hl hb
  go_enter Try.func14, Try.ntmps14
  go_wp2_with (first | (refine wpl_load rfl _ rfl (w.heap.size) rfl _ _ _ HX0.out Try.underlying26 rfl (info_44 HL.out) ?_; go_frame))
  refine (said_any k bs _ HL.out Hb.out).mono ?_
  rintro en w1 ⟨rfl, hb1⟩
  generalize hsd : sd k bs = e at *
  have HX1 : Hid (Blk (w1.alloc (Obj.cells (enA e) 25)) w.heap.size 26 (bA bs)) := Lib.hid ((HX0.out.below hb1 HX0.out.lt).alloc _)
  have HO1 : Hid (Blk (w1.alloc (Obj.cells (enA e) 25)) (w.heap.size + 1) 25 (enA en0)) := Lib.hid ((HO0.out.below hb1 HO0.out.lt).alloc _)
  have HE1 : Hid (Blk (w1.alloc (Obj.cells (enA e) 25)) w1.heap.size 25 (enA e)) := Lib.hid (Blk.new _ _ _)
  have HB1 : Hid (Below w.heap.size w (w1.alloc (Obj.cells (enA e) 25))) := Lib.hid (bthen (bthen HB0.out hb1) (below_alloc _ _))
  clear hb1 HX0 HO0 HB0
  go_wp2_with (first | (refine wpl_store_new rfl _ _ rfl (enA e) w1 25 (enA en0) rfl rfl rfl (info_enA Hs.out) ((enA_size en0_len).trans (enA_size Hs.out).symm) enA_one ?_; go_frame) | (refine wpl_load rfl _ rfl (w1.heap.size) rfl _ _ _ HE1.out Try.underlying25 rfl (info_enA Hs.out) ?_; go_frame))
  generalize w1.alloc (Obj.cells (enA e) 25) = v1 at *
  refine (body_ok e _ Hs.out Hsb.out Hr.out).mono ?_
  rintro en w2 ⟨rfl, hb2⟩
  have HX2 : Hid (Blk (w2.alloc (Obj.cells (bA (ebod e)) 26)) w.heap.size 26 (bA bs)) := Lib.hid ((HX1.out.below hb2 HX1.out.lt).alloc _)
  have HO2 : Hid (Blk (w2.alloc (Obj.cells (bA (ebod e)) 26)) (w.heap.size + 1) 25 (enA en0)) := Lib.hid ((HO1.out.below hb2 HO1.out.lt).alloc _)
  have HE2 : Hid (Blk (w2.alloc (Obj.cells (bA (ebod e)) 26)) w1.heap.size 25 (enA e)) := Lib.hid ((HE1.out.below hb2 HE1.out.lt).alloc _)
  have HN2 : Hid (Blk (w2.alloc (Obj.cells (bA (ebod e)) 26)) w2.heap.size 26 (bA (ebod e))) := Lib.hid (Blk.new _ _ _)
  have HB2 : Hid (Below w.heap.size w (w2.alloc (Obj.cells (bA (ebod e)) 26))) := Lib.hid (bthen (bthen HB1.out hb2) (below_alloc _ _))
  clear hb2 HX1 HO1 HE1 HB1 hz
  go_wp2_with (first | (refine wpl_store_new rfl _ _ rfl (bA (ebod e)) w2 26 (bA (zeros 44)) rfl rfl rfl (info_44 (ebod_length Hs.out)) ((bA_size _).trans ((zeros_length 44).trans ((bA_size _).trans (ebod_length Hs.out)).symm)) (bA_one _) ?_; go_frame) | (refine wpl_load_g (by kernel_rfl) _ rfl (w2.heap.size) rfl _ _ _ HN2.out Try.underlying26 rfl (info_44 (ebod_length Hs.out)) ?_; go_frame) | (refine wpl_load_g (by kernel_rfl) _ rfl (w.heap.size) rfl _ _ _ HX2.out Try.underlying26 rfl (info_44 HL.out) ?_; go_frame) | (refine wpl_run (by rfl) (.bool false) (exec_neq_sector ty44 _ _ _ rfl (ebod e) bs rfl rfl (ebod_length Hs.out) HL.out false Hd.out) ?_; go_frame) | (refine wpl_load rfl _ rfl (w1.heap.size) rfl _ _ _ HE2.out Try.underlying25 rfl (info_enA Hs.out) ?_; go_frame) | (refine wpl_store rfl _ _ rfl (w.heap.size + 1) (enA e) rfl rfl _ _ HO2.out (info_enA Hs.out) ((enA_size en0_len).trans (enA_size Hs.out).symm) enA_one ?_; intro w9 hS9 hK9; have HS9 := Lib.hid hS9; have HK9 := Lib.hid hK9; clear hS9 hK9; go_frame))
  exact bodyPost_ret (v := .tuple #[.agg (enA e), .int .i64 0]) (results_cell_slot Try.results14 _ _ (w.heap.size + 1) _ _ _ _ rfl rfl HS9.out Try.underlying25 rfl (info_enA Hs.out)) rfl ⟨rfl, bkept HB2.out (Nat.le_refl _) HK9.out (fun i hi h => by omega)⟩

/-- Is a body an entry's of a kind? -/
def ofB (k : Int) (bs : List Nat) : Bool := rB (sd k bs) && decide (ebod (sd k bs) = bs)
def ofV (k : Int) (bs : List Nat) : EnR := if ofB k bs = true then sd k bs else en0
def ofE (k : Int) (bs : List Nat) : Int := if ofB k bs = true then 0 else 10
theorem ofV_ok {k : Int} {bs : List Nat} (h : ofB k bs = true) : ofV k bs = sd k bs := if_pos h
theorem ofE_ok {k : Int} {bs : List Nat} (h : ofB k bs = true) : ofE k bs = 0 := if_pos h
theorem ofV_bad {k : Int} {bs : List Nat} (h : ofB k bs = false) : ofV k bs = en0 := if_neg (by rw [h]; decide)
theorem ofE_bad {k : Int} {bs : List Nat} (h : ofB k bs = false) : ofE k bs = 10 := if_neg (by rw [h]; decide)
theorem ofV_len {k : Int} {bs : List Nat} (h : bs.length = 44) : (ofV k bs).y.length = 32 := by
  unfold ofV; split
  · exact sd_len h
  · exact en0_len
theorem ofV_lt {k : Int} {bs : List Nat} (h : ∀ c ∈ bs, c < 256) : ∀ c ∈ (ofV k bs).y, c < 256 := by
  unfold ofV; split
  · exact sd_lt h
  · exact zeros_lt 32
theorem eof_any (k : Int) (bs : List Nat) (w : World) (hl : bs.length = 44) (hb : ∀ c ∈ bs, c < 256) : Calls Try.prog 14 #[.int .i64 k, .agg (bA bs)] w (EnP (ofV k bs) (ofE k bs) w) := by
  cases hr : rB (sd k bs) with
  | false =>
    have h : ofB k bs = false := by unfold ofB; rw [hr]; rfl
    rw [ofV_bad h, ofE_bad h]; exact eof_form k bs w hl hb hr
  | true =>
    by_cases hd : ebod (sd k bs) = bs
    · have h : ofB k bs = true := by unfold ofB; rw [hr, decide_eq_true hd]; rfl
      rw [ofV_ok h, ofE_ok h]; exact eof_ok k bs w hl hb hr hd
    · have h : ofB k bs = false := by unfold ofB; rw [hr, decide_eq_false hd]; rfl
      rw [ofV_bad h, ofE_bad h]; exact eof_unlike k bs w hl hb hr hd

/-- Is s one of an entry's numbers? -/
def amB (e : EnR) (s : Int) : Bool := decide (e.f ≤ s) && decide (s - e.f < e.c)

set_option maxRecDepth 100000 in
set_option maxHeartbeats 4000000 in
theorem among_f (e : EnR) (s : Int) (w : World) (h0 : 0 ≤ e.f) (hs : s ≤ 9223372036854775807) (h : ¬ e.f ≤ s) :
    Calls Try.prog 27 #[.agg (enA e), .int .i64 s] w fun en w' => en = .returned (.bool (amB e s)) ∧ Below w.heap.size w w' := by
  have hB := below_alloc w (Obj.cells (enA e) 25)
  have hF : Blk (w.alloc (Obj.cells (enA e) 25)) w.heap.size 25 (enA e) := Blk.new _ _ _
  have c1 := (hF.cell 1).trans (enA_at1 e)
  have c2 := (hF.cell 2).trans (enA_at2 e)
  have HB := Lib.hid hB
  have HK : Hid (amB e s = false) := Lib.hid (by unfold amB; rw [decide_eq_false h]; rfl)
  have d0 : decide (e.f ≤ s) = false := decide_eq_false h
  clear hF hB h h0 hs
  go_enter Try.func27, Try.ntmps27
  go_wp2_with fail
  go_ret
  exact ⟨ret_bool (by rw [HK.out]), HB.out⟩

set_option maxRecDepth 100000 in
set_option maxHeartbeats 4000000 in
theorem among_t (e : EnR) (s : Int) (w : World) (h0 : 0 ≤ e.f) (hs : s ≤ 9223372036854775807) (h : e.f ≤ s) :
    Calls Try.prog 27 #[.agg (enA e), .int .i64 s] w fun en w' => en = .returned (.bool (amB e s)) ∧ Below w.heap.size w w' := by
  have hB := below_alloc w (Obj.cells (enA e) 25)
  have hF : Blk (w.alloc (Obj.cells (enA e) 25)) w.heap.size 25 (enA e) := Blk.new _ _ _
  have c1 := (hF.cell 1).trans (enA_at1 e)
  have c2 := (hF.cell 2).trans (enA_at2 e)
  have HB := Lib.hid hB
  have HK : Hid (amB e s = decide (s - e.f < e.c)) := Lib.hid (by unfold amB; rw [decide_eq_true h]; rfl)
  have d0 : decide (e.f ≤ s) = true := decide_eq_true h
  have hw : IntKind.i64.wrap (s - e.f) = s - e.f := by rw [IntKind.wrap_i64]; omega
  clear hF hB h h0 hs
  go_enter Try.func27, Try.ntmps27
  go_wp2_with fail
  go_ret
  exact ⟨ret_bool (by rw [HK.out]), HB.out⟩

theorem among_any (e : EnR) (s : Int) (w : World) (h0 : 0 ≤ e.f) (hs : s ≤ 9223372036854775807) :
    Calls Try.prog 27 #[.agg (enA e), .int .i64 s] w fun en w' => en = .returned (.bool (amB e s)) ∧ Below w.heap.size w w' := by
  by_cases h : e.f ≤ s
  · exact among_t e s w h0 hs h
  · exact among_f e s w h0 hs h

/-- A filled block. -/
def fillL (x : Nat) : List Nat := List.replicate 32 x
theorem fillL_len (x : Nat) : (fillL x).length = 32 := by simp [fillL]
theorem fillL_lt {x : Nat} (h : x < 256) : ∀ c ∈ fillL x, c < 256 := by intro c hc; rw [(List.mem_replicate.1 hc).2]; exact h
theorem fill_set (x j : Nat) (hj : j < 32) : (List.replicate j x ++ zeros (32 - j)).set j x = List.replicate (j + 1) x ++ zeros (32 - (j + 1)) := by
  rw [List.set_append_right _ _ (by simp), List.length_replicate, Nat.sub_self, List.replicate_succ', List.append_assoc]
  congr 1
  have e : zeros (32 - j) = 0 :: zeros (32 - (j + 1)) := by
    unfold zeros; rw [show 32 - j = (32 - (j + 1)) + 1 by omega, List.replicate_succ]
  rw [e, List.set_cons_zero]
  rfl

set_option maxRecDepth 100000 in
set_option maxHeartbeats 4000000 in
theorem efill_any (x : Nat) (w : World) (hx : x < 256) :
    Calls Try.prog 20 #[.int .u8 (x : Nat)] w fun en w' => en = .returned (.agg (bA (fillL x))) ∧ Below w.heap.size w w' := by
  have hz := zero_block
  have HO : Hid (Blk ((w.alloc (Obj.cells (bA (zeros 32)) 23)).alloc (Obj.cells (bA (zeros 32)) 23)) w.heap.size 23 (bA (zeros 32))) := Lib.hid (Blk.alloc (Blk.new w 23 (bA (zeros 32))) _)
  have HN : Hid (Blk ((w.alloc (Obj.cells (bA (zeros 32)) 23)).alloc (Obj.cells (bA (zeros 32)) 23)) (w.heap.size + 1) 23 (bA (zeros 32))) := Lib.hid (by
    have h := Blk.new (w.alloc (Obj.cells (bA (zeros 32)) 23)) 23 (bA (zeros 32))
    rwa [show (w.alloc (Obj.cells (bA (zeros 32)) 23)).heap.size = w.heap.size + 1 by simp] at h)
  have HB : Hid (Below w.heap.size w ((w.alloc (Obj.cells (bA (zeros 32)) 23)).alloc (Obj.cells (bA (zeros 32)) 23))) := Lib.hid (bthen (below_alloc _ _) (below_alloc _ _))
  have HZ : Hid (w.heap.size + 1 < ((w.alloc (Obj.cells (bA (zeros 32)) 23)).alloc (Obj.cells (bA (zeros 32)) 23)).heap.size) := Lib.hid HN.out.lt
  go_enter Try.func20, Try.ntmps20
  go_wp2_with fail
  clear hz
  generalize ((w.alloc (Obj.cells (bA (zeros 32)) 23)).alloc (Obj.cells (bA (zeros 32)) 23)) = u7 at *
  go_loopw [4, 5] (fun _ i wr => ∃ j : Nat, j ≤ 32 ∧ i = .int .i64 j ∧ Blk wr (w.heap.size + 1) 23 (bA (List.replicate j x ++ zeros (32 - j))) ∧ Kept (· = w.heap.size + 1) u7 wr) (fun _ i _ => 32 - (intOf i).toNat)
  case atStart => exact ⟨0, Nat.zero_le _, rfl, HN.out, Kept.refl _ _⟩
  case round =>
    obtain ⟨j, hj, rfl, hg, hkp⟩ := hrel
    have Hg := Lib.hid hg
    have Hk := Lib.hid hkp
    clear hg hkp
    by_cases hlt : j < 32
    · have hgs := Hg.out.set j (.int .u8 (x : Nat))
      rw [bA_set, fill_set x j hlt] at hgs
      have Hgs := Lib.hid hgs
      have fx := Hg.out.frozen j
      have cx := (Hg.out.cell j).trans (bA_at _ j (by simp [zeros_length]; omega))
      generalize (List.replicate j x ++ zeros (32 - j)).getD j 0 = y at *
      clear hgs
      go_wp2_with fail
      go_roundw
      case rel => exact ⟨j + 1, by omega, by go_num, Hgs.out, Hk.out.setCell rfl _⟩
      case measure => simp [intOf]; omega
    · obtain rfl : j = 32 := by omega
      have Hg2 : Hid (Blk wr (w.heap.size + 1) 23 (bA (fillL x))) := Lib.hid (by have := Hg.out; simpa [zeros, fillL] using this)
      have HO2 := Lib.hid (HO.out.kept Hk.out (by omega))
      have HB2 := Lib.hid (bkept HB.out (Nat.le_refl _) Hk.out (fun i hi h => by omega))
      clear Hg Hk
      go_wp2_with (first | (refine wpl_load rfl _ rfl (w.heap.size + 1) rfl _ _ _ Hg2.out Try.underlying23 rfl (info_block (fillL_len x)) ?_; go_frame) | (refine wpl_store rfl _ _ rfl (w.heap.size) (bA (fillL x)) rfl rfl _ _ HO2.out (info_block (fillL_len x)) (by rw [bA_size, bA_size, zeros_length, fillL_len]) (bA_one _) ?_; intro w9 hS9 hK9; have HS9 := Lib.hid hS9; have HK9 := Lib.hid hK9; clear hS9 hK9; go_frame))
      exact bodyPost_ret (v := .agg (bA (fillL x))) (results_cell_row Try.results20 _ _ (w.heap.size) _ _ (0, 0) _ rfl HS9.out Try.underlying23 rfl (info_block (fillL_len x))) rfl ⟨rfl, bkept HB2.out (Nat.le_refl _) HK9.out (fun i hi h => by omega)⟩

end Go.Proofs.Ytdjnfikacjfkkaa
