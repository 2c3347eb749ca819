/-
  The walk of FrameFlips.
-/
import Derived.Test.YtlkghdgomfcfkaaFrameK
import Derived.Test.YtlkghdgomfcfkaaCrcBurstsW
namespace Go.Proofs.Ytlkghdgomfcfkaa
open Go.RowKit CrcM
set_option linter.unusedVariables false
set_option linter.unnecessarySimpa false
set_option linter.unusedSimpArgs false

theorem num_inj : ∀ xs ys : List Nat, xs.length = ys.length → (∀ c ∈ xs, c < 256) → (∀ c ∈ ys, c < 256) → num xs = num ys → xs = ys
  | [], [], _, _, _, _ => rfl
  | [], _ :: _, h, _, _, _ => by simp at h
  | _ :: _, [], h, _, _, _ => by simp at h
  | x :: xs, y :: ys, h, hx, hy, hn => by
    have h1 : x + 256 * num xs = y + 256 * num ys := hn
    have hx0 := hx x (by simp)
    have hy0 := hy y (by simp)
    have e : x = y := by omega
    subst e
    rw [num_inj xs ys (by simpa using h) (fun c hc => hx c (by simp [hc])) (fun c hc => hy c (by simp [hc])) (by omega)]

theorem xor_val (x k : Nat) (hx : x < 256) (hk : k < 8) : bits BinOp.xor IntKind.u8 (x : Int) (2 ^ k % 256) = ((x ^^^ 2 ^ k : Nat) : Int) := by
  have hp : 2 ^ k < 256 := Nat.lt_of_lt_of_le (Nat.pow_lt_pow_right (by decide) hk) (by decide)
  have e := u8_xor_nat x (2 ^ k) hx hp
  rw [show ((2 : Int) ^ k % 256) = ((2 ^ k : Nat) : Int) from by
    have h1 : ((2 ^ k % 256 : Nat) : Int) = (2 : Int) ^ k % 256 := by rw [Int.natCast_emod, Int.natCast_pow]; rfl
    rw [← h1, Nat.mod_eq_of_lt hp]]
  exact e

/-- One bit of a row of bytes is turned. -/
theorem flip_bit (bs : List Nat) (n at_ : Nat) (hl : bs.length = n) (hb : ∀ c ∈ bs, c < 256) (ha : at_ < 8 * n) :
    ∃ (x y : Nat) (bs' : List Nat), (bA bs)[at_ / 8]? = some (.int .u8 (x : Nat)) ∧ bits BinOp.xor IntKind.u8 (x : Int) (2 ^ (at_ % 8) % 256) = (y : Int) ∧
      (bA bs).setIfInBounds (at_ / 8) (.int .u8 (y : Nat)) = bA bs' ∧ bs'.length = n ∧ (∀ c ∈ bs', c < 256) ∧ num bs' = num bs ^^^ 2 ^ at_ := by
  have hk : at_ % 8 < 8 := Nat.mod_lt _ (by decide)
  have hi : at_ / 8 < bs.length := by omega
  have hx := getD_lt hb (at_ / 8)
  have hp : 2 ^ (at_ % 8) < 256 := Nat.lt_of_lt_of_le (Nat.pow_lt_pow_right (by decide) hk) (by decide)
  have e8 : 2 ^ (8 * (at_ / 8)) * 2 ^ (at_ % 8) = 2 ^ at_ := by rw [← Nat.pow_add]; congr 1; omega
  refine ⟨bs.getD (at_ / 8) 0, bs.getD (at_ / 8) 0 ^^^ 2 ^ (at_ % 8), _, bA_at bs _ hi, xor_val _ _ hx hk, bA_set bs _ _, by rw [List.length_set]; exact hl, set_lt hb (Nat.xor_lt_two_pow (n := 8) hx hp), ?_⟩
  rw [num_set bs _ _ hi hb hp, e8]

theorem leb_whole (n x : Nat) (h : x < 2 ^ (8 * n)) : num (leb n x) = x := by rw [leb_num, Nat.mod_eq_of_lt h]
theorem burst_fits (n word at_ : Nat) (hw : word < 4294967296) (ha : at_ + 32 ≤ 8 * n) : 2 ^ at_ * word < 2 ^ (8 * n) := by
  have h1 : 2 ^ at_ * word < 2 ^ at_ * 2 ^ 32 := Nat.mul_lt_mul_of_pos_left hw (Nat.two_pow_pos at_)
  rw [← Nat.pow_add] at h1
  exact Nat.lt_of_lt_of_le h1 (Nat.pow_le_pow_right (by decide) ha)

/-- A sector with a burst put into it is found. -/
theorem burst_found (f : FrR) (L : List Nat) (word at_ : Nat) (hl : f.b.length = 44) (hb : ∀ c ∈ f.b, c < 256) (hL : L.length = 64) (hLb : ∀ c ∈ L, c < 256) (hw : word < 4294967296) (h0 : word ≠ 0) (ha : at_ ≤ 480) (hn : num L = num (sec f) ^^^ 2 ^ at_ * word) : decE L = 11 := by
  have hq : num (leb 64 (2 ^ at_ * word)) = 2 ^ at_ * word := leb_whole 64 _ (burst_fits 64 word at_ hw (by omega))
  have e : L = zx (sec f) (leb 64 (2 ^ at_ * word)) 64 := by
    refine num_inj _ _ (by rw [hL, zx_length]) hLb (zx_lt (sec_lt hb) (leb_lt _ _) 64) ?_
    rw [num_zx_full _ _ 64 (sec_lt hb) (leb_lt _ _) (sec_length hl) (leb_length _ _), hq, hn]
  have hs : soundB L = false := by
    rw [e, spoilt_iff f _ hl hb (leb_length _ _) (leb_lt _ _), decide_eq_false_iff_not, ovr_num _ 0 (leb_lt _ _), Nat.zero_xor, leb_length, hq]
    exact hvs_burst hw h0 (by omega)
  unfold decE
  rw [hs]; simp

set_option maxRecDepth 100000 in
set_option maxHeartbeats 4000000 in
theorem walkFlips_bad (f : FrR) (word at_ : Int) (w : World) (hl : f.b.length = 44) (hb : ∀ c ∈ f.b, c < 256) (hr : rightB f = false) :
    Calls Try.prog 7 #[.agg (frA f), .int .u32 word, .int .i64 at_] w fun e w' => e = .returned (.bool true) ∧ Below w.heap.size w w' := by
  have HL := Lib.hid hl
  have Hb := Lib.hid hb
  have Hr := Lib.hid hr
  have hz1 := zero_tab
  have hz2 := zero_sec
  have hz3 := zero_fr
  have HF0 : Hid (Blk (w.alloc (Obj.cells (frA f) 24)) w.heap.size 24 (frA f)) := Lib.hid (Blk.new w 24 (frA f))
  have HB0 : Hid (Below w.heap.size w (w.alloc (Obj.cells (frA f) 24))) := Lib.hid (below_alloc _ _)
  clear hl hb hr
  go_enter Try.func7, Try.ntmps7
  go_wp2_with fail
  refine (anchor3_any _).mono ?_
  rintro e w1 ⟨rfl, hb1⟩
  have HF1 := Lib.hid (HF0.out.below hb1 HF0.out.lt)
  have HB1 := Lib.hid (bthen HB0.out hb1)
  clear hb1 HB0 HF0
  go_wp2_with fail
  refine (new_any _).mono ?_
  rintro e w2 ⟨rfl, hb2⟩
  have HT3 : Hid (Blk (w2.alloc (Obj.cells tbl 28)) w2.heap.size 28 tbl) := Lib.hid (Blk.new _ _ _)
  have HF3 := Lib.hid ((HF1.out.below hb2 HF1.out.lt).alloc (Obj.cells tbl 28))
  have HB3 : Hid (Below w.heap.size w (w2.alloc (Obj.cells tbl 28))) := Lib.hid (bthen (bthen HB1.out hb2) (below_alloc _ _))
  clear hb2 HB1 HF1
  go_wp2_with (first | (refine wpl_store_new rfl _ _ rfl (tbl) w2 28 (pt 0) rfl rfl rfl info_tbl (by rw [pt_size, tbl_size]) tbl_cells ?_; go_frame) | (refine wpl_load rfl _ rfl (w2.heap.size) rfl _ _ _ HT3.out Try.underlying28 rfl info_tbl ?_; go_frame) | (refine wpl_load rfl _ rfl (w.heap.size) rfl _ _ _ HF3.out Try.underlying24 rfl (info_frA HL.out) ?_; go_frame))
  clear hz1
  generalize w2.alloc (Obj.cells tbl 28) = w3 at *
  refine (encode_bad f _ HL.out Hb.out Hr.out).mono ?_
  rintro e w4 ⟨rfl, hb4⟩
  have HT4 := Lib.hid (HT3.out.below hb4 HT3.out.lt)
  have HF4 := Lib.hid (HF3.out.below hb4 HF3.out.lt)
  have HB4 := Lib.hid (bthen HB3.out hb4)
  clear hb4 HB3 HT3 HF3
  go_wp2_with (first | (refine wpl_store_new rfl _ _ rfl (bA (zeros 64)) w4 32 (bA (zeros 64)) rfl rfl rfl (info_sec (zeros_length 64)) ((bA_size _).trans ((zeros_length 64).trans ((bA_size _).trans (zeros_length 64)).symm)) (bA_one _) ?_; go_frame))
  go_ret
  exact ⟨rfl, bthen HB4.out (below_alloc _ _)⟩

set_option maxRecDepth 100000 in
set_option maxHeartbeats 4000000 in
theorem walkFlips_zero (f : FrR) (word at_ : Int) (w : World) (hl : f.b.length = 44) (hb : ∀ c ∈ f.b, c < 256) (hr : rightB f = true) (h0 : word = 0) :
    Calls Try.prog 7 #[.agg (frA f), .int .u32 word, .int .i64 at_] w fun e w' => e = .returned (.bool true) ∧ Below w.heap.size w w' := by
  have HL := Lib.hid hl
  have Hb := Lib.hid hb
  have Hr := Lib.hid hr
  have hz1 := zero_tab
  have hz2 := zero_sec
  have hz3 := zero_fr
  have HF0 : Hid (Blk (w.alloc (Obj.cells (frA f) 24)) w.heap.size 24 (frA f)) := Lib.hid (Blk.new w 24 (frA f))
  have HB0 : Hid (Below w.heap.size w (w.alloc (Obj.cells (frA f) 24))) := Lib.hid (below_alloc _ _)
  subst h0
  clear hl hb hr
  go_enter Try.func7, Try.ntmps7
  go_wp2_with fail
  refine (anchor3_any _).mono ?_
  rintro e w1 ⟨rfl, hb1⟩
  have HF1 := Lib.hid (HF0.out.below hb1 HF0.out.lt)
  have HB1 := Lib.hid (bthen HB0.out hb1)
  clear hb1 HB0 HF0
  go_wp2_with fail
  refine (new_any _).mono ?_
  rintro e w2 ⟨rfl, hb2⟩
  have HT3 : Hid (Blk (w2.alloc (Obj.cells tbl 28)) w2.heap.size 28 tbl) := Lib.hid (Blk.new _ _ _)
  have HF3 := Lib.hid ((HF1.out.below hb2 HF1.out.lt).alloc (Obj.cells tbl 28))
  have HB3 : Hid (Below w.heap.size w (w2.alloc (Obj.cells tbl 28))) := Lib.hid (bthen (bthen HB1.out hb2) (below_alloc _ _))
  clear hb2 HB1 HF1
  go_wp2_with (first | (refine wpl_store_new rfl _ _ rfl (tbl) w2 28 (pt 0) rfl rfl rfl info_tbl (by rw [pt_size, tbl_size]) tbl_cells ?_; go_frame) | (refine wpl_load rfl _ rfl (w2.heap.size) rfl _ _ _ HT3.out Try.underlying28 rfl info_tbl ?_; go_frame) | (refine wpl_load rfl _ rfl (w.heap.size) rfl _ _ _ HF3.out Try.underlying24 rfl (info_frA HL.out) ?_; go_frame))
  clear hz1
  generalize w2.alloc (Obj.cells tbl 28) = w3 at *
  refine (encode_ok f _ HL.out Hb.out Hr.out).mono ?_
  rintro e w4 ⟨rfl, hb4⟩
  have HT4 := Lib.hid (HT3.out.below hb4 HT3.out.lt)
  have HF4 := Lib.hid (HF3.out.below hb4 HF3.out.lt)
  have HB4 := Lib.hid (bthen HB3.out hb4)
  clear hb4 HB3 HT3 HF3
  go_wp2_with (first | (refine wpl_store_new rfl _ _ rfl (bA (sec f)) w4 32 (bA (zeros 64)) rfl rfl rfl (info_sec (sec_length HL.out)) ((bA_size _).trans ((zeros_length 64).trans ((bA_size _).trans (sec_length HL.out)).symm)) (bA_one _) ?_; go_frame))
  go_ret
  exact ⟨rfl, bthen HB4.out (below_alloc _ _)⟩

set_option maxRecDepth 100000 in
set_option maxHeartbeats 4000000 in
theorem walkFlips_neg (f : FrR) (word at_ : Int) (w : World) (hl : f.b.length = 44) (hb : ∀ c ∈ f.b, c < 256) (hr : rightB f = true) (h0 : word ≠ 0) (h1 : at_ < 0) :
    Calls Try.prog 7 #[.agg (frA f), .int .u32 word, .int .i64 at_] w fun e w' => e = .returned (.bool true) ∧ Below w.heap.size w w' := by
  have HL := Lib.hid hl
  have Hb := Lib.hid hb
  have Hr := Lib.hid hr
  have hz1 := zero_tab
  have hz2 := zero_sec
  have hz3 := zero_fr
  have HF0 : Hid (Blk (w.alloc (Obj.cells (frA f) 24)) w.heap.size 24 (frA f)) := Lib.hid (Blk.new w 24 (frA f))
  have HB0 : Hid (Below w.heap.size w (w.alloc (Obj.cells (frA f) 24))) := Lib.hid (below_alloc _ _)
  have d0 : ((word : Int) == 0) = false := by rw [beq_eq_false_iff_ne]; exact h0
  have d1 : decide (at_ < 0) = true := decide_eq_true h1
  clear h0
  clear hl hb hr
  go_enter Try.func7, Try.ntmps7
  go_wp2_with fail
  refine (anchor3_any _).mono ?_
  rintro e w1 ⟨rfl, hb1⟩
  have HF1 := Lib.hid (HF0.out.below hb1 HF0.out.lt)
  have HB1 := Lib.hid (bthen HB0.out hb1)
  clear hb1 HB0 HF0
  go_wp2_with fail
  refine (new_any _).mono ?_
  rintro e w2 ⟨rfl, hb2⟩
  have HT3 : Hid (Blk (w2.alloc (Obj.cells tbl 28)) w2.heap.size 28 tbl) := Lib.hid (Blk.new _ _ _)
  have HF3 := Lib.hid ((HF1.out.below hb2 HF1.out.lt).alloc (Obj.cells tbl 28))
  have HB3 : Hid (Below w.heap.size w (w2.alloc (Obj.cells tbl 28))) := Lib.hid (bthen (bthen HB1.out hb2) (below_alloc _ _))
  clear hb2 HB1 HF1
  go_wp2_with (first | (refine wpl_store_new rfl _ _ rfl (tbl) w2 28 (pt 0) rfl rfl rfl info_tbl (by rw [pt_size, tbl_size]) tbl_cells ?_; go_frame) | (refine wpl_load rfl _ rfl (w2.heap.size) rfl _ _ _ HT3.out Try.underlying28 rfl info_tbl ?_; go_frame) | (refine wpl_load rfl _ rfl (w.heap.size) rfl _ _ _ HF3.out Try.underlying24 rfl (info_frA HL.out) ?_; go_frame))
  clear hz1
  generalize w2.alloc (Obj.cells tbl 28) = w3 at *
  refine (encode_ok f _ HL.out Hb.out Hr.out).mono ?_
  rintro e w4 ⟨rfl, hb4⟩
  have HT4 := Lib.hid (HT3.out.below hb4 HT3.out.lt)
  have HF4 := Lib.hid (HF3.out.below hb4 HF3.out.lt)
  have HB4 := Lib.hid (bthen HB3.out hb4)
  clear hb4 HB3 HT3 HF3
  go_wp2_with (first | (refine wpl_store_new rfl _ _ rfl (bA (sec f)) w4 32 (bA (zeros 64)) rfl rfl rfl (info_sec (sec_length HL.out)) ((bA_size _).trans ((zeros_length 64).trans ((bA_size _).trans (sec_length HL.out)).symm)) (bA_one _) ?_; go_frame))
  go_ret
  exact ⟨rfl, bthen HB4.out (below_alloc _ _)⟩

set_option maxRecDepth 100000 in
set_option maxHeartbeats 4000000 in
theorem walkFlips_far (f : FrR) (word at_ : Int) (w : World) (hl : f.b.length = 44) (hb : ∀ c ∈ f.b, c < 256) (hr : rightB f = true) (h0 : word ≠ 0) (h1 : 480 < at_) :
    Calls Try.prog 7 #[.agg (frA f), .int .u32 word, .int .i64 at_] w fun e w' => e = .returned (.bool true) ∧ Below w.heap.size w w' := by
  have HL := Lib.hid hl
  have Hb := Lib.hid hb
  have Hr := Lib.hid hr
  have hz1 := zero_tab
  have hz2 := zero_sec
  have hz3 := zero_fr
  have HF0 : Hid (Blk (w.alloc (Obj.cells (frA f) 24)) w.heap.size 24 (frA f)) := Lib.hid (Blk.new w 24 (frA f))
  have HB0 : Hid (Below w.heap.size w (w.alloc (Obj.cells (frA f) 24))) := Lib.hid (below_alloc _ _)
  have d0 : ((word : Int) == 0) = false := by rw [beq_eq_false_iff_ne]; exact h0
  have d1 : decide (at_ < 0) = false := decide_eq_false (by omega)
  have d2 : decide (480 < at_) = true := decide_eq_true h1
  clear h0
  clear hl hb hr
  go_enter Try.func7, Try.ntmps7
  go_wp2_with fail
  refine (anchor3_any _).mono ?_
  rintro e w1 ⟨rfl, hb1⟩
  have HF1 := Lib.hid (HF0.out.below hb1 HF0.out.lt)
  have HB1 := Lib.hid (bthen HB0.out hb1)
  clear hb1 HB0 HF0
  go_wp2_with fail
  refine (new_any _).mono ?_
  rintro e w2 ⟨rfl, hb2⟩
  have HT3 : Hid (Blk (w2.alloc (Obj.cells tbl 28)) w2.heap.size 28 tbl) := Lib.hid (Blk.new _ _ _)
  have HF3 := Lib.hid ((HF1.out.below hb2 HF1.out.lt).alloc (Obj.cells tbl 28))
  have HB3 : Hid (Below w.heap.size w (w2.alloc (Obj.cells tbl 28))) := Lib.hid (bthen (bthen HB1.out hb2) (below_alloc _ _))
  clear hb2 HB1 HF1
  go_wp2_with (first | (refine wpl_store_new rfl _ _ rfl (tbl) w2 28 (pt 0) rfl rfl rfl info_tbl (by rw [pt_size, tbl_size]) tbl_cells ?_; go_frame) | (refine wpl_load rfl _ rfl (w2.heap.size) rfl _ _ _ HT3.out Try.underlying28 rfl info_tbl ?_; go_frame) | (refine wpl_load rfl _ rfl (w.heap.size) rfl _ _ _ HF3.out Try.underlying24 rfl (info_frA HL.out) ?_; go_frame))
  clear hz1
  generalize w2.alloc (Obj.cells tbl 28) = w3 at *
  refine (encode_ok f _ HL.out Hb.out Hr.out).mono ?_
  rintro e w4 ⟨rfl, hb4⟩
  have HT4 := Lib.hid (HT3.out.below hb4 HT3.out.lt)
  have HF4 := Lib.hid (HF3.out.below hb4 HF3.out.lt)
  have HB4 := Lib.hid (bthen HB3.out hb4)
  clear hb4 HB3 HT3 HF3
  go_wp2_with (first | (refine wpl_store_new rfl _ _ rfl (bA (sec f)) w4 32 (bA (zeros 64)) rfl rfl rfl (info_sec (sec_length HL.out)) ((bA_size _).trans ((zeros_length 64).trans ((bA_size _).trans (sec_length HL.out)).symm)) (bA_one _) ?_; go_frame))
  go_ret
  exact ⟨rfl, bthen HB4.out (below_alloc _ _)⟩

set_option maxRecDepth 100000 in
set_option maxHeartbeats 4000000 in
theorem walkFlips_in (f : FrR) (word at_ : Nat) (w : World) (hl : f.b.length = 44) (hb : ∀ c ∈ f.b, c < 256) (hr : rightB f = true) (hw : word < 4294967296) (h0 : word ≠ 0) (ha : at_ ≤ 480) :
    Calls Try.prog 7 #[.agg (frA f), .int .u32 word, .int .i64 at_] w fun e w' => e = .returned (.bool true) ∧ Below w.heap.size w w' := by
  have HL := Lib.hid hl
  have Hb := Lib.hid hb
  have Hr := Lib.hid hr
  have hz1 := zero_tab
  have hz2 := zero_sec
  have hz3 := zero_fr
  have HF0 : Hid (Blk (w.alloc (Obj.cells (frA f) 24)) w.heap.size 24 (frA f)) := Lib.hid (Blk.new w 24 (frA f))
  have HB0 : Hid (Below w.heap.size w (w.alloc (Obj.cells (frA f) 24))) := Lib.hid (below_alloc _ _)
  have H0 := Lib.hid h0
  have d0 : ((word : Int) == 0) = false := by rw [beq_eq_false_iff_ne]; omega
  have d1 : decide ((at_ : Int) < 0) = false := decide_eq_false (by omega)
  have d2 : decide ((480 : Int) < (at_ : Int)) = false := decide_eq_false (by omega)
  clear h0
  clear hl hb hr
  go_enter Try.func7, Try.ntmps7
  go_wp2_with fail
  refine (anchor3_any _).mono ?_
  rintro e w1 ⟨rfl, hb1⟩
  have HF1 := Lib.hid (HF0.out.below hb1 HF0.out.lt)
  have HB1 := Lib.hid (bthen HB0.out hb1)
  clear hb1 HB0 HF0
  go_wp2_with fail
  refine (new_any _).mono ?_
  rintro e w2 ⟨rfl, hb2⟩
  have HT3 : Hid (Blk (w2.alloc (Obj.cells tbl 28)) w2.heap.size 28 tbl) := Lib.hid (Blk.new _ _ _)
  have HF3 := Lib.hid ((HF1.out.below hb2 HF1.out.lt).alloc (Obj.cells tbl 28))
  have HB3 : Hid (Below w.heap.size w (w2.alloc (Obj.cells tbl 28))) := Lib.hid (bthen (bthen HB1.out hb2) (below_alloc _ _))
  clear hb2 HB1 HF1
  go_wp2_with (first | (refine wpl_store_new rfl _ _ rfl (tbl) w2 28 (pt 0) rfl rfl rfl info_tbl (by rw [pt_size, tbl_size]) tbl_cells ?_; go_frame) | (refine wpl_load rfl _ rfl (w2.heap.size) rfl _ _ _ HT3.out Try.underlying28 rfl info_tbl ?_; go_frame) | (refine wpl_load rfl _ rfl (w.heap.size) rfl _ _ _ HF3.out Try.underlying24 rfl (info_frA HL.out) ?_; go_frame))
  clear hz1
  generalize w2.alloc (Obj.cells tbl 28) = w3 at *
  refine (encode_ok f _ HL.out Hb.out Hr.out).mono ?_
  rintro e w4 ⟨rfl, hb4⟩
  have HT4 := Lib.hid (HT3.out.below hb4 HT3.out.lt)
  have HF4 := Lib.hid (HF3.out.below hb4 HF3.out.lt)
  have HB4 := Lib.hid (bthen HB3.out hb4)
  clear hb4 HB3 HT3 HF3
  have HS5 : Hid (Blk (w4.alloc (Obj.cells (bA (sec f)) 32)) w4.heap.size 32 (bA (sec f))) := Lib.hid (Blk.new _ _ _)
  have HLt : Hid (w2.heap.size < w4.heap.size) := Lib.hid HT4.out.lt
  have HLw : Hid (w.heap.size ≤ w4.heap.size) := Lib.hid HB4.out.size
  have HT5 := Lib.hid (HT4.out.alloc (Obj.cells (bA (sec f)) 32))
  have HF5 := Lib.hid (HF4.out.alloc (Obj.cells (bA (sec f)) 32))
  have HB5 := Lib.hid (bthen HB4.out (below_alloc w4 (Obj.cells (bA (sec f)) 32)))
  clear HB4 HT4 HF4
  go_wp2_with (first | (refine wpl_store_new rfl _ _ rfl (bA (sec f)) w4 32 (bA (zeros 64)) rfl rfl rfl (info_sec (sec_length HL.out)) ((bA_size _).trans ((zeros_length 64).trans ((bA_size _).trans (sec_length HL.out)).symm)) (bA_one _) ?_; go_frame))
  clear d0 d1 d2 hz2
  generalize w4.alloc (Obj.cells (bA (sec f)) 32) = w5 at *
  go_loopw [36] (fun i wr => ∃ (m : Nat) (L : List Nat), m ≤ 32 ∧ i = .int .i64 m ∧ L.length = 64 ∧ (∀ c ∈ L, c < 256) ∧ num L = num (sec f) ^^^ 2 ^ at_ * (word % 2 ^ m) ∧ Blk wr w4.heap.size 32 (bA L) ∧ Kept (· = w4.heap.size) w5 wr) (fun i _ => 32 - (intOf i).toNat)
  case atStart => exact ⟨0, sec f, Nat.zero_le _, rfl, sec_length HL.out, sec_lt Hb.out, by rw [Nat.pow_zero, Nat.mod_one, Nat.mul_zero, Nat.xor_zero], HS5.out, Kept.refl _ _⟩
  case round =>
    obtain ⟨m, L, hm, rfl, hLl, hLb, hn, hg, hk⟩ := hrel
    have Hl := Lib.hid hLl
    have Hlb := Lib.hid hLb
    have Hn := Lib.hid hn
    have Hg := Lib.hid hg
    have Hk := Lib.hid hk
    clear hLl hLb hn hg hk
    by_cases hlm : m < 32
    · have ht := bit_test word m hw
      cases hbit : word.testBit m with
      | true =>
        rw [hbit] at ht
        have Hbit := Lib.hid hbit
        clear hbit
        obtain ⟨x, y, bs', g1, g2, g3, g4, g5, g6⟩ := flip_bit L 64 (at_ + m) Hl.out Hlb.out (by omega)
        rw [Hn.out, Nat.xor_assoc, burst_next word at_ m Hbit.out] at g6
        have cx := (Hg.out.cell ((at_ + m) / 8)).trans g1
        have fx := Hg.out.frozen ((at_ + m) / 8)
        have hgs := Hg.out.set ((at_ + m) / 8) (.int .u8 (y : Nat))
        rw [g3] at hgs
        have Hgs := Lib.hid hgs
        have G4 := Lib.hid g4
        have G5 := Lib.hid g5
        have G6 := Lib.hid g6
        clear g1 g3 g4 g5 g6 hgs
        go_wp2_with fail
        go_roundw
        case rel => exact ⟨m + 1, bs', by omega, by go_num, G4.out, G5.out, G6.out, Hgs.out, Hk.out.setCell rfl _⟩
        case measure => simp [intOf]; omega
      | false =>
        rw [hbit] at ht
        have Hbit := Lib.hid hbit
        clear hbit
        go_wp2_with fail
        go_roundw
        case rel => exact ⟨m + 1, L, by omega, by go_num, Hl.out, Hlb.out, by rw [Hn.out, burst_same word at_ m Hbit.out], Hg.out, Hk.out⟩
        case measure => simp [intOf]; omega
    · obtain rfl : m = 32 := by omega
      have hE : decE L = 11 := burst_found f L word at_ HL.out Hb.out Hl.out Hlb.out hw H0.out ha (by rw [Hn.out, Nat.mod_eq_of_lt (by simpa using hw)])
      have HE := Lib.hid hE
      have HT6 := Lib.hid (HT5.out.kept Hk.out (by have := HLt.out; omega))
      have HB6 := Lib.hid (bkept HB5.out (Nat.le_refl _) Hk.out (fun i hi h => by have := HLw.out; omega))
      clear hE HS5 HT5 HF5 HB5 Hk
      go_wp2_with (first | (refine wpl_load rfl _ rfl (w2.heap.size) rfl _ _ _ HT6.out Try.underlying28 rfl info_tbl ?_; go_frame) | (refine wpl_load rfl _ rfl (w4.heap.size) rfl _ _ _ Hg.out Try.underlying32 rfl (info_sec Hl.out) ?_; go_frame))
      refine (decode_any L _ Hl.out Hlb.out).mono ?_
      rintro e w7 ⟨rfl, hb7⟩
      rw [HE.out]
      have HB7 := Lib.hid (bthen HB6.out hb7)
      clear hb7 HB6 HT6 Hg
      go_wp2_with (first | (refine wpl_store_new rfl _ _ rfl (frA (decF L)) w7 24 (frA fr0) rfl rfl rfl (info_frA (decF_len Hl.out)) ((frA_size fr0_len).trans (frA_size (decF_len Hl.out)).symm) frA_one ?_; go_frame))
      go_ret
      exact ⟨rfl, bthen HB7.out (below_alloc _ _)⟩

theorem walkFrameFlips (f : FrR) (word at_ : Int) (w : World) (hf : FrOk f) (hw : (Lit.int .u32 word).wf = true) (ha : (Lit.int .i64 at_).wf = true) :
    Calls Try.prog 7 #[.agg (frA f), .int .u32 word, .int .i64 at_] w fun e w' => e = .returned (.bool true) ∧ Below w.heap.size w w' := by
  have b1 : 0 ≤ word ∧ word ≤ 4294967295 := by
    have h := hw
    simp only [Lit.wf, IntKind.min, IntKind.max, IntKind.signed, IntKind.bits, Bool.and_eq_true, decide_eq_true_eq] at h
    simpa using h
  cases hr : rightB f with
  | false => exact walkFlips_bad f word at_ w hf.len hf.lt hr
  | true =>
    by_cases h0 : word = 0
    · exact walkFlips_zero f word at_ w hf.len hf.lt hr h0
    · by_cases h1 : at_ < 0
      · exact walkFlips_neg f word at_ w hf.len hf.lt hr h0 h1
      · by_cases h2 : 480 < at_
        · exact walkFlips_far f word at_ w hf.len hf.lt hr h0 h2
        · obtain ⟨x, rfl⟩ := Int.eq_ofNat_of_zero_le b1.1
          obtain ⟨y, rfl⟩ := Int.eq_ofNat_of_zero_le (a := at_) (by omega)
          exact walkFlips_in f x y w hf.len hf.lt hr (by omega) (by omega) (by omega)

end Go.Proofs.Ytlkghdgomfcfkaa
