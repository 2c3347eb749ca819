import Derived.Test.YtlngdndamgopeaaMg04
import Derived.OrdersHeld
import Derived.Deep.RegionHeld
import Derived.Deep.MidRow
/-
  Layer 3 (frame), sixth part: At, Sum, Xor.
-/
namespace Go.Proofs.Ytlngdndamgopeaa
open Go.RowKit CrcM
set_option linter.unusedVariables false
set_option linter.unnecessarySimpa false
set_option linter.unusedSimpArgs false

/-- At's error and frame. -/
def atE (bs : List Nat) (zn of : Int) : Int := if decE bs = 0 then (if (decF bs).z = zn ∧ (decF bs).o = of then 0 else 12) else decE bs
def atF (bs : List Nat) (zn of : Int) : FrR := if decE bs = 0 ∧ (decF bs).z = zn ∧ (decF bs).o = of then decF bs else fr0

theorem atF_len {bs : List Nat} (h : bs.length = 64) (zn of : Int) : (atF bs zn of).b.length = 44 := by
  unfold atF; split
  · exact decF_len h
  · exact fr0_len

theorem run_slice_60 (w : World) (g : Nat) :
    (Instr.sliceAt 34 (.pointer (some ⟨g, 0, none⟩)) (some (.int .i64 60)) none none).run Try.prog w = .ok (.slice (some ⟨g, 60, none⟩) 4 4) w := by
  obtain ⟨i0, hi, hz0, hz1, hz2⟩ := info_parts Try.infoByte
  simp [Instr.sliceAt, Instr.sureAddr, Instr.sliceBounds, Instr.sliceBound, run_underlying Try.underlying34, asIntOf, sizeOf, typeInfo, hi, hz1, Addr.add]

/-- An exclusive or on its way: k bytes done. -/
def xl (xs ys : List Nat) (k : Nat) : List Nat := (List.range 64).map fun i => if i < k then xs.getD i 0 ^^^ ys.getD i 0 else xs.getD i 0
theorem xl_length (xs ys : List Nat) (k : Nat) : (xl xs ys k).length = 64 := by simp [xl]
theorem xl_at (xs ys : List Nat) (k : Nat) (h : k < 64) : (xl xs ys k).getD k 0 = xs.getD k 0 := by simp [xl, List.getD, h]
theorem xl_zero (xs ys : List Nat) (h : xs.length = 64) : xl xs ys 0 = xs := by
  apply list_eq_of_getD (n := 64) (xl_length _ _ _) h
  intro i hi
  simp [xl, List.getD, hi]
theorem xl_full (xs ys : List Nat) : xl xs ys 64 = zx xs ys 64 := by
  unfold xl zx
  apply List.map_congr_left
  intro i hi
  rw [if_pos (by simpa using hi)]
theorem xl_set (xs ys : List Nat) (k : Nat) (h : k < 64) : (xl xs ys k).set k (xs.getD k 0 ^^^ ys.getD k 0) = xl xs ys (k + 1) := by
  apply list_eq_of_getD (n := 64) (by rw [List.length_set, xl_length]) (xl_length _ _ _)
  intro i hi
  by_cases hk : k = i
  · subst hk
    simp [xl, List.getD, hi]
  · simp only [xl, List.getD, List.getElem?_set, if_neg hk]
    simp only [List.getElem?_map, List.getElem?_range hi, Option.map_some, Option.getD_some]
    by_cases h1 : i < k
    · rw [if_pos h1, if_pos (by omega)]
    · rw [if_neg h1, if_neg (by omega)]

theorem run_index_sec (w : World) (ys : List Nat) (k : Nat) (hk : k < 64) (hy : ys.length = 64) :
    (Instr.index 34 (.agg (bA ys)) (.int .i64 k)).run Try.prog w = .ok (.int .u8 (ys.getD k 0 : Nat)) w := by
  obtain ⟨i, hi⟩ := info_of_underlying (P := Try.prog) Try.underlying5
  have hs := run_sizeOf (P := Try.prog) w hi
  rw [Try.cellsByte] at hs
  have p1 := run_part_int (P := Try.prog) w Try.underlying5 (bA_at ys k (by omega))
  have hb : (0 : Int) ≤ k ∧ (k : Int) < (64 : Nat) := by omega
  simp only [Instr.index, asIntOf, Sem.run_bind, Sem.run_pure, Result.andThen_ok, run_underlying Try.underlying34, if_pos hb, hs, Int.toNat_natCast, Nat.mul_one, p1]

set_option maxRecDepth 100000 in
set_option maxHeartbeats 1000000 in
theorem xor_any (xs ys : List Nat) (w : World) (hx : xs.length = 64) (hy : ys.length = 64) (hxb : ∀ c ∈ xs, c < 256) (hyb : ∀ c ∈ ys, c < 256) :
    Calls Try.prog 27 #[.agg (bA xs), .agg (bA ys)] w fun e w' => e = .returned (.agg (bA (zx xs ys 64))) ∧ Below w.heap.size w w' := by
  have HX := Lib.hid hx
  have HY := Lib.hid hy
  have HXb := Lib.hid hxb
  have HYb := Lib.hid hyb
  have hz := zero_sec
  have hX : Blk (((w.alloc (Obj.cells (bA xs) 34)).alloc (Obj.cells (bA ys) 34)).alloc (Obj.cells (bA (zeros 64)) 34)) w.heap.size 34 (bA xs) := Blk.alloc (Blk.alloc (Blk.new w 34 (bA xs)) _) _
  have hY : Blk (((w.alloc (Obj.cells (bA xs) 34)).alloc (Obj.cells (bA ys) 34)).alloc (Obj.cells (bA (zeros 64)) 34)) (w.heap.size + 1) 34 (bA ys) := by
    have h := Blk.alloc (Blk.new (w.alloc (Obj.cells (bA xs) 34)) 34 (bA ys)) (Obj.cells (bA (zeros 64)) 34)
    rwa [show (w.alloc (Obj.cells (bA xs) 34)).heap.size = w.heap.size + 1 by simp] at h
  have hO : Blk (((w.alloc (Obj.cells (bA xs) 34)).alloc (Obj.cells (bA ys) 34)).alloc (Obj.cells (bA (zeros 64)) 34)) (w.heap.size + 2) 34 (bA (zeros 64)) := by
    have h := Blk.new ((w.alloc (Obj.cells (bA xs) 34)).alloc (Obj.cells (bA ys) 34)) 34 (bA (zeros 64))
    rwa [show ((w.alloc (Obj.cells (bA xs) 34)).alloc (Obj.cells (bA ys) 34)).heap.size = w.heap.size + 2 by simp] at h
  have hB : Below w.heap.size w (((w.alloc (Obj.cells (bA xs) 34)).alloc (Obj.cells (bA ys) 34)).alloc (Obj.cells (bA (zeros 64)) 34)) := bthen (below_alloc _ _) (bthen (below_alloc _ _) (below_alloc _ _))
  have HX0 := Lib.hid hX
  have HY0 := Lib.hid hY
  have HO0 := Lib.hid hO
  have HB0 := Lib.hid hB
  clear hx hy hxb hyb hX hY hO hB
  go_enter Try.func27, Try.ntmps27
  go_wp2_with (first | (refine wpl_load rfl _ rfl (w.heap.size + 1) rfl _ _ _ HY0.out Try.underlying34 rfl (info_sec HY.out) ?_; go_frame))
  clear hz
  generalize (((w.alloc (Obj.cells (bA xs) 34)).alloc (Obj.cells (bA ys) 34)).alloc (Obj.cells (bA (zeros 64)) 34)) = w0 at *
  go_loopw [8] (fun i wr => ∃ k : Nat, k ≤ 64 ∧ i = .int .i64 k ∧ Blk wr w.heap.size 34 (bA (xl xs ys k)) ∧ Kept (· = w.heap.size) w0 wr) (fun i _ => 64 - (intOf i).toNat)
  case atStart => exact ⟨0, Nat.zero_le _, rfl, by rw [xl_zero _ _ HX.out]; exact HX0.out, Kept.refl _ _⟩
  case round =>
    obtain ⟨k, hk, rfl, hg, hkp⟩ := hrel
    have Hg := Lib.hid hg
    have Hk := Lib.hid hkp
    clear hg hkp
    by_cases hlt : k < 64
    · have cx := (Hg.out.cell k).trans ((bA_at _ k (by rw [xl_length]; exact hlt)).trans (by rw [xl_at xs ys k hlt]))
      have fx := Hg.out.frozen k
      have cy := fun w => run_index_sec w ys k hlt HY.out
      have lx := getD_lt HXb.out k
      have ly := getD_lt HYb.out k
      have hxor := u8_xor_nat _ _ lx ly
      have hset := xl_set xs ys k hlt
      have hgs := Hg.out.set k (.int .u8 ((xs.getD k 0 ^^^ ys.getD k 0 : Nat)))
      rw [bA_set, hset] at hgs
      have Hgs := Lib.hid hgs
      clear hset hgs
      generalize xs.getD k 0 ^^^ ys.getD k 0 = v at *
      generalize xs.getD k 0 = x at *
      generalize ys.getD k 0 = y at *
      have hd : decide ((k : Int) < 64) = true := by simp; omega
      go_wp2_with fail
      go_roundw
      case rel => exact ⟨k + 1, by omega, by go_num, Hgs.out, Hk.out.setCell rfl _⟩
      case measure => simp [intOf]; omega
    · obtain rfl : k = 64 := by omega
      have Hg2 : Hid (Blk wr w.heap.size 34 (bA (zx xs ys 64))) := Lib.hid (by rw [← xl_full]; exact Hg.out)
      have HO2 := Lib.hid (HO0.out.kept Hk.out (by omega))
      have HB2 := Lib.hid (bkept HB0.out (Nat.le_refl _) Hk.out (fun i hi h => by omega))
      clear Hg Hk
      go_wp2_with (first | (refine wpl_load rfl _ rfl (w.heap.size) rfl _ _ _ Hg2.out Try.underlying34 rfl (info_sec (zx_length xs ys 64)) ?_; go_frame) | (refine wpl_store rfl _ _ rfl (w.heap.size + 2) (bA (zx xs ys 64)) rfl rfl _ _ HO2.out (info_sec (zx_length xs ys 64)) (by rw [bA_size, bA_size, zeros_length, zx_length]) (bA_one _) ?_; intro w3 hS3 hK3; have HS3 := Lib.hid hS3; have HK3 := Lib.hid hK3; clear hS3 hK3; go_frame))
      exact bodyPost_ret (v := .agg (bA (zx xs ys 64))) (results_cell_row Try.results27 _ _ (w.heap.size + 2) _ _ (0, 0) _ rfl HS3.out Try.underlying34 rfl (info_sec (zx_length xs ys 64))) rfl ⟨rfl, bkept HB2.out (Nat.le_refl _) HK3.out (fun i hi h => by omega)⟩

end Go.Proofs.Ytlngdndamgopeaa

/-
  Layer 3 (frame), ninth part: what is written is read; what a pattern does.
-/
namespace Go.Proofs.Ytlngdndamgopeaa
open Go.RowKit CrcM
set_option linter.unusedVariables false
set_option linter.unnecessarySimpa false
set_option linter.unusedSimpArgs false

theorem leb_drop (k s j : Nat) (h : k ≤ j) : (leb k s).drop j = [] := List.drop_of_length_le (by rw [leb_length]; exact h)
theorem leb_take (k s j : Nat) (h : k ≤ j) : (leb k s).take j = leb k s := List.take_of_length_le (by rw [leb_length]; exact h)

/-- The middle part of three. -/
theorem part_mid {α : Type} (a b c : List α) (j k : Nat) (ha : a.length = j) (hb : b.length = k) : ((a ++ b ++ c).drop j).take k = b := by
  subst ha hb
  rw [List.append_assoc, List.drop_left, List.take_left]

theorem ahead_k (f : FrR) : ((ahead f).drop 0).take 1 = leb 1 f.k.toNat := by
  have := part_mid [] (leb 1 f.k.toNat) (leb 1 1 ++ leb 2 f.z.toNat ++ leb 2 f.o.toNat ++ leb 4 f.e.toNat ++ leb 6 f.s.toNat ++ f.b) 0 1 rfl (leb_length _ _)
  rw [← this]; congr 2; all_goals simp [ahead]
theorem ahead_v (f : FrR) : ((ahead f).drop 1).take 1 = leb 1 1 := by
  have := part_mid (leb 1 f.k.toNat) (leb 1 1) (leb 2 f.z.toNat ++ leb 2 f.o.toNat ++ leb 4 f.e.toNat ++ leb 6 f.s.toNat ++ f.b) 1 1 (leb_length _ _) (leb_length _ _)
  rw [← this]; congr 2; all_goals simp [ahead]
theorem ahead_z (f : FrR) : ((ahead f).drop 2).take 2 = leb 2 f.z.toNat := by
  have := part_mid (leb 1 f.k.toNat ++ leb 1 1) (leb 2 f.z.toNat) (leb 2 f.o.toNat ++ leb 4 f.e.toNat ++ leb 6 f.s.toNat ++ f.b) 2 2 (by simp [leb_length]) (leb_length _ _)
  rw [← this]; congr 2; all_goals simp [ahead]
theorem ahead_o (f : FrR) : ((ahead f).drop 4).take 2 = leb 2 f.o.toNat := by
  have := part_mid (leb 1 f.k.toNat ++ leb 1 1 ++ leb 2 f.z.toNat) (leb 2 f.o.toNat) (leb 4 f.e.toNat ++ leb 6 f.s.toNat ++ f.b) 4 2 (by simp [leb_length]) (leb_length _ _)
  rw [← this]; congr 2; all_goals simp [ahead]
theorem ahead_e (f : FrR) : ((ahead f).drop 6).take 4 = leb 4 f.e.toNat := by
  have := part_mid (leb 1 f.k.toNat ++ leb 1 1 ++ leb 2 f.z.toNat ++ leb 2 f.o.toNat) (leb 4 f.e.toNat) (leb 6 f.s.toNat ++ f.b) 6 4 (by simp [leb_length]) (leb_length _ _)
  rw [← this]; congr 2; all_goals simp [ahead]
theorem ahead_s (f : FrR) : ((ahead f).drop 10).take 6 = leb 6 f.s.toNat := by
  have := part_mid (leb 1 f.k.toNat ++ leb 1 1 ++ leb 2 f.z.toNat ++ leb 2 f.o.toNat ++ leb 4 f.e.toNat) (leb 6 f.s.toNat) f.b 10 6 (by simp [leb_length]) (leb_length _ _)
  rw [← this]; congr 2; all_goals simp [ahead]
theorem ahead_b (f : FrR) (h : f.b.length = 44) : ((ahead f).drop 16).take 44 = f.b := by
  have := part_mid (leb 1 f.k.toNat ++ leb 1 1 ++ leb 2 f.z.toNat ++ leb 2 f.o.toNat ++ leb 4 f.e.toNat ++ leb 6 f.s.toNat) f.b [] 16 44 (by simp [leb_length]) h
  rw [← this]; congr 2; all_goals simp [ahead]

/-- A number that fits is read as it was. -/
theorem num_back (k : Nat) (x : Int) (h0 : 0 ≤ x) (h : x.toNat < 2 ^ (8 * k)) : ((num (leb k x.toNat) : Nat) : Int) = x := by
  rw [leb_num, Nat.mod_eq_of_lt h]; omega

theorem rd_ahead (f : FrR) (hr : rightB f = true) (hl : f.b.length = 44) : rd (ahead f) = f := by
  obtain ⟨⟨h1, h2⟩, ⟨h3, h4⟩, ⟨h5, h6⟩, ⟨h7, h8⟩, h9, h10⟩ := (right_iff f).1 hr
  unfold rd
  rw [ahead_k, ahead_z, ahead_o, ahead_e, ahead_s, ahead_b f hl, num_back 1 f.k (by omega) (by omega), num_back 2 f.z h3 (by omega), num_back 2 f.o h5 (by omega), num_back 4 f.e (by omega) (by omega), num_back 6 f.s h9 (by omega)]
theorem ver_ahead (f : FrR) : ver (ahead f) = 1 := by unfold ver; rw [ahead_v]; decide

theorem sec_take (f : FrR) (hl : f.b.length = 44) : (sec f).take 60 = ahead f := sealed_take _ 60 (ahead_length hl)

/-- What is written is read. -/
theorem dec_sec (f : FrR) (hr : rightB f = true) (hl : f.b.length = 44) (hb : ∀ c ∈ f.b, c < 256) : decE (sec f) = 0 ∧ decF (sec f) = f := by
  have h1 : soundB (sec f) = true := decide_eq_true (sealed_sound (ahead f) 60 (ahead_length hl) (ahead_lt hb))
  have h2 : formB (sec f) = true := by unfold formB; rw [sec_take f hl, ver_ahead, rd_ahead f hr hl, hr]; rfl
  unfold decE decF
  rw [h1, h2, sec_take f hl, rd_ahead f hr hl]
  simp

theorem sec_inj (f g : FrR) (hf : rightB f = true) (hg : rightB g = true) (hlf : f.b.length = 44) (hlg : g.b.length = 44) : sec f = sec g ↔ f = g := by
  constructor
  · intro h
    rw [← rd_ahead f hf hlf, ← rd_ahead g hg hlg, ← sec_take f hlf, ← sec_take g hlg, h]
  · intro h; rw [h]

/-- A pattern that is no multiple is found, and no other one by the sum. -/
theorem spoilt_iff (f : FrR) (q : List Nat) (hl : f.b.length = 44) (hb : ∀ c ∈ f.b, c < 256) (hq : q.length = 64) (hqb : ∀ c ∈ q, c < 256) : soundB (zx (sec f) q 64) = decide (ovr 0 q = 0) := by
  have h := pattern_spec (ahead f) q 60 (ahead_lt hb) hqb (ahead_length hl) hq
  unfold soundB
  rw [Bool.eq_iff_iff, decide_eq_true_eq, decide_eq_true_eq]
  exact h
theorem decE_sum (bs : List Nat) : (decE bs == 11) = !soundB bs := by
  unfold decE
  cases soundB bs
  · rfl
  · cases formB bs <;> rfl

theorem zx_twice (xs q : List Nat) (hx : xs.length = 64) (hxb : ∀ c ∈ xs, c < 256) : zx (zx xs q 64) q 64 = xs := by
  apply list_eq_of_getD (n := 64) (zx_length _ _ _) hx
  intro i hi
  have h1 : ∀ a b : List Nat, (zx a b 64).getD i 0 = a.getD i 0 ^^^ b.getD i 0 := fun a b => by simp [zx, List.getD, hi]
  rw [h1, h1, Nat.xor_assoc, Nat.xor_self, Nat.xor_zero]

/-- At tells the place of another frame. -/
theorem at_sec (f : FrR) (zn of : Int) (hr : rightB f = true) (hl : f.b.length = 44) (hb : ∀ c ∈ f.b, c < 256) :
    (f.z = zn ∧ f.o = of → atE (sec f) zn of = 0 ∧ atF (sec f) zn of = f) ∧ (¬ (f.z = zn ∧ f.o = of) → atE (sec f) zn of = 12 ∧ atF (sec f) zn of = fr0) := by
  obtain ⟨h1, h2⟩ := dec_sec f hr hl hb
  unfold atE atF
  rw [h1, h2]
  constructor
  · intro h; simp [h]
  · intro h; simp only [true_and, if_true]; rw [if_neg h, if_neg h]; exact ⟨rfl, rfl⟩

end Go.Proofs.Ytlngdndamgopeaa

/-
  Layer 3 (frame), seventh part: the document's Bytes.
-/
namespace Go.Proofs.Ytlngdndamgopeaa
open Go.RowKit CrcM
set_option linter.unusedVariables false
set_option linter.unnecessarySimpa false
set_option linter.unusedSimpArgs false

theorem zero_64 (w : World) : (zeroValue 33).run Try.prog w = .ok (.agg (bA (zeros 64))) w := by kernel_rfl

/-- A row of its own on its way, over a world wb. -/
structure OwnAt (wb w : World) (v : Value) (bs : List Nat) : Prop where
  own : w.ownsRow wb.heap.size 5 1 v bs.length (bvals bs)
  bel : Below wb.heap.size wb w
  lt : ∀ c ∈ bs, c < 256

theorem OwnAt.made {wb : World} {bs : List Nat} (hb : ∀ c ∈ bs, c < 256) (hm : bs.length ≤ 1000000) : OwnAt wb (wb.alloc (Obj.cells (bA bs) 5)) (.slice (some ⟨wb.heap.size, 0, none⟩) bs.length bs.length) bs := by
  refine ⟨⟨by rw [bvals_length, Nat.mul_one], .inr ⟨wb.heap.size, bs.length, bA bs, rfl, Nat.le_refl _, heap_alloc_new wb _, Nat.le_refl _, by unfold maxLen; omega, by rw [bA_size, Nat.mul_one], ?_⟩⟩, below_alloc _ _, hb⟩
  rw [Nat.mul_one, List.take_of_length_le (by simp [bA, bvals_length])]
  rfl
theorem OwnAt.below {wb w w' : World} {v : Value} {bs : List Nat} (h : OwnAt wb w v bs) (hb : Below w.heap.size w w') : OwnAt wb w' v bs :=
  ⟨own_kept h.own (Kept.of_below (S := fun _ => False) hb) (fun _ _ h => h), h.bel.trans (hb.mono h.bel.size), h.lt⟩
theorem OwnAt.more {wb w w' : World} {v v' : Value} {bs ds : List Nat} (h : OwnAt wb w v bs) (hd : ∀ c ∈ ds, c < 256) (ho : w'.ownsRow wb.heap.size 5 1 v' (bs.length + ds.length) (bvals (bs ++ ds))) (hg : w.grownBy w' v.ownBlock) : OwnAt wb w' v' (bs ++ ds) := by
  refine ⟨by rw [List.length_append]; exact ho, h.bel.grown hg h.bel.size (fun g e => (h.own.lt g e).1), fun c hc => ?_⟩
  rcases List.mem_append.1 hc with h1 | h1
  · exact h.lt c h1
  · exact hd c h1

theorem row_fill (R : List Nat) (j : Nat) (hj : j < 64) (h : R.length = 64) : (R.take j ++ zeros (64 - j)).set j (R.getD j 0) = R.take (j + 1) ++ zeros (64 - (j + 1)) := by
  have hl : (R.take j).length = j := by rw [List.length_take, h]; omega
  rw [List.set_append_right _ _ (by omega), hl, Nat.sub_self, take_snoc_nat R j (by omega), List.append_assoc]
  congr 1
  have e : zeros (64 - j) = 0 :: zeros (64 - (j + 1)) := by
    unfold zeros; rw [show 64 - j = (64 - (j + 1)) + 1 by omega, List.replicate_succ]
  rw [e, List.set_cons_zero]
  rfl

end Go.Proofs.Ytlngdndamgopeaa

/-
  Layer 3 (frame), eighth part: the document's Read.
-/
namespace Go.Proofs.Ytlngdndamgopeaa
open Go.RowKit CrcM
set_option linter.unusedVariables false
set_option linter.unnecessarySimpa false
set_option linter.unusedSimpArgs false

section
variable {P : Program} {md : Region.Mode} {ops : Array Oper} {Q : Exit → Act → World → Prop} {S : World → Prop}

end

theorem run_slice_a64 (w : World) (g : Nat) :
    (Instr.sliceAt 33 (.pointer (some ⟨g, 0, none⟩)) none none none).run Try.prog w = .ok (.slice (some ⟨g, 0, none⟩) 64 64) w := by
  obtain ⟨i0, hi, hz0, hz1, hz2⟩ := info_parts Try.infoByte
  simp [Instr.sliceAt, Instr.sureAddr, Instr.sliceBounds, Instr.sliceBound, run_underlying Try.underlying33, asIntOf, sizeOf, typeInfo, hi, Addr.add]

theorem frA_setB (f : FrR) (j c : Nat) (hj : j < f.b.length) : (frA f).setIfInBounds (5 + j) (.int .u8 (c : Nat)) = frA { f with b := f.b.set j c } := by
  unfold frA frL
  rw [List.setIfInBounds_toArray, List.set_append_right _ _ (by simp), ← bvals_set]
  simp

theorem body_fill (R : List Nat) (j : Nat) (hj : j < 44) (h : R.length = 44) : (R.take j ++ zeros (44 - j)).set j (R.getD j 0) = R.take (j + 1) ++ zeros (44 - (j + 1)) := by
  have hl : (R.take j).length = j := by rw [List.length_take, h]; omega
  rw [List.set_append_right _ _ (by omega), hl, Nat.sub_self, take_snoc_nat R j (by omega), List.append_assoc]
  congr 1
  have e : zeros (44 - j) = 0 :: zeros (44 - (j + 1)) := by
    unfold zeros; rw [show 44 - j = (44 - (j + 1)) + 1 by omega, List.replicate_succ]
  rw [e, List.set_cons_zero]
  rfl

/-- A slice of a row of 64 bytes. -/
theorem row_mid {w : World} {g : Nat} {bs : List Nat} (h : RowB w (some ⟨g, 0, none⟩) 64 64 bs) (lo hi : Nat) (h1 : lo ≤ hi) (h2 : hi < 64) : RowB w (some ⟨g, lo, none⟩) (hi - lo) (64 - lo) ((bs.drop lo).take (hi - lo)) := by
  have h3 := (h.from lo (by omega)).to (hi - lo) (by omega)
  have e : slAddr (some ⟨g, 0, none⟩) 64 lo = some ⟨g, lo, none⟩ := by unfold slAddr; rw [if_neg (by omega)]; simp [Addr.add_mid]
  rw [e] at h3
  exact h3

/-- What the document's Read makes of a sector, but for its checks. -/
def rdoc (bs : List Nat) : FrR := ⟨(bs.getD 0 0 : Nat), (num ((bs.drop 2).take 2) : Nat), (num ((bs.drop 4).take 2) : Nat), (num ((bs.drop 6).take 4) : Nat), (num ((bs.drop 10).take 6) : Nat), (bs.drop 16).take 44⟩

theorem take_mid (bs : List Nat) (j k n : Nat) (h : j + k ≤ n) : (((bs.take n).drop j).take k) = (bs.drop j).take k := by
  rw [List.drop_take, List.take_take, Nat.min_eq_left (by omega)]
theorem num_single (bs : List Nat) (j : Nat) (h : j < bs.length) : num ((bs.drop j).take 1) = bs.getD j 0 := by
  rw [List.drop_eq_getElem_cons h]; simp only [List.take_succ_cons, List.take_zero, num]; simp [List.getD, h]
theorem rdoc_rd (bs : List Nat) (h : bs.length = 64) : rdoc bs = rd (bs.take 60) := by
  unfold rdoc rd
  rw [take_mid _ 0 1 60 (by decide), take_mid _ 2 2 60 (by decide), take_mid _ 4 2 60 (by decide), take_mid _ 6 4 60 (by decide), take_mid _ 10 6 60 (by decide), take_mid _ 16 44 60 (by decide), num_single bs 0 (by omega)]
theorem wrap_u32n (m : Nat) (h : m < 4294967296) : IntKind.i64.wrap (m : Int) = (m : Int) := by rw [IntKind.wrap_i64]; omega
theorem ver_doc (bs : List Nat) (h : bs.length = 64) : ver (bs.take 60) = bs.getD 1 0 := by
  unfold ver; rw [take_mid _ 1 1 60 (by decide), num_single bs 1 (by omega)]

end Go.Proofs.Ytlngdndamgopeaa

/-
  Layer 3 (frame), tenth part: the laws' anchor; frames and sectors that are held against one another.
-/
namespace Go.Proofs.Ytlngdndamgopeaa
open Go.RowKit CrcM
set_option linter.unusedVariables false
set_option linter.unnecessarySimpa false
set_option linter.unusedSimpArgs false

section
variable {P : Program} {w : World} {ops : Array Oper} {rest : List Oper} {o : Oper} {a : Act} {Q : Exit → Act → World → Prop}

theorem exec_eql_frame {t : TypeId} (T : FrameType P t) (x y : Operand) (rt : TypeId) (ho : o.op = .binOp .eql t x y rt) (f g : FrR) (hx : a.eval x = .agg (frA f)) (hy : a.eval y = .agg (frA g)) (hf : f.b.length = 44) (hg : g.b.length = 44) (b : Bool) (hb : decide (f = g) = b) :
    (execOp a.eval o).run P w = .ok (.value (.bool b)) w := by
  unfold execOp
  simp only [ho, hx, hy, Sem.run_bind, run_eqGuard_agg w .eql t x y (frA f) (frA g) T.guard, Result.andThen_ok, run_eql_frame T f g hf hg w, Sem.run_pure, hb]

theorem exec_neq_frame {t : TypeId} (T : FrameType P t) (x y : Operand) (rt : TypeId) (ho : o.op = .binOp .neq t x y rt) (f g : FrR) (hx : a.eval x = .agg (frA f)) (hy : a.eval y = .agg (frA g)) (hf : f.b.length = 44) (hg : g.b.length = 44) (b : Bool) (hb : (!decide (f = g)) = b) :
    (execOp a.eval o).run P w = .ok (.value (.bool b)) w := by
  unfold execOp
  simp only [ho, hx, hy, Sem.run_bind, run_eqGuard_agg w .neq t x y (frA f) (frA g) T.guard, Result.andThen_ok, run_neq_frame T f g hf hg w, Sem.run_pure, hb]

theorem exec_eql_sector {t : TypeId} {n : Nat} (T : BytesType P t n) (x y : Operand) (rt : TypeId) (ho : o.op = .binOp .eql t x y rt) (xs ys : List Nat) (hx : a.eval x = .agg (bA xs)) (hy : a.eval y = .agg (bA ys)) (hf : xs.length = n) (hg : ys.length = n) (b : Bool) (hb : decide (xs = ys) = b) :
    (execOp a.eval o).run P w = .ok (.value (.bool b)) w := by
  unfold execOp
  simp only [ho, hx, hy, Sem.run_bind, run_eqGuard_agg w .eql t x y (bA xs) (bA ys) T.guard, Result.andThen_ok, run_eql_sector T xs ys hf hg w, Sem.run_pure, hb]
end

theorem eq_self (f : FrR) : decide (f = f) = true := by simp
theorem neq_self (f : FrR) : (!decide (f = f)) = false := by simp

theorem zeros_sound : soundB (zeros 64) = false := by
  unfold soundB
  rw [decide_eq_false_iff_not]
  decide +kernel
/-- The anchor's frame. -/
def frM : FrR := ⟨3, 0, 0, 1, 0, zeros 44⟩
theorem dec_zero : decE (zeros 64) = 11 ∧ decF (zeros 64) = fr0 := by unfold decE decF; rw [zeros_sound]; simp

end Go.Proofs.Ytlngdndamgopeaa

/-
  Structs of some ints and, behind them, an array of bytes, as values: how they are laid out, when two are the same, what an argument of their types is. Entries.
-/
namespace Go.Proofs.Ytlngdndamgopeaa
open Go.RowKit CrcM
set_option linter.unusedVariables false
set_option linter.unnecessarySimpa false
set_option linter.unusedSimpArgs false

/-- Ints, then bytes. -/
def mixL (zs : List Int) (bs : List Nat) : List Value := zs.map (fun z => Value.int .i64 z) ++ bvals bs
def mixA (zs : List Int) (bs : List Nat) : Array Value := (mixL zs bs).toArray

theorem mixL_length (zs : List Int) (bs : List Nat) : (mixL zs bs).length = zs.length + bs.length := by simp [mixL, bvals_length]
theorem mixA_size (zs : List Int) (bs : List Nat) : (mixA zs bs).size = zs.length + bs.length := by simp [mixA, mixL_length]
theorem mixA_one (zs : List Int) (bs : List Nat) : (mixA zs bs).all (·.oneCell') = true := by
  simp only [mixA, Array.all_eq_true_iff_forall_mem, List.mem_toArray]
  intro x hx
  rcases List.mem_append.1 hx with h | h
  · obtain ⟨z, _, rfl⟩ := List.mem_map.1 h; rfl
  · exact bvals_one _ x h
theorem mixA_int (zs : List Int) (bs : List Nat) (i : Nat) (h : i < zs.length) : (mixA zs bs)[i]? = some (.int .i64 (zs.getD i 0)) := by
  simp only [mixA, mixL, List.getElem?_toArray]
  rw [List.getElem?_append_left (by simpa using h)]
  simp [h, List.getD]
theorem mixA_byte (zs : List Int) (bs : List Nat) (i : Nat) (h : i < bs.length) : (mixA zs bs)[zs.length + i]? = some (.int .u8 (bs.getD i 0 : Nat)) := by
  simp only [mixA, mixL, List.getElem?_toArray]
  rw [List.getElem?_append_right (by simp)]
  simpa using bvals_at bs i h
theorem mixA_part (zs : List Int) (bs : List Nat) : (mixA zs bs).extract zs.length (zs.length + bs.length) = bA bs := by
  simp only [mixA, bA, mixL, List.extract_toArray, List.extract_eq_take_drop]
  rw [List.drop_left' (by simp), List.take_of_length_le (by rw [bvals_length]; omega)]

/-- The bytes of such a struct, in memory. -/
theorem mix_range {w : World} {g : Nat} {t : TypeId} {zs : List Int} {bs : List Nat} (h : Blk w g t (mixA zs bs)) : w.rangeAt g zs.length (bvals bs) := by
  intro j v hv
  have hj : j < bs.length := by
    by_cases hj : j < bs.length
    · exact hj
    · rw [List.getElem?_eq_none (by rw [bvals_length]; omega)] at hv; cases hv
  rw [bvals_at bs j hj] at hv
  exact ((h.cell (zs.length + j)).trans (mixA_byte zs bs j hj)).trans hv

/-- The type of such structs: n ints, k bytes. -/
structure MixType (P : Program) (t : TypeId) (n k : Nat) : Prop where
  fields : ∃ (fs : List Field) (fb : Field) (e : TypeId), P.underlying t = some (.struct (fs ++ [fb]).toArray) ∧ fs.length = n ∧ IntFields P 0 fs ∧
    fb.name ≠ "_" ∧ fb.offset = n ∧ P.underlying fb.type = some (.array k e) ∧ P.underlying e = some (.int .u8) ∧ P.cellsOf fb.type = k ∧ P.cellsOf e = 1
  cells : P.cellsOf t = n + k
  stood : P.stoodInHeld t = false
  guard : P.eqGuardType P.depth t = false

theorem run_part_mix {P : Program} (w : World) {t e : TypeId} {n k : Nat} (hu : P.underlying t = some (.array k e)) (hc : P.cellsOf t = k) {zs : List Int} {bs : List Nat} (hz : zs.length = n) (hb : bs.length = k) : (part t (mixA zs bs) n).run P w = .ok (.agg (bA bs)) w := by
  subst hz hb
  obtain ⟨i, hi⟩ := info_of_underlying hu
  have hs := run_sizeOf w hi
  rw [hc] at hs
  simp [part, isAgg, run_underlying hu, hs, mixA_part]

theorem run_equal_mix {P : Program} (w : World) (d : Nat) {t : TypeId} {n k : Nat} (T : MixType P t n k) (zs zs' : List Int) (bs bs' : List Nat) (hz : zs.length = n) (hz' : zs'.length = n) (hb : bs.length = k) (hb' : bs'.length = k) :
    (Op.equalIn (d + 3) t (.agg (mixA zs bs)) (.agg (mixA zs' bs'))).run P w = .ok (decide (zs = zs' ∧ bs = bs')) w := by
  obtain ⟨fs, fb, e, hu, hl, hI, nb, ob, ub, ue, cb, ce⟩ := T.fields
  have hfs : P.fieldsOf t = (fs ++ [fb]).toArray := by simp [Program.fieldsOf, hu]
  rw [run_equalIn_agg w (d + 2) t _ _ (by rw [hfs]; exact hu) T.stood, hfs]
  have b1 : (part fb.type (mixA zs bs) fb.offset).run P w = .ok (.agg (bA bs)) w := by rw [ob]; exact run_part_mix w ub cb hz hb
  have b2 : (part fb.type (mixA zs' bs') fb.offset).run P w = .ok (.agg (bA bs')) w := by rw [ob]; exact run_part_mix w ub cb hz' hb'
  have eb := run_equal_bytes (P := P) w d ub ue ce bs bs' hb hb'
  have rb := run_field w (d + 2) nb b1 b2 eb (fs := []) (rest := true) (by simp [Op.eqFields])
  have r := run_mix_fields w (d + 1) (zs := zs) (zs' := zs') rb fs 0 hI (fun i hi => ⟨by rw [Nat.zero_add]; exact mixA_int zs bs i (by omega), by rw [Nat.zero_add]; exact mixA_int zs' bs' i (by omega)⟩)
  refine (show (Op.eqFields (d + 2) (mixA zs bs) (mixA zs' bs') (fs ++ [fb]).toArray.toList).run P w = _ from r).trans ?_
  congr 1
  rw [Bool.eq_iff_iff]
  simp only [Bool.and_eq_true, decide_eq_true_eq, Bool.and_true, Nat.zero_add, hl]
  exact ⟨fun h => ⟨ints_eq_of_getD hz hz' h.1, h.2⟩, fun h => ⟨fun i _ => by rw [h.1], h.2⟩⟩

theorem run_eql_mix {P : Program} {t : TypeId} {n k : Nat} (T : MixType P t n k) (zs zs' : List Int) (bs bs' : List Nat) (hz : zs.length = n) (hz' : zs'.length = n) (hb : bs.length = k) (hb' : bs'.length = k) (w : World) :
    (binOp .eql t (.agg (mixA zs bs)) (.agg (mixA zs' bs'))).run P w = .ok (.bool (decide (zs = zs' ∧ bs = bs'))) w := by
  rw [run_eql_struct, run_equal_mix w 9997 T zs zs' bs bs' hz hz' hb hb']; rfl
theorem run_neq_mix {P : Program} {t : TypeId} {n k : Nat} (T : MixType P t n k) (zs zs' : List Int) (bs bs' : List Nat) (hz : zs.length = n) (hz' : zs'.length = n) (hb : bs.length = k) (hb' : bs'.length = k) (w : World) :
    (binOp .neq t (.agg (mixA zs bs)) (.agg (mixA zs' bs'))).run P w = .ok (.bool (!decide (zs = zs' ∧ bs = bs'))) w := by
  rw [run_neq_struct, run_equal_mix w 9997 T zs zs' bs bs' hz hz' hb hb']; rfl
theorem run_neq_sector {P : Program} {t : TypeId} {n : Nat} (T : BytesType P t n) (xs ys : List Nat) (hx : xs.length = n) (hy : ys.length = n) (w : World) :
    (binOp .neq t (.agg (bA xs)) (.agg (bA ys))).run P w = .ok (.bool (!decide (xs = ys))) w := by
  obtain ⟨e, h1, h2, h3⟩ := T.under
  rw [run_neq_struct, run_equal_bytes w 9998 h1 h2 h3 xs ys hx hy]; rfl

section
open Go.ChangeShapes Go.WideShapes
variable {H : Type} {enc : TypeId × Value → H} {P : Program} {w : World} {base : Nat} {spare : Nat → Bool} {held : Bool}

theorem open_mixA {r : Reach} {b0 : Nat} {t : TypeId} {n k : Nat} {v : Value} {d : DataW H} {p : List MemPlace} (T : MixType P t n k) (hv : Value.okWide P w r b0 t v) (h : DataW.Trod enc P w base spare held t v d p) :
    ∃ (zs : List Int) (bs : List Nat), v = .agg (mixA zs bs) ∧ zs.length = n ∧ bs.length = k ∧ (∀ z ∈ zs, (Lit.int .i64 z).wf = true) ∧ ∀ c ∈ bs, c < 256 := by
  obtain ⟨fs, fb, e, hu, hl, hI, nb, ob, ub, ue, cb, ce⟩ := T.fields
  obtain ⟨cs, rfl, hsz⟩ := okWide_struct hu hv
  obtain ⟨fuel, hf⟩ := h
  simp only [Value.cells] at hf
  obtain ⟨xs, m, _, _, hlc, hxl, hat⟩ := DataW.trod_struct hu hf
  have hxl' : xs.length = n + 1 := by rw [hxl]; simp [hl]
  have hsome : ∀ i, i < n + 1 → (xs[i]?).isSome = true := fun i hi => by simp [hxl', hi]
  have hint : ∀ f ∈ fs, (DataW.trod enc P w base spare held m f.type ((cs.toList.drop f.offset).take (P.cellsOf f.type))).isSome = true := fun f hf => by
    obtain ⟨i, hi, rfl⟩ := List.getElem_of_mem hf
    rw [hat i _ (by rw [List.getElem?_toArray, List.getElem?_append_left hi, List.getElem?_eq_getElem hi])]
    exact hsome i (by omega)
  obtain ⟨zs, hzl, hwf, hz⟩ := open_intFields fs 0 hI hint
  obtain ⟨y, hy⟩ := Option.isSome_iff_exists.1 (hsome n (by omega))
  have tb := (hat n fb (by rw [List.getElem?_toArray, List.getElem?_append_right (by omega), hl, Nat.sub_self]; rfl)).trans hy
  rw [cb, ob] at tb
  obtain ⟨bs, hb, hbl, hblt⟩ := trod_bytes ub ue ce cb tb
  refine ⟨zs, bs, ?_, hzl.trans hl, hbl, hwf, hblt⟩
  congr 1
  apply Array.ext'
  rw [T.cells] at hlc
  have hn : cs.toList.drop n = bvals bs := by rw [← hb, List.take_of_length_le (by simp at hlc; simp; omega)]
  rw [List.drop_zero, Nat.zero_add, hl, hn] at hz
  rw [hz]; rfl
end

/-- An entry as it reads. -/
structure EnR where
  k : Int
  f : Int
  c : Int
  b : Int
  m : Int
  t : Int
  y : List Nat
  deriving DecidableEq

def enZ (e : EnR) : List Int := [e.k, e.f, e.c, e.b, e.m, e.t]
def enA (e : EnR) : Array Value := mixA (enZ e) e.y
theorem en_eq (e g : EnR) : e = g ↔ enZ e = enZ g ∧ e.y = g.y := by
  cases e; cases g; simp [enZ, and_assoc]

/-- What an argument's entry is. -/
structure EnOk (e : EnR) : Prop where
  len : e.y.length = 32
  lt : ∀ c ∈ e.y, c < 256
  wf : ∀ z ∈ enZ e, (Lit.int .i64 z).wf = true

theorem enA_size {e : EnR} (h : e.y.length = 32) : (enA e).size = 38 := by rw [enA, mixA_size, h]; rfl
theorem enA_one {e : EnR} : (enA e).all (·.oneCell') = true := mixA_one _ _
theorem enA_at0 (e : EnR) : (enA e)[0]? = some (.int .i64 e.k) := mixA_int (enZ e) e.y 0 (by simp [enZ])
theorem enA_at1 (e : EnR) : (enA e)[1]? = some (.int .i64 e.f) := mixA_int (enZ e) e.y 1 (by simp [enZ])
theorem enA_at2 (e : EnR) : (enA e)[2]? = some (.int .i64 e.c) := mixA_int (enZ e) e.y 2 (by simp [enZ])
theorem enA_at3 (e : EnR) : (enA e)[3]? = some (.int .i64 e.b) := mixA_int (enZ e) e.y 3 (by simp [enZ])
theorem enA_at4 (e : EnR) : (enA e)[4]? = some (.int .i64 e.m) := mixA_int (enZ e) e.y 4 (by simp [enZ])
theorem enA_at5 (e : EnR) : (enA e)[5]? = some (.int .i64 e.t) := mixA_int (enZ e) e.y 5 (by simp [enZ])
theorem en_range {w : World} {g : Nat} {t : TypeId} {e : EnR} (h : Blk w g t (enA e)) : w.rangeAt g 6 (bvals e.y) := mix_range (zs := enZ e) h
theorem fr_range {w : World} {g : Nat} {t : TypeId} {f : FrR} (h : Blk w g t (frA f)) : w.rangeAt g 5 (bvals f.b) := mix_range (zs := [f.k, f.z, f.o, f.e, f.s]) h

section
open Go.ChangeShapes Go.WideShapes
variable {H : Type} {enc : TypeId × Value → H} {P : Program} {w : World} {base : Nat} {spare : Nat → Bool} {held : Bool}
theorem open_entryA {r : Reach} {b0 : Nat} {t : TypeId} {v : Value} {d : DataW H} {p : List MemPlace} (T : MixType P t 6 32) (hv : Value.okWide P w r b0 t v) (h : DataW.Trod enc P w base spare held t v d p) :
    ∃ e : EnR, v = .agg (enA e) ∧ EnOk e := by
  obtain ⟨zs, bs, rfl, hz, hb, hwf, hlt⟩ := open_mixA T hv h
  match zs, hz, hwf with
  | [z0, z1, z2, z3, z4, z5], _, hwf => exact ⟨⟨z0, z1, z2, z3, z4, z5, bs⟩, rfl, hb, hlt, hwf⟩
end

section
variable {P : Program} {w : World} {ops : Array Oper} {rest : List Oper} {o : Oper} {a : Act} {Q : Exit → Act → World → Prop}

theorem exec_eql_entry {t : TypeId} (T : MixType P t 6 32) (x y : Operand) (rt : TypeId) (ho : o.op = .binOp .eql t x y rt) (e g : EnR) (hx : a.eval x = .agg (enA e)) (hy : a.eval y = .agg (enA g)) (he : e.y.length = 32) (hg : g.y.length = 32) (b : Bool) (hb : decide (e = g) = b) :
    (execOp a.eval o).run P w = .ok (.value (.bool b)) w := by
  have hb' : decide (enZ e = enZ g ∧ e.y = g.y) = b := by rw [← hb, Bool.eq_iff_iff, decide_eq_true_eq, decide_eq_true_eq, en_eq]
  unfold execOp
  simp only [ho, hx, hy, Sem.run_bind, run_eqGuard_agg w .eql t x y (enA e) (enA g) T.guard, Result.andThen_ok, (show (binOp .eql t (.agg (enA e)) (.agg (enA g))).run P w = _ from run_eql_mix T (enZ e) (enZ g) e.y g.y rfl rfl he hg w), Sem.run_pure, hb']

theorem exec_neq_entry {t : TypeId} (T : MixType P t 6 32) (x y : Operand) (rt : TypeId) (ho : o.op = .binOp .neq t x y rt) (e g : EnR) (hx : a.eval x = .agg (enA e)) (hy : a.eval y = .agg (enA g)) (he : e.y.length = 32) (hg : g.y.length = 32) (b : Bool) (hb : (!decide (e = g)) = b) :
    (execOp a.eval o).run P w = .ok (.value (.bool b)) w := by
  have hb' : (!decide (enZ e = enZ g ∧ e.y = g.y)) = b := by rw [← hb]; congr 1; rw [Bool.eq_iff_iff, decide_eq_true_eq, decide_eq_true_eq, en_eq]
  unfold execOp
  simp only [ho, hx, hy, Sem.run_bind, run_eqGuard_agg w .neq t x y (enA e) (enA g) T.guard, Result.andThen_ok, (show (binOp .neq t (.agg (enA e)) (.agg (enA g))).run P w = _ from run_neq_mix T (enZ e) (enZ g) e.y g.y rfl rfl he hg w), Sem.run_pure, hb']

theorem exec_neq_sector {t : TypeId} {n : Nat} (T : BytesType P t n) (x y : Operand) (rt : TypeId) (ho : o.op = .binOp .neq t x y rt) (xs ys : List Nat) (hx : a.eval x = .agg (bA xs)) (hy : a.eval y = .agg (bA ys)) (hf : xs.length = n) (hg : ys.length = n) (b : Bool) (hb : (!decide (xs = ys)) = b) :
    (execOp a.eval o).run P w = .ok (.value (.bool b)) w := by
  unfold execOp
  simp only [ho, hx, hy, Sem.run_bind, run_eqGuard_agg w .neq t x y (bA xs) (bA ys) T.guard, Result.andThen_ok, run_neq_sector T xs ys hf hg w, Sem.run_pure, hb]

/-- A part of a struct, an array of bytes, is read whole. -/
theorem wpl_load_mid (hw : Region.wanted o (yielded ops a.tmps) = true) (ty : TypeId) (x : Operand) (ho : o.op = .load ty x) (b i : Nat) (hx : a.eval x = .pointer (some ⟨b, i, none⟩)) (bs : List Nat) (d : TypeDesc) (hc : w.rangeAt b i (bvals bs))
    (hu : P.underlying ty = some d) (hd : d.isRow = true) (hi : (P.info? ty).map (·.size) = some (bvals bs).length)
    (h : wpList P ops Q rest (a.put o.dst (.agg (bA bs))) w) : wpList P ops Q (o :: rest) a w := by
  unfold wpList
  rw [if_pos hw]
  exact .inl (wp_load_mid ty x ho b i hx (bvals bs) d hc hu hd hi h)
end

end Go.Proofs.Ytlngdndamgopeaa

/-
  Contracts of layer 4 (entry), first part: within, fitsKind, Right, the document's Right, and the laws' of.
-/
namespace Go.Proofs.Ytlngdndamgopeaa
open Go.RowKit CrcM
set_option linter.unusedVariables false
set_option linter.unnecessarySimpa false
set_option linter.unusedSimpArgs false

/-- Has an entry what its kind has? -/
def kindB (e : EnR) : Bool :=
  if e.k = 1 then wB e.c 1 4 && decide (e.m = 0)
  else if e.k = 2 then decide (e.c = 1) && wB e.m 1 (256 - e.b) && decide (e.y = zeros 32)
  else if e.k = 3 then decide (e.c = 1) && decide (e.m = 0)
  else false

/-- May an entry be? -/
def rB (e : EnR) : Bool := wB e.f 0 281474976710655 && wB e.b 0 255 && wB e.t 0 65535 && kindB e

theorem rB_iff (e : EnR) : rB e = true ↔ (0 ≤ e.f ∧ e.f ≤ 281474976710655) ∧ (0 ≤ e.b ∧ e.b ≤ 255) ∧ (0 ≤ e.t ∧ e.t ≤ 65535) ∧
    ((e.k = 1 ∧ (1 ≤ e.c ∧ e.c ≤ 4) ∧ e.m = 0) ∨ (e.k = 2 ∧ e.c = 1 ∧ (1 ≤ e.m ∧ e.m ≤ 256 - e.b) ∧ e.y = zeros 32) ∨ (e.k = 3 ∧ e.c = 1 ∧ e.m = 0)) := by
  unfold rB kindB
  by_cases h1 : e.k = 1
  · simp [h1, wB_iff, and_assoc]
  · by_cases h2 : e.k = 2
    · simp [h2, wB_iff, and_assoc]
    · by_cases h3 : e.k = 3
      · simp [h3, wB_iff, and_assoc]
      · simp [h1, h2, h3]

end Go.Proofs.Ytlngdndamgopeaa

/-
  Contracts of layer 4 (entry), second part: the document's Right, and the laws' of.
-/
namespace Go.Proofs.Ytlngdndamgopeaa
open Go.RowKit CrcM
set_option linter.unusedVariables false
set_option linter.unnecessarySimpa false
set_option linter.unusedSimpArgs false

theorem list_as {y : List Nat} {n : Nat} (h : y.length = n) : ∃ g : Nat → Nat, y = (List.range n).map g := by
  refine ⟨fun i => y.getD i 0, ?_⟩
  apply List.ext_getElem (by simp [h])
  intro i h1 h2
  simp [List.getD, h1]

/-- The empty entry. -/
def en0 : EnR := ⟨0, 0, 0, 0, 0, 0, zeros 32⟩
theorem en0_len : en0.y.length = 32 := zeros_length 32
end Go.Proofs.Ytlngdndamgopeaa

/-
  Contracts of layer 4 (entry), third part: write and Body.
-/
namespace Go.Proofs.Ytlngdndamgopeaa
open Go.RowKit CrcM
set_option linter.unusedVariables false
set_option linter.unnecessarySimpa false
set_option linter.unusedSimpArgs false

/-- All that an entry has, as its body has it, if it fits. -/
def eO (e : EnR) : Option (List Nat) := pBytes (pNum (pNum (pNum (pNum (pNum (some []) 6 e.f) 1 e.c) 1 e.b) 2 e.m) 2 e.t) e.y
/-- .. of a right entry. -/
def ebod (e : EnR) : List Nat := leb 6 e.f.toNat ++ leb 1 e.c.toNat ++ leb 1 e.b.toNat ++ leb 2 e.m.toNat ++ leb 2 e.t.toNat ++ e.y

theorem rB_ranges {e : EnR} (h : rB e = true) : (0 ≤ e.f ∧ e.f ≤ 281474976710655) ∧ (0 ≤ e.b ∧ e.b ≤ 255) ∧ (0 ≤ e.t ∧ e.t ≤ 65535) ∧ (1 ≤ e.c ∧ e.c ≤ 4) ∧ (0 ≤ e.m ∧ e.m ≤ 256) := by
  obtain ⟨h1, h2, h3, h4⟩ := (rB_iff e).1 h
  exact ⟨h1, h2, h3, by omega, by omega⟩

theorem eO_right {e : EnR} (h : rB e = true) : eO e = some (ebod e) := by
  obtain ⟨⟨h1, h2⟩, ⟨h3, h4⟩, ⟨h5, h6⟩, ⟨h7, h8⟩, h9, h10⟩ := rB_ranges h
  unfold eO pNum pBytes
  rw [show fitB 6 e.f = true from fit_of (k := 6) (by omega) (by omega) (by omega), show fitB 1 e.c = true from fit_of (k := 1) (by omega) (by omega) (by omega), show fitB 1 e.b = true from fit_of (k := 1) (by omega) (by omega) (by omega),
    show fitB 2 e.m = true from fit_of (k := 2) (by omega) (by omega) (by omega), show fitB 2 e.t = true from fit_of (k := 2) (by omega) (by omega) (by omega)]
  simp [ebod]
theorem ebod_length {e : EnR} (h : e.y.length = 32) : (ebod e).length = 44 := by simp [ebod, leb_length, h]
theorem ebod_lt {e : EnR} (h : ∀ c ∈ e.y, c < 256) : ∀ c ∈ ebod e, c < 256 := by
  intro c hc
  simp only [ebod, List.mem_append] at hc
  rcases hc with ((((h1 | h1) | h1) | h1) | h1) | h1
  all_goals first | exact leb_lt _ _ c h1 | exact h c h1

theorem en_row {w : World} {g : Nat} {t : TypeId} {e : EnR} (h : Blk w g t (enA e)) (hl : e.y.length = 32) (hb : ∀ c ∈ e.y, c < 256) : RowB w (some ⟨g, 6, none⟩) 32 32 e.y :=
  ⟨hl, Nat.le_refl _, by unfold maxLen; omega, hb, fun _ => ⟨g, 6, rfl, fun i hi => (h.cell (6 + i)).trans (mixA_byte (enZ e) e.y i (by omega))⟩, fun h => by cases h⟩

theorem wpl_copy_at {P : Program} {w : World} {ops : Array Oper} {rest : List Oper} {o : Oper} {a : Act} {Q : Exit → Act → World → Prop} (hgd : o.guard = none) (d s : Operand) (dT sT : TypeId) (ho : o.op = .call { callee := .builtin .copy, args := #[d, s], argTypes := #[dT, sT] }) {elem : TypeId} (hu : P.underlying dT = some (.slice elem)) (hsz : (P.info? elem).map (·.size) = some 1)
    (g off dLen dCap : Nat) (cur : List Value) (t : TypeId) (hg : Blk w g t cur.toArray) (hd : a.eval d = .slice (some ⟨g, off, none⟩) dLen dCap) (hfit : off + dLen ≤ cur.length) (sp : Option Addr) (sLen sCap : Nat) (bs : List Nat) (hs : a.eval s = .slice sp sLen sCap) (hrow : RowB w sp sLen sCap bs)
    (h : ∀ w', Blk w' g t (splice cur off (bvals (bs.take dLen))).toArray → Below g w w' → wpList P ops Q rest (a.put o.dst (goInt (min sLen dLen : Nat))) w') : wpList P ops Q (o :: rest) a w :=
  wpList_plain hgd fun _ hK => wp_copy_at hgd d s dT sT ho hu hsz g off dLen dCap cur t hg hd hfit sp sLen sCap bs hs hrow (fun w' h1 h2 => hK _ _ (h w' h1 h2))

/-- A body, and an error or none. -/
def BodP (bs : List Nat) (x : Int) (w : World) (en : Ending) (w' : World) : Prop := en = .returned (.tuple #[.agg (bA bs), .int .i64 x]) ∧ Below w.heap.size w w'

/-- What Body tells. -/
def bodV (e : EnR) : List Nat := if rB e = true then ebod e else zeros 44
def bodE (e : EnR) : Int := if rB e = true then 0 else 10
theorem bodV_length {e : EnR} (h : e.y.length = 32) : (bodV e).length = 44 := by
  unfold bodV; split
  · exact ebod_length h
  · exact zeros_length 44
theorem bodV_lt {e : EnR} (h : ∀ c ∈ e.y, c < 256) : ∀ c ∈ bodV e, c < 256 := by
  unfold bodV; split
  · exact ebod_lt h
  · exact zeros_lt 44
theorem bodV_ok {e : EnR} (h : rB e = true) : bodV e = ebod e := if_pos h
theorem bodE_ok {e : EnR} (h : rB e = true) : bodE e = 0 := if_pos h
theorem bodV_bad {e : EnR} (h : rB e = false) : bodV e = zeros 44 := if_neg (by rw [h]; decide)
theorem bodE_bad {e : EnR} (h : rB e = false) : bodE e = 10 := if_neg (by rw [h]; decide)
end Go.Proofs.Ytlngdndamgopeaa

/-
  Contracts of layer 4 (entry), fourth part: said.
-/
namespace Go.Proofs.Ytlngdndamgopeaa
open Go.RowKit CrcM
set_option linter.unusedVariables false
set_option linter.unnecessarySimpa false
set_option linter.unusedSimpArgs false

/-- What a body says of that which its kind has. -/
def sd (k : Int) (bs : List Nat) : EnR := ⟨k, (num ((bs.drop 0).take 6) : Nat), (num ((bs.drop 6).take 1) : Nat), (num ((bs.drop 7).take 1) : Nat), if k = 2 then (num ((bs.drop 8).take 2) : Nat) else 0, (num ((bs.drop 10).take 2) : Nat), if k = 2 then zeros 32 else (bs.drop 12).take 32⟩
theorem sd_trim (bs : List Nat) : sd 2 bs = ⟨2, (num ((bs.drop 0).take 6) : Nat), (num ((bs.drop 6).take 1) : Nat), (num ((bs.drop 7).take 1) : Nat), (num ((bs.drop 8).take 2) : Nat), (num ((bs.drop 10).take 2) : Nat), zeros 32⟩ := rfl
theorem sd_other {k : Int} (h : k ≠ 2) (bs : List Nat) : sd k bs = ⟨k, (num ((bs.drop 0).take 6) : Nat), (num ((bs.drop 6).take 1) : Nat), (num ((bs.drop 7).take 1) : Nat), 0, (num ((bs.drop 10).take 2) : Nat), (bs.drop 12).take 32⟩ := by unfold sd; rw [if_neg h, if_neg h]
theorem sd_len {k : Int} {bs : List Nat} (h : bs.length = 44) : (sd k bs).y.length = 32 := by
  unfold sd; simp only; split
  · exact zeros_length 32
  · simp [h]
theorem sd_lt {k : Int} {bs : List Nat} (h : ∀ c ∈ bs, c < 256) : ∀ c ∈ (sd k bs).y, c < 256 := by
  unfold sd; simp only; split
  · exact zeros_lt 32
  · exact fun c hc => h c (List.mem_of_mem_drop (List.mem_of_mem_take hc))

theorem enA_set0 (e : EnR) (x : Int) : (enA e).setIfInBounds 0 (.int .i64 x) = enA { e with k := x } := by simp [enA, mixA, mixL, enZ]
theorem enA_set1 (e : EnR) (x : Int) : (enA e).setIfInBounds 1 (.int .i64 x) = enA { e with f := x } := by simp [enA, mixA, mixL, enZ]
theorem enA_set2 (e : EnR) (x : Int) : (enA e).setIfInBounds 2 (.int .i64 x) = enA { e with c := x } := by simp [enA, mixA, mixL, enZ]
theorem enA_set3 (e : EnR) (x : Int) : (enA e).setIfInBounds 3 (.int .i64 x) = enA { e with b := x } := by simp [enA, mixA, mixL, enZ]
theorem enA_set4 (e : EnR) (x : Int) : (enA e).setIfInBounds 4 (.int .i64 x) = enA { e with m := x } := by simp [enA, mixA, mixL, enZ]
theorem enA_set5 (e : EnR) (x : Int) : (enA e).setIfInBounds 5 (.int .i64 x) = enA { e with t := x } := by simp [enA, mixA, mixL, enZ]
theorem enA_body (e : EnR) (xs : List Nat) (hf : e.y.length = 32) (hx : xs.length = 32) : (splice (mixL (enZ e) e.y) 6 (bvals xs)).toArray = enA { e with y := xs } := by
  unfold splice enA mixA mixL
  rw [List.take_append_of_le_length (by simp [enZ]), List.drop_of_length_le (by simp [bvals_length, enZ, hf, hx])]
  simp [enZ]

/-- What said tells. -/
def SaidP (e : EnR) (w : World) (en : Ending) (w' : World) : Prop := en = .returned (.agg (enA e)) ∧ Below w.heap.size w w'

end Go.Proofs.Ytlngdndamgopeaa

