/-
  Layer 4 (entry), seventh part: the document's Body.
-/
import Derived.Test.YtdjnfikacjfkkaaEntryG
namespace Go.Proofs.Ytdjnfikacjfkkaa
open Go.RowKit CrcM
set_option linter.unusedVariables false
set_option linter.unnecessarySimpa false
set_option linter.unusedSimpArgs false

theorem OwnAt.nil (wb : World) : OwnAt wb wb (.slice none 0 0) [] := ⟨⟨by simp [bvals], .inl ⟨rfl, rfl⟩⟩, Below.refl _ _, by simp⟩

theorem fill_row (n : Nat) (R : List Nat) (j : Nat) (hj : j < n) (h : R.length = n) : (R.take j ++ zeros (n - j)).set j (R.getD j 0) = R.take (j + 1) ++ zeros (n - (j + 1)) := by
  have hl : (R.take j).length = j := by rw [List.length_take, h]; omega
  rw [List.set_append_right _ _ (by omega), hl, Nat.sub_self, take_snoc_nat R j (by omega), List.append_assoc]
  congr 1
  have e : zeros (n - j) = 0 :: zeros (n - (j + 1)) := by
    unfold zeros; rw [show n - j = (n - (j + 1)) + 1 by omega, List.replicate_succ]
  rw [e, List.set_cons_zero]
  rfl

set_option maxRecDepth 100000 in
set_option maxHeartbeats 4000000 in
theorem rbody4_nat (k : Int) (f c b m t : Nat) (y : List Nat) (w : World) (hl : y.length = 32) (hb : ∀ x ∈ y, x < 256) (hf : f < 281474976710656) (hc : c < 256) (hbb : b < 256) (hm : m < 65536) (ht : t < 65536) :
    Calls Try.prog 15 #[.agg (enA ⟨k, (f : Nat), (c : Nat), (b : Nat), (m : Nat), (t : Nat), y⟩)] w fun en w' => en = .returned (.agg (bA (ebod ⟨k, (f : Nat), (c : Nat), (b : Nat), (m : Nat), (t : Nat), y⟩))) ∧ Below w.heap.size w w' := by
  generalize he : (⟨k, (f : Nat), (c : Nat), (b : Nat), (m : Nat), (t : Nat), y⟩ : EnR) = e
  have hf0 : e.f = (f : Nat) := by rw [← he]
  have hc0 : e.c = (c : Nat) := by rw [← he]
  have hb0 : e.b = (b : Nat) := by rw [← he]
  have hm0 : e.m = (m : Nat) := by rw [← he]
  have ht0 : e.t = (t : Nat) := by rw [← he]
  have hy0 : e.y = y := by rw [← he]
  have hlc : leb 1 c = [c] := by simp [leb]; omega
  have hlb : leb 1 b = [b] := by simp [leb]; omega
  have Hbod : Hid (ebod e = ([] ++ leb 6 f ++ [c] ++ [b] ++ leb 2 m ++ leb 2 t) ++ y) := Lib.hid (by
    unfold ebod; rw [hf0, hc0, hb0, hm0, ht0, hy0]; simp only [Int.toNat_natCast, hlc, hlb, List.nil_append])
  have hc8 : (c : Int) % 256 = (c : Int) := by omega
  have hb8 : (b : Int) % 256 = (b : Int) := by omega
  have hX : Blk ((w.alloc (Obj.cells (enA e) 32)).alloc (Obj.cells (bA (zeros 44)) 26)) w.heap.size 32 (enA e) := Blk.alloc (Blk.new _ _ _) _
  have HO : Hid (Blk ((w.alloc (Obj.cells (enA e) 32)).alloc (Obj.cells (bA (zeros 44)) 26)) (w.heap.size + 1) 26 (bA (zeros 44))) := Lib.hid (by
    have h := Blk.new (w.alloc (Obj.cells (enA e) 32)) 26 (bA (zeros 44))
    rwa [show (w.alloc (Obj.cells (enA e) 32)).heap.size = w.heap.size + 1 by simp] at h)
  have HB : Hid (Below w.heap.size w ((w.alloc (Obj.cells (enA e) 32)).alloc (Obj.cells (bA (zeros 44)) 26))) := Lib.hid (bthen (below_alloc _ _) (below_alloc _ _))
  have Hsz : Hid (((w.alloc (Obj.cells (enA e) 32)).alloc (Obj.cells (bA (zeros 44)) 26)).heap.size = w.heap.size + 2) := Lib.hid (by simp)
  have Hcell : Hid (∀ i v, (enA e)[i]? = some v → ∀ w', Below ((w.alloc (Obj.cells (enA e) 32)).alloc (Obj.cells (bA (zeros 44)) 26)).heap.size ((w.alloc (Obj.cells (enA e) 32)).alloc (Obj.cells (bA (zeros 44)) 26)) w' → w'.cell? ⟨w.heap.size, i, none⟩ = some v) := Lib.hid (fun i v hv w' hw => ((hX.below hw hX.lt).cell i).trans hv)
  have c1 : ((w.alloc (Obj.cells (enA e) 32)).alloc (Obj.cells (bA (zeros 44)) 26)).cell? ⟨w.heap.size, 1, none⟩ = some (.int .i64 (f : Nat)) := by rw [← hf0]; exact (hX.cell 1).trans (enA_at1 e)
  have Hc0 := Lib.hid hc0
  have Hb0 := Lib.hid hb0
  have Hm0 := Lib.hid hm0
  have Ht0 := Lib.hid ht0
  have Hy0 := Lib.hid hy0
  have HL := Lib.hid hl
  have Hb := Lib.hid hb
  have Hc := Lib.hid hc
  have Hbb := Lib.hid hbb
  have hz44 := zero_44
  clear hX hl hb hf0 hc0 hb0 hm0 ht0 hy0 he hlc hlb
  go_enter Try.func15, Try.ntmps15
  go_wp2_with fail
  clear c1
  have H0 := Lib.hid (OwnAt.nil ((w.alloc (Obj.cells (enA e) 32)).alloc (Obj.cells (bA (zeros 44)) 26)))
  generalize ((w.alloc (Obj.cells (enA e) 32)).alloc (Obj.cells (bA (zeros 44)) 26)) = wb at *
  refine (rnumI 6 _ 6 f rfl rfl wb (by decide) (by omega)).mono ?_
  rintro en w0a ⟨a0, cp0, rfl, hr, _, hb⟩
  rw [leb_length] at hr
  rw [leb_length]
  have HA0 := Lib.hid (H0.out.below hb)
  have HR0 := Lib.hid hr
  clear hr hb H0
  go_wp2_with (first
    | (refine wpl_more rfl (.tmp 7) (.tmp 10) rfl wb _ _ rfl HA0.out a0 6 cp0 (leb 6 f) rfl HR0.out (by simp [leb_length]) ?_; intro v1 u1 hown; have c2 := Hcell.out 2 _ (enA_at2 e) u1 hown.bel; rw [Hc0.out] at c2; have HW1 := Lib.hid hown; clear hown HA0 HR0; go_frame)
    | (have HA1 := Lib.hid (HW1.out.below (below_alloc u1 (Obj.cells #[.int .u8 (c : Nat)] 5))); have HR1 := Lib.hid (row_one (u1.alloc (Obj.cells #[.int .u8 (c : Nat)] 5)) u1.heap.size c _ Hc.out (heap_alloc_new u1 _)); refine wpl_more rfl (.tmp 12) (.tmp 16) rfl wb _ _ rfl HA1.out _ 1 1 [c] rfl HR1.out (by simp [leb_length]) ?_; intro v2 u2 hown; have c3 := Hcell.out 3 _ (enA_at3 e) u2 hown.bel; rw [Hb0.out] at c3; have HW2 := Lib.hid hown; clear hown HA1 HR1; go_frame)
    | (have HA2 := Lib.hid (HW2.out.below (below_alloc u2 (Obj.cells #[.int .u8 (b : Nat)] 5))); have HR2 := Lib.hid (row_one (u2.alloc (Obj.cells #[.int .u8 (b : Nat)] 5)) u2.heap.size b _ Hbb.out (heap_alloc_new u2 _)); refine wpl_more rfl (.tmp 18) (.tmp 22) rfl wb _ _ rfl HA2.out _ 1 1 [b] rfl HR2.out (by simp [leb_length]) ?_; intro v3 u3 hown; have c4 := Hcell.out 4 _ (enA_at4 e) u3 hown.bel; rw [Hm0.out] at c4; have HW3 := Lib.hid hown; clear hown HA2 HR2; go_frame))
  clear c2 c3 c4
  refine (rnumI 2 _ 2 m rfl rfl u3 (by decide) (by omega)).mono ?_
  rintro en w3a ⟨a3, cp3, rfl, hr, _, hb⟩
  rw [leb_length] at hr
  rw [leb_length]
  have HA3 := Lib.hid (HW3.out.below hb)
  have HR3 := Lib.hid hr
  clear hr hb HW3
  go_wp2_with (refine wpl_more rfl (.tmp 24) (.tmp 27) rfl wb _ _ rfl HA3.out a3 2 cp3 (leb 2 m) rfl HR3.out (by simp [leb_length]) ?_; intro v4 u4 hown; have c5 := Hcell.out 5 _ (enA_at5 e) u4 hown.bel; rw [Ht0.out] at c5; have HW4 := Lib.hid hown; clear hown HA3 HR3; go_frame)
  clear c5
  refine (rnumI 2 _ 2 t rfl rfl u4 (by decide) (by omega)).mono ?_
  rintro en w4a ⟨a4, cp4, rfl, hr, _, hb⟩
  rw [leb_length] at hr
  rw [leb_length]
  have HA4 := Lib.hid (HW4.out.below hb)
  have HR4 := Lib.hid hr
  clear hr hb HW4
  go_wp2_with (refine wpl_more rfl (.tmp 29) (.tmp 32) rfl wb _ _ rfl HA4.out a4 2 cp4 (leb 2 t) rfl HR4.out (by simp [leb_length]) ?_; intro v5 u5 hown; have HW5 := Lib.hid hown; clear hown HA4 HR4; go_frame)
  have HP : Hid (([] ++ leb 6 f ++ [c] ++ [b] ++ leb 2 m ++ leb 2 t).length = 12) := Lib.hid (by simp [leb_length])
  generalize [] ++ leb 6 f ++ [c] ++ [b] ++ leb 2 m ++ leb 2 t = P0 at *
  go_loopw [3, 4] (fun v i wr => ∃ j : Nat, j ≤ 32 ∧ i = .int .i64 j ∧ OwnAt wb wr v (P0 ++ y.take j)) (fun _ i _ => 32 - (intOf i).toNat)
  case atStart => exact ⟨0, Nat.zero_le _, rfl, by rw [List.take_zero, List.append_nil]; exact HW5.out⟩
  case round =>
    obtain ⟨j, hj, rfl, hw⟩ := hrel
    have Hw := Lib.hid hw
    clear hw
    by_cases hlt : j < 32
    · have cb := Hcell.out (6 + j) _ (mixA_byte (enZ e) e.y j (by rw [Hy0.out, HL.out]; exact hlt)) wr Hw.out.bel
      rw [Hy0.out] at cb
      have hcx := getD_lt Hb.out j
      have Hts := Lib.hid (take_snoc_nat y j (by rw [HL.out]; exact hlt))
      generalize y.getD j 0 = x at *
      have HA := Lib.hid (Hw.out.below (below_alloc wr (Obj.cells #[.int .u8 (x : Nat)] 5)))
      have HR := Lib.hid (row_one (wr.alloc (Obj.cells #[.int .u8 (x : Nat)] 5)) wr.heap.size x _ hcx (heap_alloc_new wr _))
      have HJ : Hid ((P0 ++ y.take j).length = 12 + j) := Lib.hid (by rw [List.length_append, HP.out, List.length_take, HL.out, Nat.min_eq_left (by omega)])
      go_wp2_with (refine wpl_more rfl (.tmp 38) (.tmp 43) rfl wb _ _ rfl HA.out _ 1 1 [x] rfl HR.out (by rw [HJ.out]; omega) ?_; intro v1 u1 hown; have HW := Lib.hid hown; clear hown HA HR; go_frame)
      go_roundw
      case rel => exact ⟨j + 1, by omega, by go_num, by rw [Hts.out, ← List.append_assoc]; exact HW.out⟩
      case measure => simp [intOf]; omega
    · obtain rfl : j = 32 := by omega
      rw [List.take_of_length_le (by rw [HL.out]; decide), ← Hbod.out] at Hw
      have HL44 : Hid ((ebod e).length = 44) := Lib.hid (by rw [Hbod.out, List.length_append, HP.out, HL.out])
      obtain ⟨R0, HR0⟩ : ∃ R0, Hid (ebod e = R0) := ⟨_, Lib.hid rfl⟩
      rw [HR0.out] at Hw HL44
      obtain ⟨gr, cr2, rfl, hgr, hrow6, hfz⟩ := own_some Hw.out.own Hw.out.lt (by rw [HL44.out]; decide)
      rw [HL44.out] at hrow6
      rw [HL44.out]
      have hcr : 44 ≤ cr2 := hrow6.le
      have hcm : cr2 ≤ 9223372036854775807 := by have := hrow6.max; unfold maxLen at this; omega
      have HRow6 := Lib.hid hrow6
      have HO6 := Lib.hid (HO.out.below Hw.out.bel (by rw [Hsz.out]; omega))
      have HB6 := Lib.hid (bthen HB.out Hw.out.bel)
      have HRb := Lib.hid Hw.out.lt
      have Hs6 : Hid (w.heap.size + 2 ≤ wr.heap.size) := Lib.hid (by have := Hw.out.bel.size; have := Hsz.out; omega)
      clear hgr hrow6 hfz Hw
      have H7R : Hid (RowB (wr.alloc (Obj.cells (bA (zeros 44)) 26)) (some ⟨gr, 0, none⟩) 44 cr2 R0) := Lib.hid (HRow6.out.below (below_alloc _ _))
      have H7O := Lib.hid (HO6.out.alloc (Obj.cells (bA (zeros 44)) 26))
      have H7B := Lib.hid (bthen HB6.out (below_alloc wr (Obj.cells (bA (zeros 44)) 26)))
      have H7N : Hid (Blk (wr.alloc (Obj.cells (bA (zeros 44)) 26)) wr.heap.size 26 (bA (zeros 44))) := Lib.hid (Blk.new _ _ _)
      have HgN : Hid (gr ≠ wr.heap.size) := Lib.hid (by have := HRow6.out.block (by decide); obtain ⟨ad, had, hl⟩ := this; cases had; exact Nat.ne_of_lt hl)
      clear HRow6 HO6 HB6
      go_wp2_with fail
      clear hz44
      generalize wr.alloc (Obj.cells (bA (zeros 44)) 26) = u7 at *
      generalize wr.heap.size = gN at *
      clear wr
      go_loopw [6] (fun i wr => ∃ j : Nat, j ≤ 44 ∧ i = .int .i64 j ∧ Blk wr gN 26 (bA (R0.take j ++ zeros (44 - j))) ∧ Kept (· = gN) u7 wr) (fun i _ => 44 - (intOf i).toNat)
      case atStart => exact ⟨0, Nat.zero_le _, rfl, by rw [List.take_zero, List.nil_append]; exact H7N.out, Kept.refl _ _⟩
      case round =>
        obtain ⟨j, hj, rfl, hg, hkp⟩ := hrel
        have Hg := Lib.hid hg
        have Hk := Lib.hid hkp
        clear hg hkp
        by_cases hlt : j < 44
        · have cr := (H7R.out.kept Hk.out (fun _ ad had e => HgN.out (by cases had; exact e))).at0 j hlt
          have hset := fill_row 44 R0 j hlt HL44.out
          have hgs := Hg.out.set j (.int .u8 (R0.getD j 0 : Nat))
          rw [bA_set, hset] at hgs
          have Hgs := Lib.hid hgs
          have fx := Hg.out.frozen j
          have cx := (Hg.out.cell j).trans (bA_at _ j (by simp [zeros_length, HL44.out]; omega))
          generalize R0.getD j 0 = c at *
          generalize (R0.take j ++ zeros (44 - j)).getD j 0 = y at *
          clear hgs hset
          go_wp2_with fail
          go_roundw
          case rel => exact ⟨j + 1, by omega, by go_num, Hgs.out, Hk.out.setCell rfl _⟩
          case measure => simp [intOf]; omega
        · obtain rfl : j = 44 := by omega
          have Hg2 : Hid (Blk wr gN 26 (bA R0)) := Lib.hid (by have := Hg.out; rw [List.take_of_length_le (by rw [HL44.out]; decide)] at this; simpa [zeros] using this)
          have HO2 := Lib.hid (H7O.out.kept Hk.out (by have := Hs6.out; omega))
          have HB2 := Lib.hid (bkept H7B.out (Nat.le_refl _) Hk.out (fun i hi h => by have := Hs6.out; omega))
          clear Hg Hk
          go_wp2_with (first | (refine wpl_load rfl _ rfl (gN) rfl _ _ _ Hg2.out Try.underlying26 rfl (info_44 HL44.out) ?_; go_frame) | (refine wpl_store rfl _ _ rfl (w.heap.size + 1) (bA R0) rfl rfl _ _ HO2.out (info_44 HL44.out) (by rw [bA_size, bA_size, zeros_length, HL44.out]) (bA_one _) ?_; intro w9 hS9 hK9; have HS9 := Lib.hid hS9; have HK9 := Lib.hid hK9; clear hS9 hK9; go_frame))
          exact bodyPost_ret (v := .agg (bA R0)) (results_cell_row Try.results15 _ _ (w.heap.size + 1) _ _ (0, 0) _ rfl HS9.out Try.underlying26 rfl (info_44 HL44.out)) rfl ⟨by rw [HR0.out], bkept HB2.out (Nat.le_refl _) HK9.out (fun i hi h => by omega)⟩

theorem rbody4_any (e : EnR) (w : World) (hl : e.y.length = 32) (hb : ∀ x ∈ e.y, x < 256) (hr : rB e = true) :
    Calls Try.prog 15 #[.agg (enA e)] w fun en w' => en = .returned (.agg (bA (ebod e))) ∧ Below w.heap.size w w' := by
  obtain ⟨⟨h1, h2⟩, ⟨h3, h4⟩, ⟨h5, h6⟩, ⟨h7, h8⟩, h9, h10⟩ := rB_ranges hr
  obtain ⟨k, f, c, b, m, t, y⟩ := e
  simp only at *
  obtain ⟨f', rfl⟩ : ∃ n : Nat, f = n := ⟨f.toNat, by omega⟩
  obtain ⟨c', rfl⟩ : ∃ n : Nat, c = n := ⟨c.toNat, by omega⟩
  obtain ⟨b', rfl⟩ : ∃ n : Nat, b = n := ⟨b.toNat, by omega⟩
  obtain ⟨m', rfl⟩ : ∃ n : Nat, m = n := ⟨m.toNat, by omega⟩
  obtain ⟨t', rfl⟩ : ∃ n : Nat, t = n := ⟨t.toNat, by omega⟩
  exact rbody4_nat k f' c' b' m' t' y w hl hb (by omega) (by omega) (by omega) (by omega) (by omega)

end Go.Proofs.Ytdjnfikacjfkkaa
