/-
  The walk of CrcLinear.
-/
import Derived.Test.YtnfiklmlmobchaaCrcZ
import Derived.RegionTactic
namespace Go.Proofs.Ytnfiklmlmobchaa
open Go.RowKit CrcM
set_option linter.unusedVariables false
set_option linter.unnecessarySimpa false
set_option linter.unusedSimpArgs false

attribute [local go_sem ↓] execOp_ldT

set_option maxRecDepth 100000 in
set_option maxHeartbeats 1000000 in
theorem walkLinear_out (a : Option Addr) (la ca : Nat) (b : Option Addr) (lb cb : Nat) (nn : Int) (w : World) (ma : la ≤ 9223372036854775807) (mb : lb ≤ 9223372036854775807) (hn : -9223372036854775808 ≤ nn ∧ nn ≤ 9223372036854775807)
    (ho : 300 < la ∨ 300 < lb ∨ nn < 0 ∨ 100 < nn) :
    Calls Try.prog 7 #[.slice a la ca, .slice b lb cb, .int .i64 nn] w fun e w' => e = .returned (.bool true) ∧ Below w.heap.size w w' := by
  by_cases h0 : 300 < la
  · have d0 : decide ((300 : Int) < (la : Int)) = true := decide_eq_true (by omega)
    go_enter Try.func7, Try.ntmps7
    go_wp2_with fail
    refine (anchor_any _).mono ?_
    rintro e w1 ⟨rfl, hb1⟩
    go_wp2_with fail
    go_ret
    exact ⟨rfl, hb1⟩
  · have d0 : decide ((300 : Int) < (la : Int)) = false := decide_eq_false (by omega)
    by_cases h1 : 300 < lb
    · have d1 : decide ((300 : Int) < (lb : Int)) = true := decide_eq_true (by omega)
      go_enter Try.func7, Try.ntmps7
      go_wp2_with fail
      refine (anchor_any _).mono ?_
      rintro e w1 ⟨rfl, hb1⟩
      go_wp2_with fail
      go_ret
      exact ⟨rfl, hb1⟩
    · have d1 : decide ((300 : Int) < (lb : Int)) = false := decide_eq_false (by omega)
      by_cases h2 : nn < 0
      · go_enter Try.func7, Try.ntmps7
        go_wp2_with fail
        refine (anchor_any _).mono ?_
        rintro e w1 ⟨rfl, hb1⟩
        go_wp2_with fail
        go_ret
        exact ⟨rfl, hb1⟩
      · have h3 : 100 < nn := by omega
        go_enter Try.func7, Try.ntmps7
        go_wp2_with fail
        refine (anchor_any _).mono ?_
        rintro e w1 ⟨rfl, hb1⟩
        go_wp2_with fail
        go_ret
        exact ⟨rfl, hb1⟩

theorem zx_set (xs ys : List Nat) (nn n k : Nat) (hk : k < n) :
    (zeros nn ++ (zx xs ys k ++ zeros (n - k))).set (nn + k) (xs.getD k 0 ^^^ ys.getD k 0) = zeros nn ++ (zx xs ys (k + 1) ++ zeros (n - (k + 1))) := by
  rw [List.set_append_right _ _ (by rw [zeros_length]; omega), List.set_append_right _ _ (by rw [zx_length, zeros_length]; omega), zx_length, zeros_length, zx_succ]
  have e : zeros (n - k) = 0 :: zeros (n - (k + 1)) := by
    unfold zeros; rw [show n - k = (n - (k + 1)) + 1 by omega, List.replicate_succ]
  rw [e, show nn + k - nn - k = 0 by omega, List.set_cons_zero]
  simp

theorem lin_sum (xs ys : List Nat) (nn n : Nat) (hx : ∀ c ∈ xs, c < 256) (hy : ∀ c ∈ ys, c < 256) (h1 : n ≤ xs.length) (h2 : n ≤ ys.length) :
    ovr 0 (zeros nn ++ zx xs ys n) = ovr 0 (xs.take n) ^^^ ovr 0 (ys.take n) := by
  have hl1 : (xs.take n).length = n := by simp; omega
  have hl2 : (ys.take n).length = n := by simp; omega
  rw [ovr_append, ovr_zeros, ovr_num _ 0 (zx_lt hx hy n), ovr_num _ 0 (fun c hc => hx c (List.mem_of_mem_take hc)), ovr_num _ 0 (fun c hc => hy c (List.mem_of_mem_take hc)), zx_length, hl1, hl2, num_zx xs ys hx hy n h1 h2]
  simp only [Nat.zero_xor, hvs_xor]

set_option maxRecDepth 100000 in
set_option maxHeartbeats 2000000 in
theorem walkLinear_b (a : Option Addr) (la ca : Nat) (xs : List Nat) (b : Option Addr) (lb cb : Nat) (ys : List Nat) (nn : Nat) (w : World) (ha : RowB w a la ca xs) (hb : RowB w b lb cb ys)
    (h1 : la ≤ 300) (h2 : lb ≤ 300) (h3 : nn ≤ 100) (hlt : lb < la) :
    Calls Try.prog 7 #[.slice a la ca, .slice b lb cb, .int .i64 nn] w fun e w' => e = .returned (.bool true) ∧ Below w.heap.size w w' := by
  have hz := zero_tab
  have hxl := Lib.hid ha.length
  have hxb := Lib.hid ha.lt
  have hyl := Lib.hid hb.length
  have hyb := Lib.hid hb.lt
  have hna : lb ≤ la := by omega
  have hnb : lb ≤ lb := by omega
  have hca : ca ≤ 9223372036854775807 ∧ la ≤ ca ∧ ca ≤ maxLen := ⟨by have := ha.max; unfold maxLen at this; omega, ha.le, ha.max⟩
  have hcb : cb ≤ 9223372036854775807 ∧ lb ≤ cb ∧ cb ≤ maxLen := ⟨by have := hb.max; unfold maxLen at this; omega, hb.le, hb.max⟩
  obtain ⟨hca1, hca2, hca3⟩ := hca
  obtain ⟨hcb1, hcb2, hcb3⟩ := hcb
  have Hca3 := Lib.hid hca3
  have Hcb3 := Lib.hid hcb3
  clear hca3 hcb3
  go_enter Try.func7, Try.ntmps7
  go_wp2_with fail
  refine (anchor_any _).mono ?_
  rintro e w1 ⟨rfl, hb1⟩
  go_wp2_with fail
  refine (new_any _).mono ?_
  rintro e w2 ⟨rfl, hb2⟩
  have hmk : ∀ w : World, (Instr.makeSlice 22 (.int .i64 ((nn : Int) + (lb : Int))) (.int .i64 ((nn : Int) + (lb : Int)))).run Try.prog w = .ok (.slice (some ⟨w.heap.size, 0, none⟩) (nn + lb) (nn + lb)) (w.alloc (Obj.cells (bA (zeros (nn + lb))) 5)) := fun w => by
    have h := make_bytes w (nn + lb) (by omega)
    rwa [show ((nn + lb : Nat) : Int) = (nn : Int) + (lb : Int) from by omega] at h
  have Ha := Lib.hid (((ha.below hb1).below hb2).below (below_alloc w2 (Obj.cells tbl 26)))
  have Hb := Lib.hid (((hb.below hb1).below hb2).below (below_alloc w2 (Obj.cells tbl 26)))
  clear ha hb
  go_wp2_with (refine wpList_store_row rfl 26 _ _ rfl w2.heap.size tbl rfl rfl 26 (pt 0) (heap_alloc_new w2 _) info_tbl (by rw [pt_size, tbl_size]) tbl_cells ?_; rw [setRow_new]; go_frame)
  clear hz hmk
  have hstart : zeros (nn + lb) = zeros nn ++ (zx xs ys 0 ++ zeros (lb - 0)) := by simp [zeros, zx]
  have HT := Lib.hid (heap_alloc_new w2 (Obj.cells tbl 26))
  have hsz : (w2.alloc (Obj.cells tbl 26)).heap.size = w2.heap.size + 1 := by simp
  have Hsz := Lib.hid hsz
  have hB0 := below_alloc (w2.alloc (Obj.cells tbl 26)) (Obj.cells (bA (zeros (nn + lb))) 5)
  rw [hsz] at hB0
  have hG0 : ((w2.alloc (Obj.cells tbl 26)).alloc (Obj.cells (bA (zeros (nn + lb))) 5)).heap[w2.heap.size + 1]? = some (Obj.cells (bA (zeros nn ++ (zx xs ys 0 ++ zeros (lb - 0)))) 5 (0, 0)) := by
    rw [← hstart]; exact heap_alloc2_new w2 _ _
  clear hsz hstart
  go_loopw [40] (fun i wr => ∃ k : Nat, k ≤ lb ∧ i = .int .i64 k ∧ wr.heap[w2.heap.size + 1]? = some (Obj.cells (bA (zeros nn ++ (zx xs ys k ++ zeros (lb - k)))) 5 (0, 0)) ∧ Below (w2.heap.size + 1) (w2.alloc (Obj.cells tbl 26)) wr) (fun i _ => lb - (intOf i).toNat)
  case atStart => exact ⟨0, Nat.zero_le _, rfl, hG0, hB0⟩
  case round =>
    obtain ⟨k, hk, rfl, hg, hbw⟩ := hrel
    have Hg := Lib.hid hg
    have Hbw := Lib.hid hbw
    clear hg hbw hG0 hB0
    have HBw := Lib.hid (show Below (w2.alloc (Obj.cells tbl 26)).heap.size (w2.alloc (Obj.cells tbl 26)) wr by rw [Hsz.out]; exact Hbw.out)
    have Har := Lib.hid (Ha.out.below HBw.out)
    have Hbr := Lib.hid (Hb.out.below HBw.out)
    by_cases hlt2 : k < lb
    · obtain ⟨ab, ao, rfl, hca⟩ := Har.out.cells (by omega)
      obtain ⟨bb, bo, rfl, hcb⟩ := Hbr.out.cells (by omega)
      have cA := hca k (by omega)
      have cB := hcb k (by omega)
      have lA := getD_lt hxb.out k
      have lB := getD_lt hyb.out k
      have hfz : wr.frozen? ⟨w2.heap.size + 1, nn + k, none⟩ = false := frozen_of_row wr _ _ _ _ Hg.out
      obtain ⟨c, hc⟩ : ∃ c : Nat, wr.cell? ⟨w2.heap.size + 1, nn + k, none⟩ = some (.int .u8 (c : Nat)) := ⟨_, (cell_of_row wr _ _ _ _ _ Hg.out).trans (bA_at _ _ (by simp [zx_length, zeros_length]; omega))⟩
      have hx := u8_xor_nat _ _ lA lB
      obtain ⟨v, hv⟩ : ∃ v, v = xs.getD k 0 ^^^ ys.getD k 0 := ⟨_, rfl⟩
      rw [← hv] at hx
      have Hv := Lib.hid hv
      clear hv hca hcb
      generalize xs.getD k 0 = x at cA lA hx
      generalize ys.getD k 0 = y at cB lB hx
      go_wp2_with fail
      go_region
      all_goals go_wp2_with fail
      all_goals go_roundw
      case rel =>
        refine ⟨k + 1, by omega, by go_num, ?_, ?_⟩
        · show (wr.setCell ⟨w2.heap.size + 1, nn + k, none⟩ (.int .u8 (v : Nat))).heap[w2.heap.size + 1]? = _
          rw [heap_setCell_same _ _ _ _ _ _ Hg.out, bA_set, Hv.out, zx_set xs ys nn lb k hlt2]
        · exact (Hbw.out.setCell (by simp) _).drew
      case measure => simp [intOf]; omega
    · have hkN : k = lb := by omega
      have hG : wr.heap[w2.heap.size + 1]? = some (Obj.cells (bA (zeros nn ++ zx xs ys lb)) 5 (0, 0)) := by
        have := Hg.out
        rw [hkN] at this
        rw [this]
        simp [zeros]
      have hLl : (zeros nn ++ zx xs ys lb).length = nn + lb := by simp [zeros_length, zx_length]
      have hLb : ∀ c ∈ zeros nn ++ zx xs ys lb, c < 256 := by
        intro c hc
        rcases List.mem_append.1 hc with h | h
        · exact zeros_lt nn c h
        · exact zx_lt hxb.out hyb.out lb c h
      have hrx := row_bA hG hLb (by rw [hLl]; unfold maxLen; omega)
      rw [hLl] at hrx
      have hTr := tab_range ((Hbw.out.block w2.heap.size (by omega)).trans HT.out)
      have hsum : ovr 0 (zeros nn ++ zx xs ys lb) = ovr 0 (xs.take lb) ^^^ ovr 0 (ys.take lb) := lin_sum xs ys nn lb hxb.out hyb.out (by rw [hxl.out]; exact hna) (by rw [hyl.out]; exact hnb)
      have hlx : ovr 0 (xs.take lb) < 4294967296 := ovr_lt _ (by decide) (fun c hc => hxb.out c (List.mem_of_mem_take hc))
      have hly : ovr 0 (ys.take lb) < 4294967296 := ovr_lt _ (by decide) (fun c hc => hyb.out c (List.mem_of_mem_take hc))
      have C1 : Hid (∀ w', Below wr.heap.size wr w' → Calls Try.prog 13 #[.agg tbl, .slice (some ⟨w2.heap.size + 1, 0, none⟩) (nn + lb) (nn + lb)] w' fun e w'' => e = .returned (.int .u32 (ovr 0 (zeros nn ++ zx xs ys lb) : Nat)) ∧ Below w'.heap.size w' w'') := Lib.hid (fun w' h => raw_any _ _ _ _ w' (hrx.below h))
      have C2 : Hid (∀ w', Below wr.heap.size wr w' → Calls Try.prog 13 #[.agg tbl, .slice a lb ca] w' fun e w'' => e = .returned (.int .u32 (ovr 0 (xs.take lb) : Nat)) ∧ Below w'.heap.size w' w'') := Lib.hid (fun w' h => raw_any _ _ _ _ w' ((Har.out.to lb hna).below h))
      have C3 : Hid (∀ w', Below wr.heap.size wr w' → Calls Try.prog 13 #[.agg tbl, .slice b lb cb] w' fun e w'' => e = .returned (.int .u32 (ovr 0 (ys.take lb) : Nat)) ∧ Below w'.heap.size w' w'') := Lib.hid (fun w' h => raw_any _ _ _ _ w' ((Hbr.out.to lb hnb).below h))
      have C4 : Hid (∀ w' : World, Calls Try.prog 13 #[.agg tbl, .slice (some ⟨w'.heap.size, 0, none⟩) nn nn] (w'.alloc (Obj.cells (bA (zeros nn)) 5)) fun e w'' => e = .returned (.int .u32 0) ∧ Below (w'.alloc (Obj.cells (bA (zeros nn)) 5)).heap.size (w'.alloc (Obj.cells (bA (zeros nn)) 5)) w'') := Lib.hid (fun w' => by
        have hr := row_bA (heap_alloc_new w' (Obj.cells (bA (zeros nn)) 5)) (zeros_lt nn) (by rw [zeros_length]; unfold maxLen; omega)
        rw [zeros_length] at hr
        have h := raw_any _ _ _ _ _ hr
        rw [ovr_zeros] at h
        exact h)
      have hbx := xor32n _ _ hlx hly
      rw [← hsum] at hbx
      generalize ovr 0 (zeros nn ++ zx xs ys lb) = r1 at *
      generalize ovr 0 (xs.take lb) = r2 at *
      generalize ovr 0 (ys.take lb) = r3 at *
      have s1 := fun w => run_sliceAt_to w a la ca lb (by omega) Hca3.out
      have s2 := fun w => run_sliceAt_to w b lb cb lb (by omega) Hcb3.out
      have hmk2 := fun w => make_bytes w nn (by omega)
      have hBw := HBw.out
      have hAll : Below w.heap.size w wr := bthen hb1 (bthen hb2 (bthen (below_alloc w2 _) HBw.out))
      have hu := Try.underlying26
      have hi := info_tblL
      have hLd : ∀ w' : World, w'.rangeAt w2.heap.size 0 tblL → ldAt Try.prog 26 (.pointer (some ⟨w2.heap.size, 0, none⟩)) w' = .ok (.agg tbl) w' := fun w' h => ld_tbl hu rfl hi w' h
      clear hu hi hG hrx hLl hLb hsum hlx hly Hg Hbw HBw Har Hbr Ha Hb HT Hsz hb1 hb2 hBw
      have hf2 := enter_raw
      go_wp2_with fail
      generalize Try.prog = P at *
      go_region_held3 (fun w' => Below wr.heap.size wr w' ∧ w'.rangeAt w2.heap.size 0 tblL) (first | exact ⟨(Below.refl _ _).drew, fun j v hv => hTr j v hv⟩ | (go_split_ands; exact ⟨bthen (by assumption) hbn, range_keep (by assumption) hbn⟩) | (go_split_ands; exact ⟨Below.alloc (by assumption) (Below.size (by assumption)) _, range_keep (by assumption) (below_alloc _ _)⟩))
        (first
          | ((go_split_ands); (go_at_call 13); (refine (C1.out _ (by assumption)).mono ?_); (rintro e wn ⟨rfl, hbn⟩))
          | ((go_split_ands); (go_at_call 13); (refine (C2.out _ (by assumption)).mono ?_); (rintro e wn ⟨rfl, hbn⟩))
          | ((go_split_ands); (go_at_call 13); (refine (C3.out _ (by assumption)).mono ?_); (rintro e wn ⟨rfl, hbn⟩))
          | ((go_split_ands); (go_at_call 13); (refine (C4.out _).mono ?_); (rintro e wn ⟨rfl, hbn⟩)))
      all_goals (go_split_ands; go_wp2; go_ret; exact ⟨rfl, bthen hAll (by assumption)⟩)

set_option maxRecDepth 100000 in
set_option maxHeartbeats 2000000 in
theorem walkLinear_a (a : Option Addr) (la ca : Nat) (xs : List Nat) (b : Option Addr) (lb cb : Nat) (ys : List Nat) (nn : Nat) (w : World) (ha : RowB w a la ca xs) (hb : RowB w b lb cb ys)
    (h1 : la ≤ 300) (h2 : lb ≤ 300) (h3 : nn ≤ 100) (hlt : ¬ lb < la) :
    Calls Try.prog 7 #[.slice a la ca, .slice b lb cb, .int .i64 nn] w fun e w' => e = .returned (.bool true) ∧ Below w.heap.size w w' := by
  have hz := zero_tab
  have hxl := Lib.hid ha.length
  have hxb := Lib.hid ha.lt
  have hyl := Lib.hid hb.length
  have hyb := Lib.hid hb.lt
  have hna : la ≤ la := by omega
  have hnb : la ≤ lb := by omega
  have hca : ca ≤ 9223372036854775807 ∧ la ≤ ca ∧ ca ≤ maxLen := ⟨by have := ha.max; unfold maxLen at this; omega, ha.le, ha.max⟩
  have hcb : cb ≤ 9223372036854775807 ∧ lb ≤ cb ∧ cb ≤ maxLen := ⟨by have := hb.max; unfold maxLen at this; omega, hb.le, hb.max⟩
  obtain ⟨hca1, hca2, hca3⟩ := hca
  obtain ⟨hcb1, hcb2, hcb3⟩ := hcb
  have Hca3 := Lib.hid hca3
  have Hcb3 := Lib.hid hcb3
  clear hca3 hcb3
  go_enter Try.func7, Try.ntmps7
  go_wp2_with fail
  refine (anchor_any _).mono ?_
  rintro e w1 ⟨rfl, hb1⟩
  go_wp2_with fail
  refine (new_any _).mono ?_
  rintro e w2 ⟨rfl, hb2⟩
  have hmk : ∀ w : World, (Instr.makeSlice 22 (.int .i64 ((nn : Int) + (la : Int))) (.int .i64 ((nn : Int) + (la : Int)))).run Try.prog w = .ok (.slice (some ⟨w.heap.size, 0, none⟩) (nn + la) (nn + la)) (w.alloc (Obj.cells (bA (zeros (nn + la))) 5)) := fun w => by
    have h := make_bytes w (nn + la) (by omega)
    rwa [show ((nn + la : Nat) : Int) = (nn : Int) + (la : Int) from by omega] at h
  have Ha := Lib.hid (((ha.below hb1).below hb2).below (below_alloc w2 (Obj.cells tbl 26)))
  have Hb := Lib.hid (((hb.below hb1).below hb2).below (below_alloc w2 (Obj.cells tbl 26)))
  clear ha hb
  go_wp2_with (refine wpList_store_row rfl 26 _ _ rfl w2.heap.size tbl rfl rfl 26 (pt 0) (heap_alloc_new w2 _) info_tbl (by rw [pt_size, tbl_size]) tbl_cells ?_; rw [setRow_new]; go_frame)
  clear hz hmk
  have hstart : zeros (nn + la) = zeros nn ++ (zx xs ys 0 ++ zeros (la - 0)) := by simp [zeros, zx]
  have HT := Lib.hid (heap_alloc_new w2 (Obj.cells tbl 26))
  have hsz : (w2.alloc (Obj.cells tbl 26)).heap.size = w2.heap.size + 1 := by simp
  have Hsz := Lib.hid hsz
  have hB0 := below_alloc (w2.alloc (Obj.cells tbl 26)) (Obj.cells (bA (zeros (nn + la))) 5)
  rw [hsz] at hB0
  have hG0 : ((w2.alloc (Obj.cells tbl 26)).alloc (Obj.cells (bA (zeros (nn + la))) 5)).heap[w2.heap.size + 1]? = some (Obj.cells (bA (zeros nn ++ (zx xs ys 0 ++ zeros (la - 0)))) 5 (0, 0)) := by
    rw [← hstart]; exact heap_alloc2_new w2 _ _
  clear hsz hstart
  go_loopw [40] (fun i wr => ∃ k : Nat, k ≤ la ∧ i = .int .i64 k ∧ wr.heap[w2.heap.size + 1]? = some (Obj.cells (bA (zeros nn ++ (zx xs ys k ++ zeros (la - k)))) 5 (0, 0)) ∧ Below (w2.heap.size + 1) (w2.alloc (Obj.cells tbl 26)) wr) (fun i _ => la - (intOf i).toNat)
  case atStart => exact ⟨0, Nat.zero_le _, rfl, hG0, hB0⟩
  case round =>
    obtain ⟨k, hk, rfl, hg, hbw⟩ := hrel
    have Hg := Lib.hid hg
    have Hbw := Lib.hid hbw
    clear hg hbw hG0 hB0
    have HBw := Lib.hid (show Below (w2.alloc (Obj.cells tbl 26)).heap.size (w2.alloc (Obj.cells tbl 26)) wr by rw [Hsz.out]; exact Hbw.out)
    have Har := Lib.hid (Ha.out.below HBw.out)
    have Hbr := Lib.hid (Hb.out.below HBw.out)
    by_cases hlt2 : k < la
    · obtain ⟨ab, ao, rfl, hca⟩ := Har.out.cells (by omega)
      obtain ⟨bb, bo, rfl, hcb⟩ := Hbr.out.cells (by omega)
      have cA := hca k (by omega)
      have cB := hcb k (by omega)
      have lA := getD_lt hxb.out k
      have lB := getD_lt hyb.out k
      have hfz : wr.frozen? ⟨w2.heap.size + 1, nn + k, none⟩ = false := frozen_of_row wr _ _ _ _ Hg.out
      obtain ⟨c, hc⟩ : ∃ c : Nat, wr.cell? ⟨w2.heap.size + 1, nn + k, none⟩ = some (.int .u8 (c : Nat)) := ⟨_, (cell_of_row wr _ _ _ _ _ Hg.out).trans (bA_at _ _ (by simp [zx_length, zeros_length]; omega))⟩
      have hx := u8_xor_nat _ _ lA lB
      obtain ⟨v, hv⟩ : ∃ v, v = xs.getD k 0 ^^^ ys.getD k 0 := ⟨_, rfl⟩
      rw [← hv] at hx
      have Hv := Lib.hid hv
      clear hv hca hcb
      generalize xs.getD k 0 = x at cA lA hx
      generalize ys.getD k 0 = y at cB lB hx
      go_wp2_with fail
      go_region
      all_goals go_wp2_with fail
      all_goals go_roundw
      case rel =>
        refine ⟨k + 1, by omega, by go_num, ?_, ?_⟩
        · show (wr.setCell ⟨w2.heap.size + 1, nn + k, none⟩ (.int .u8 (v : Nat))).heap[w2.heap.size + 1]? = _
          rw [heap_setCell_same _ _ _ _ _ _ Hg.out, bA_set, Hv.out, zx_set xs ys nn la k hlt2]
        · exact (Hbw.out.setCell (by simp) _).drew
      case measure => simp [intOf]; omega
    · have hkN : k = la := by omega
      have hG : wr.heap[w2.heap.size + 1]? = some (Obj.cells (bA (zeros nn ++ zx xs ys la)) 5 (0, 0)) := by
        have := Hg.out
        rw [hkN] at this
        rw [this]
        simp [zeros]
      have hLl : (zeros nn ++ zx xs ys la).length = nn + la := by simp [zeros_length, zx_length]
      have hLb : ∀ c ∈ zeros nn ++ zx xs ys la, c < 256 := by
        intro c hc
        rcases List.mem_append.1 hc with h | h
        · exact zeros_lt nn c h
        · exact zx_lt hxb.out hyb.out la c h
      have hrx := row_bA hG hLb (by rw [hLl]; unfold maxLen; omega)
      rw [hLl] at hrx
      have hTr := tab_range ((Hbw.out.block w2.heap.size (by omega)).trans HT.out)
      have hsum : ovr 0 (zeros nn ++ zx xs ys la) = ovr 0 (xs.take la) ^^^ ovr 0 (ys.take la) := lin_sum xs ys nn la hxb.out hyb.out (by rw [hxl.out]; exact hna) (by rw [hyl.out]; exact hnb)
      have hlx : ovr 0 (xs.take la) < 4294967296 := ovr_lt _ (by decide) (fun c hc => hxb.out c (List.mem_of_mem_take hc))
      have hly : ovr 0 (ys.take la) < 4294967296 := ovr_lt _ (by decide) (fun c hc => hyb.out c (List.mem_of_mem_take hc))
      have C1 : Hid (∀ w', Below wr.heap.size wr w' → Calls Try.prog 13 #[.agg tbl, .slice (some ⟨w2.heap.size + 1, 0, none⟩) (nn + la) (nn + la)] w' fun e w'' => e = .returned (.int .u32 (ovr 0 (zeros nn ++ zx xs ys la) : Nat)) ∧ Below w'.heap.size w' w'') := Lib.hid (fun w' h => raw_any _ _ _ _ w' (hrx.below h))
      have C2 : Hid (∀ w', Below wr.heap.size wr w' → Calls Try.prog 13 #[.agg tbl, .slice a la ca] w' fun e w'' => e = .returned (.int .u32 (ovr 0 (xs.take la) : Nat)) ∧ Below w'.heap.size w' w'') := Lib.hid (fun w' h => raw_any _ _ _ _ w' ((Har.out.to la hna).below h))
      have C3 : Hid (∀ w', Below wr.heap.size wr w' → Calls Try.prog 13 #[.agg tbl, .slice b la cb] w' fun e w'' => e = .returned (.int .u32 (ovr 0 (ys.take la) : Nat)) ∧ Below w'.heap.size w' w'') := Lib.hid (fun w' h => raw_any _ _ _ _ w' ((Hbr.out.to la hnb).below h))
      have C4 : Hid (∀ w' : World, Calls Try.prog 13 #[.agg tbl, .slice (some ⟨w'.heap.size, 0, none⟩) nn nn] (w'.alloc (Obj.cells (bA (zeros nn)) 5)) fun e w'' => e = .returned (.int .u32 0) ∧ Below (w'.alloc (Obj.cells (bA (zeros nn)) 5)).heap.size (w'.alloc (Obj.cells (bA (zeros nn)) 5)) w'') := Lib.hid (fun w' => by
        have hr := row_bA (heap_alloc_new w' (Obj.cells (bA (zeros nn)) 5)) (zeros_lt nn) (by rw [zeros_length]; unfold maxLen; omega)
        rw [zeros_length] at hr
        have h := raw_any _ _ _ _ _ hr
        rw [ovr_zeros] at h
        exact h)
      have hbx := xor32n _ _ hlx hly
      rw [← hsum] at hbx
      generalize ovr 0 (zeros nn ++ zx xs ys la) = r1 at *
      generalize ovr 0 (xs.take la) = r2 at *
      generalize ovr 0 (ys.take la) = r3 at *
      have s1 := fun w => run_sliceAt_to w a la ca la (by omega) Hca3.out
      have s2 := fun w => run_sliceAt_to w b lb cb la (by omega) Hcb3.out
      have hmk2 := fun w => make_bytes w nn (by omega)
      have hBw := HBw.out
      have hAll : Below w.heap.size w wr := bthen hb1 (bthen hb2 (bthen (below_alloc w2 _) HBw.out))
      have hu := Try.underlying26
      have hi := info_tblL
      have hLd : ∀ w' : World, w'.rangeAt w2.heap.size 0 tblL → ldAt Try.prog 26 (.pointer (some ⟨w2.heap.size, 0, none⟩)) w' = .ok (.agg tbl) w' := fun w' h => ld_tbl hu rfl hi w' h
      clear hu hi hG hrx hLl hLb hsum hlx hly Hg Hbw HBw Har Hbr Ha Hb HT Hsz hb1 hb2 hBw
      have hf2 := enter_raw
      go_wp2_with fail
      generalize Try.prog = P at *
      go_region_held3 (fun w' => Below wr.heap.size wr w' ∧ w'.rangeAt w2.heap.size 0 tblL) (first | exact ⟨(Below.refl _ _).drew, fun j v hv => hTr j v hv⟩ | (go_split_ands; exact ⟨bthen (by assumption) hbn, range_keep (by assumption) hbn⟩) | (go_split_ands; exact ⟨Below.alloc (by assumption) (Below.size (by assumption)) _, range_keep (by assumption) (below_alloc _ _)⟩))
        (first
          | ((go_split_ands); (go_at_call 13); (refine (C1.out _ (by assumption)).mono ?_); (rintro e wn ⟨rfl, hbn⟩))
          | ((go_split_ands); (go_at_call 13); (refine (C2.out _ (by assumption)).mono ?_); (rintro e wn ⟨rfl, hbn⟩))
          | ((go_split_ands); (go_at_call 13); (refine (C3.out _ (by assumption)).mono ?_); (rintro e wn ⟨rfl, hbn⟩))
          | ((go_split_ands); (go_at_call 13); (refine (C4.out _).mono ?_); (rintro e wn ⟨rfl, hbn⟩)))
      all_goals (go_split_ands; go_wp2; go_ret; exact ⟨rfl, bthen hAll (by assumption)⟩)

theorem walkCrcLinear (a : Option Addr) (la ca : Nat) (xs : List Nat) (b : Option Addr) (lb cb : Nat) (ys : List Nat) (nn : Int) (w : World) (ha : RowB w a la ca xs) (hb : RowB w b lb cb ys) (hn : (Lit.int .i64 nn).wf = true) :
    Calls Try.prog 7 #[.slice a la ca, .slice b lb cb, .int .i64 nn] w fun e w' => e = .returned (.bool true) ∧ Below w.heap.size w w' := by
  by_cases ho : 300 < la ∨ 300 < lb ∨ nn < 0 ∨ 100 < nn
  · have m1 := ha.max
    have m2 := ha.le
    have m3 := hb.max
    have m4 := hb.le
    unfold maxLen at m1 m3
    exact walkLinear_out a la ca b lb cb nn w (by omega) (by omega) (bounds_i64 hn) ho
  · obtain ⟨x, rfl⟩ := Int.eq_ofNat_of_zero_le (a := nn) (by omega)
    by_cases hlt : lb < la
    · exact walkLinear_b a la ca xs b lb cb ys x w ha hb (by omega) (by omega) (by omega) hlt
    · exact walkLinear_a a la ca xs b lb cb ys x w ha hb (by omega) (by omega) (by omega) hlt

end Go.Proofs.Ytnfiklmlmobchaa
