/-
  The walk of CrcSums.
-/
import Derived.Test.YtnfiklmlmobchaaCrcF
namespace Go.Proofs.Ytnfiklmlmobchaa
open Go.RowKit CrcM
set_option linter.unusedVariables false
set_option linter.unnecessarySimpa false
set_option linter.unusedSimpArgs false

/-- A slice of one byte that is built, as one word. -/
def bsAt (P : Program) (x : Value) (w : World) : Result Value := (Instr.buildSlice 22 1 #[(0, x)]).run P w
theorem execOp_bsT (P : Program) (e : Operand → Value) (d : Option Tmp) (x : Operand) (ty : TypeId) (pos : String) (af : Array Edge) (gu : Option (Nat × Bool)) (w : World) :
    (execOp e { dst := d, op := .buildSlice 22 1 #[(0, x)], type := ty, pos := pos, after := af, guard := gu }).run P w = (bsAt P (e x) w).andThen fun a w' => .ok (.value a) w' := by
  unfold execOp bsAt
  simp only [Sem.run_bind, Sem.run_pure, List.map_toArray, List.map_cons, List.map_nil]
theorem bs_run (c : Nat) (w : World) : bsAt Try.prog (.int .u8 c) w = .ok (.slice (some ⟨w.heap.size, 0, none⟩) 1 1) (w.alloc (Obj.cells #[.int .u8 c] 5)) := by kernel_rfl

theorem agg_u32 (w : World) : (isAgg 23).run Try.prog w = .ok false w := by kernel_rfl

attribute [local go_sem ↓] execOp_ldT execOp_bsT

set_option maxRecDepth 100000 in
set_option maxHeartbeats 1000000 in
theorem walkSums_out (a : Option Addr) (la ca : Nat) (b : Option Addr) (lb cb : Nat) (r c : Int) (w : World) (ma : la ≤ 9223372036854775807) (mb : lb ≤ 9223372036854775807)
    (ho : 300 < la ∨ 300 < lb) :
    Calls Try.prog 3 #[.slice a la ca, .slice b lb cb, .int .u32 r, .int .u8 c] w fun e w' => e = .returned (.bool true) ∧ Below w.heap.size w w' := by
  by_cases h0 : 300 < la
  · have d0 : decide ((300 : Int) < (la : Int)) = true := decide_eq_true (by omega)
    go_enter Try.func3, Try.ntmps3
    go_wp2_with fail
    refine (anchor_any _).mono ?_
    rintro e w1 ⟨rfl, hb1⟩
    go_wp2_with fail
    go_ret
    exact ⟨rfl, hb1⟩
  · have d0 : decide ((300 : Int) < (la : Int)) = false := decide_eq_false (by omega)
    have d1 : decide ((300 : Int) < (lb : Int)) = true := decide_eq_true (by omega)
    go_enter Try.func3, Try.ntmps3
    go_wp2_with fail
    refine (anchor_any _).mono ?_
    rintro e w1 ⟨rfl, hb1⟩
    go_wp2_with fail
    go_ret
    exact ⟨rfl, hb1⟩

theorem stp_one (r c : Nat) : ovr r [c] = stp r c := by simp only [ovr, List.foldl_cons, List.foldl_nil]
theorem stp_zero (c : Nat) : stp 0 c = tw c := congrArg (hvs 8) (Nat.zero_xor c)

theorem cell_keep {w w' : World} {p : Addr} {v : Value} (h : w.cell? p = some v) (hb : Below w.heap.size w w') : w'.cell? p = some v := (hb.cell (block_lt_of_cell h)).trans h
theorem enter_step (args : Array Value) (w : World) : (callFunc 14 args).run Try.prog w = .ok (.enter 14 args) w := by kernel_rfl
theorem enter_over (args : Array Value) (w : World) : (callFunc 15 args).run Try.prog w = .ok (.enter 15 args) w := by kernel_rfl
theorem enter_rsum (args : Array Value) (w : World) : (callFunc 17 args).run Try.prog w = .ok (.enter 17 args) w := by kernel_rfl
theorem idx_tab (g c : Nat) (hc : c < 256) (w : World) : (Instr.indexAt 26 (.pointer (some ⟨g, 0, none⟩)) (.int .u8 c)).run Try.prog w = .ok (.pointer (some ⟨g, c, none⟩)) w := by
  have h1 : (0 : Int) ≤ c := by omega
  have h2 : (c : Int) < 256 := by omega
  simp [Instr.indexAt, go_sem, h1, h2]
  intro hh; omega

set_option maxRecDepth 100000 in
set_option maxHeartbeats 4000000 in
theorem walkSums_in (a : Option Addr) (la ca : Nat) (xs : List Nat) (b : Option Addr) (lb cb : Nat) (ys : List Nat) (r c : Nat) (w : World) (ha : RowB w a la ca xs) (hb : RowB w b lb cb ys)
    (h1 : la ≤ 300) (h2 : lb ≤ 300) (hr : r < 4294967296) (hc : c < 256) :
    Calls Try.prog 3 #[.slice a la ca, .slice b lb cb, .int .u32 r, .int .u8 c] w fun e w' => e = .returned (.bool true) ∧ Below w.heap.size w w' := by
  have hz := zero_tab
  have hxb := Lib.hid ha.lt
  have hyb := Lib.hid hb.lt
  have hyl := Lib.hid hb.length
  have hlc : lb ≤ cb := hb.le
  have hmc : cb ≤ 9223372036854775807 := by have := hb.max; unfold maxLen at this; omega
  go_enter Try.func3, Try.ntmps3
  go_wp2_with fail
  refine (anchor_any _).mono ?_
  rintro e w1 ⟨rfl, hb1⟩
  go_wp2_with fail
  refine (new_any _).mono ?_
  rintro e w2 ⟨rfl, hb2⟩
  have Ha := Lib.hid (((ha.below hb1).below hb2).below (below_alloc w2 (Obj.cells tbl 26)))
  have Hb := Lib.hid (((hb.below hb1).below hb2).below (below_alloc w2 (Obj.cells tbl 26)))
  have Hra := Lib.hid (Ha.out.below (below_alloc _ (Obj.cells #[] 5)))
  have hown := own_made (w2.alloc (Obj.cells tbl 26)) (w2.heap.size + 1) (w2.heap.size + 1) (by simp) (Nat.le_refl _)
  have Hown := Lib.hid hown
  have hBz := below_alloc (w2.alloc (Obj.cells tbl 26)) (Obj.cells #[] 5)
  rw [show (w2.alloc (Obj.cells tbl 26)).heap.size = w2.heap.size + 1 by simp] at hBz
  have HBz := Lib.hid hBz
  have Hsz := Lib.hid (show (w2.alloc (Obj.cells tbl 26)).heap.size = w2.heap.size + 1 by simp)
  clear ha hb hown hBz
  have HTz := Lib.hid (heap_alloc_new w2 (Obj.cells tbl 26))
  go_wp2_with (first | (refine wpList_store_row rfl 26 _ _ rfl w2.heap.size tbl rfl rfl 26 (pt 0) (heap_alloc_new w2 _) info_tbl (by rw [pt_size, tbl_size]) tbl_cells ?_; rw [setRow_new]; go_frame) | (at_builtin; refine wpList_append_bytes rfl (.tmp 25) (.tmp 26) rfl (w2.heap.size + 1) _ 0 [] rfl Hown.out _ _ _ xs rfl Hra.out (by omega) (by simp) ?_; intro v3 w3 hown' hgr; rw [Nat.zero_add, List.nil_append] at hown'; have Hown3 := Lib.hid hown'; have HB3 := Lib.hid (HBz.out.grown hgr (by simp) (fun k hk => (Hown.out.lt k hk).1)); have Hb3 := Lib.hid (Hb.out.below (by rw [Hsz.out]; exact HB3.out)); have Hs3 := Lib.hid (show w2.heap.size + 1 ≤ w3.heap.size by have := HB3.out.size; rw [Hsz.out] at this; exact this); clear hown' hgr; go_frame) | (at_builtin; refine wpList_append_bytes rfl (.tmp 27) (.tmp 28) rfl (w2.heap.size + 1) _ la xs rfl Hown3.out _ _ _ ys rfl Hb3.out (by omega) Hs3.out ?_; intro v4 w4 hown' hgr; have Hown4 := Lib.hid hown'; have HB4 := Lib.hid (HB3.out.grown hgr Hs3.out (fun k hk => (Hown3.out.lt k hk).1)); clear hown' hgr Hown3 HB3 Hb3; go_frame) | (refine wpList_load_row rfl 26 _ rfl w2.heap.size rfl 26 tbl (0, 0) _ ((HB4.out.block w2.heap.size (by omega)).trans HTz.out) Try.underlying26 rfl info_tbl ?_; go_frame))
  have Ha4 := Lib.hid (Ha.out.below (show Below _ _ w4 by rw [Hsz.out]; exact HB4.out))
  have Hb4 := Lib.hid (Hb.out.below (show Below _ _ w4 by rw [Hsz.out]; exact HB4.out))
  have HT4 := Lib.hid ((HB4.out.block w2.heap.size (by omega)).trans HTz.out)
  obtain ⟨ga, gc, hv4, hr4⟩ := own_row Hown4.out (fun c hc => by rcases List.mem_append.1 hc with h | h; exact hxb.out c h; exact hyb.out c h)
  have hB4 : Below w.heap.size w w4 := bthen hb1 (bthen hb2 (bthen (below_alloc w2 (Obj.cells tbl 26)) (by rw [Hsz.out]; exact HB4.out)))
  have hs4 : w2.heap.size < w4.heap.size := (Array.getElem?_eq_some_iff.1 HT4.out).1
  have Hr4 := Lib.hid hr4
  rw [hv4]
  clear hv4 hr4 Ha Hb Hra Hown HBz Hsz Hown4 HB4 HTz Hs3 hb1 hb2 hz
  refine (raw_any _ _ _ _ _ Ha4.out).mono ?_
  rintro e w5 ⟨rfl, hb5⟩
  have hl0 : ovr 0 xs < 4294967296 := ovr_lt xs (by decide) hxb.out
  have hB5 : Below w.heap.size w w5 := bthen hB4 hb5
  have Ha5 := Lib.hid (Ha4.out.below hb5)
  have Hb5 := Lib.hid (Hb4.out.below hb5)
  have Hr5 := Lib.hid (Hr4.out.below hb5)
  have HT5 := Lib.hid ((hb5.block w2.heap.size hs4).trans HT4.out)
  have hs5 : w2.heap.size < w5.heap.size := (Array.getElem?_eq_some_iff.1 HT5.out).1
  clear Ha4 Hb4 Hr4 HT4 hb5 hB4 hs4
  go_wp2_with fail
  go_loopw [11, 35] (fun t i wr => ∃ k : Nat, k ≤ lb ∧ i = .int .i64 k ∧ t = .int .u32 (ovr (ovr 0 xs) (ys.take k) : Nat) ∧ Below w5.heap.size w5 wr) (fun _ i _ => lb - (intOf i).toNat)
  case atStart => exact ⟨0, Nat.zero_le _, rfl, rfl, Below.refl _ _⟩
  case round =>
    obtain ⟨k, hk, rfl, rfl, hbr⟩ := hrel
    by_cases hlt : k < lb
    · obtain ⟨bb, bo, rfl, hcl⟩ := (Hb5.out.below hbr).cells (by omega)
      have cB := hcl k hlt
      have hC0 := getD_lt hyb.out k
      have hT0 : ovr (ovr 0 xs) (ys.take k) < 4294967296 := ovr_lt _ hl0 (fun c hc => hyb.out c (List.mem_of_mem_take hc))
      have hN : Hid (ovr (ovr 0 xs) (ys.take (k + 1)) = stp (ovr (ovr 0 xs) (ys.take k)) (ys.getD k 0)) := Lib.hid (by
        rw [take_snoc_nat ys k (by rw [hyl.out]; exact hlt), ovr_snoc])
      generalize ovr (ovr 0 xs) (ys.take k) = t at *
      generalize ys.getD k 0 = x at *
      clear hcl
      have HTr := Lib.hid ((hbr.block w2.heap.size hs5).trans HT5.out)
      go_wp2_with (refine wpList_load_row rfl 26 _ rfl w2.heap.size rfl 26 tbl (0, 0) _ HTr.out Try.underlying26 rfl info_tbl ?_; go_frame)
      refine (step_any t x _ hT0 hC0).mono ?_
      rintro e w6 ⟨rfl, hb6⟩
      go_wp2_with fail
      go_roundw
      case rel => exact ⟨k + 1, by omega, by go_num, by rw [hN.out], bthen hbr hb6⟩
      case measure => simp [intOf]; omega
    · have hkl : k = lb := by omega
      have hT : ovr (ovr 0 xs) (ys.take k) = ovr 0 (xs ++ ys) := by rw [List.take_of_length_le (by rw [hyl.out]; omega), ovr_append]
      have HT := Lib.hid hT
      clear hT
      rw [HT.out]
      have Har := Lib.hid (Ha5.out.below hbr)
      have Hrr := Lib.hid (Hr5.out.below hbr)
      have hTr := (hbr.block w2.heap.size hs5).trans HT5.out
      have hrg := tab_range hTr
      have hcl : wr.cell? ⟨w2.heap.size, c, none⟩ = some (.int .u32 (tw c : Nat)) := TabAt.of_heap hTr c hc
      have hAll : Below w.heap.size w wr := bthen hB5 hbr
      have C1 : Hid (∀ w', Calls Try.prog 14 #[.agg tbl, .int .u32 r, .int .u8 c] w' fun e w'' => e = .returned (.int .u32 (stp r c : Nat)) ∧ Below w'.heap.size w' w'') := Lib.hid (fun w' => step_any r c w' hr hc)
      have C2 : Hid (∀ w' g, RowB w' (some ⟨g, 0, none⟩) 1 1 [c] → Calls Try.prog 15 #[.int .u32 r, .slice (some ⟨g, 0, none⟩) 1 1] w' fun e w'' => e = .returned (.int .u32 (stp r c : Nat)) ∧ w' = w'') := Lib.hid (fun w' g h => by
        have h2 := over_any r r rfl _ _ _ _ w' hr h
        rw [stp_one] at h2
        exact h2)
      have C3 : Hid (∀ w', Below wr.heap.size wr w' → Calls Try.prog 13 #[.agg tbl, .slice a la ca] w' fun e w'' => e = .returned (.int .u32 (ovr 0 xs : Nat)) ∧ Below w'.heap.size w' w'') := Lib.hid (fun w' h => raw_any _ _ _ _ w' (Har.out.below h))
      have C4 : Hid (∀ w', Below wr.heap.size wr w' → Calls Try.prog 15 #[.int .u32 0, .slice a la ca] w' fun e w'' => e = .returned (.int .u32 (ovr 0 xs : Nat)) ∧ w' = w'') := Lib.hid (fun w' h => over_any 0 0 rfl _ _ _ _ w' (by decide) (Har.out.below h))
      have C5 : Hid (∀ w', Below wr.heap.size wr w' → Calls Try.prog 16 #[.agg tbl, .slice a la ca] w' fun e w'' => e = .returned (.int .u32 (sm xs : Nat)) ∧ Below w'.heap.size w' w'') := Lib.hid (fun w' h => sum_any _ _ _ _ w' (Har.out.below h))
      have C6 : Hid (∀ w', Below wr.heap.size wr w' → Calls Try.prog 17 #[.slice a la ca] w' fun e w'' => e = .returned (.int .u32 (sm xs : Nat)) ∧ w' = w'') := Lib.hid (fun w' h => rsum_any _ _ _ _ w' (Har.out.below h))
      have C7 : Hid (∀ w', Below wr.heap.size wr w' → Calls Try.prog 13 #[.agg tbl, .slice ga (la + lb) gc] w' fun e w'' => e = .returned (.int .u32 (ovr 0 (xs ++ ys) : Nat)) ∧ Below w'.heap.size w' w'') := Lib.hid (fun w' h => raw_any _ _ _ _ w' (Hrr.out.below h))
      have C8 : Hid (∀ w' g, RowB w' (some ⟨g, 0, none⟩) 1 1 [c] → Calls Try.prog 15 #[.int .u32 0, .slice (some ⟨g, 0, none⟩) 1 1] w' fun e w'' => e = .returned (.int .u32 (tw c : Nat)) ∧ w' = w'') := Lib.hid (fun w' g h => by
        have h2 := over_any 0 0 rfl _ _ _ _ w' (by decide) h
        rw [stp_one, stp_zero] at h2
        exact h2)
      clear HT hl0
      generalize ovr 0 (xs ++ ys) = t at *
      generalize ovr 0 xs = r3 at *
      generalize sm xs = r5 at *
      generalize tw c = r8 at *
      generalize stp r c = r1 at *
      have hu := Try.underlying26
      have hi := info_tblL
      have hLd : ∀ w' : World, w'.rangeAt w2.heap.size 0 tblL → ldAt Try.prog 26 (.pointer (some ⟨w2.heap.size, 0, none⟩)) w' = .ok (.agg tbl) w' := fun w' h => ld_tbl hu rfl hi w' h
      have hix := idx_tab w2.heap.size c hc
      clear hu hi Har Hrr Ha5 Hb5 Hr5 HT5 hs5 hTr hbr hB5
      have hf1 := enter_raw
      have hf2 := enter_sum
      have hf3 := enter_step
      have hf4 := enter_over
      have hf5 := enter_rsum
      have hbs := bs_run c
      have Hrow0 : Hid (RowB ((wr.alloc (Obj.cells #[.int .u8 (c : Nat)] 5)).drew) (some ⟨wr.heap.size, 0, none⟩) 1 1 [c]) := Lib.hid ((row_one _ _ c _ hc (heap_alloc_new wr _)).below ((Below.refl _ _).drew))
      have hag := agg_u32
      go_wp2_with fail
      generalize Try.prog = P at *
      go_region_held3 (fun w' => Below wr.heap.size wr w' ∧ w'.rangeAt w2.heap.size 0 tblL ∧ w'.cell? ⟨w2.heap.size, c, none⟩ = some (.int .u32 (r8 : Nat))) (first | exact ⟨(Below.refl _ _).drew, fun j v hv => hrg j v hv, hcl⟩ | (go_split_ands; exact ⟨bthen (by assumption) hbn, range_keep (by assumption) hbn, cell_keep (by assumption) hbn⟩) | (go_split_ands; exact ⟨by assumption, by assumption, by assumption⟩) | (go_split_ands; exact ⟨Below.alloc (by assumption) (Below.size (by assumption)) _, range_keep (by assumption) (below_alloc _ _), cell_keep (by assumption) (below_alloc _ _)⟩))
        (first
          | ((go_split_ands); (go_at_call 14); (refine (C1.out _).mono ?_); (rintro e wn ⟨rfl, hbn⟩))
          | ((go_split_ands); (go_at_call 13); (refine (C3.out _ (by assumption)).mono ?_); (rintro e wn ⟨rfl, hbn⟩))
          | ((go_split_ands); (go_at_call 13); (refine (C7.out _ (by assumption)).mono ?_); (rintro e wn ⟨rfl, hbn⟩))
          | ((go_split_ands); (go_at_call 16); (refine (C5.out _ (by assumption)).mono ?_); (rintro e wn ⟨rfl, hbn⟩))
          | ((go_split_ands); (go_at_call 17); (refine (C6.out _ (by assumption)).mono ?_); (rintro e wm ⟨rfl, rfl⟩))
          | ((go_split_ands); (go_at_call 15); (refine (C4.out _ (by assumption)).mono ?_); (rintro e wm ⟨rfl, rfl⟩))
          | ((go_split_ands); (go_at_call 15); (refine (C2.out _ _ (row_one _ _ c _ hc (heap_alloc_new _ _))).mono ?_); (rintro e wm ⟨rfl, rfl⟩))
          | ((go_split_ands); (go_at_call 15); (refine (C2.out _ _ (Hrow0.out.below hbn)).mono ?_); (rintro e wm ⟨rfl, rfl⟩))
          | ((go_split_ands); (go_at_call 15); (refine (C8.out _ _ (row_one _ _ c _ hc (heap_alloc_new _ _))).mono ?_); (rintro e wm ⟨rfl, rfl⟩)))
      all_goals (go_split_ands; go_wp2; go_ret; exact ⟨rfl, bthen hAll (by assumption)⟩)

theorem walkCrcSums (a : Option Addr) (la ca : Nat) (xs : List Nat) (b : Option Addr) (lb cb : Nat) (ys : List Nat) (r c : Int) (w : World) (ha : RowB w a la ca xs) (hb : RowB w b lb cb ys) (hr : (Lit.int .u32 r).wf = true) (hc : (Lit.int .u8 c).wf = true) :
    Calls Try.prog 3 #[.slice a la ca, .slice b lb cb, .int .u32 r, .int .u8 c] w fun e w' => e = .returned (.bool true) ∧ Below w.heap.size w w' := by
  have b1 := bounds_u32 hr
  have b2 := bounds_u8 hc
  by_cases ho : 300 < la ∨ 300 < lb
  · have m1 := ha.max
    have m2 := ha.le
    have m3 := hb.max
    have m4 := hb.le
    unfold maxLen at m1 m3
    exact walkSums_out a la ca b lb cb r c w (by omega) (by omega) ho
  · obtain ⟨x, rfl⟩ := Int.eq_ofNat_of_zero_le (a := r) (by omega)
    obtain ⟨y, rfl⟩ := Int.eq_ofNat_of_zero_le (a := c) (by omega)
    exact walkSums_in a la ca xs b lb cb ys x y w ha hb (by omega) (by omega) (by omega) (by omega)

end Go.Proofs.Ytnfiklmlmobchaa
