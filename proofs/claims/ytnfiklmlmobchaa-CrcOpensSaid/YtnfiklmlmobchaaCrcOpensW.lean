/-
  The walk of CrcOpens.
-/
import Derived.Test.YtnfiklmlmobchaaCrcH
namespace Go.Proofs.Ytnfiklmlmobchaa
open Go.RowKit CrcM
set_option linter.unusedVariables false
set_option linter.unnecessarySimpa false
set_option linter.unusedSimpArgs false

theorem num_four (ys : List Nat) (n : Nat) (h : ys.length = n + 4) : num (ys.drop n) = ys.getD n 0 + 256 * ys.getD (n + 1) 0 + 65536 * ys.getD (n + 2) 0 + 16777216 * ys.getD (n + 3) 0 := by
  have e : ys.drop n = [ys.getD n 0, ys.getD (n + 1) 0, ys.getD (n + 2) 0, ys.getD (n + 3) 0] := by
    apply List.ext_getElem
    · simp; omega
    · intro i h1 h2
      simp at h2
      match i, h2 with
      | 0, _ => simp [List.getD, h]
      | 1, _ => simp [List.getD, h]
      | 2, _ => simp [List.getD, h]
      | 3, _ => simp [List.getD, h]
  rw [e]; simp only [num]; omega

theorem RowB.drewN {w : World} {a : Option Addr} {len cap : Nat} {bs : List Nat} (h : RowB w a len cap bs) (n : Nat) : RowB (w.drewN n) a len cap bs := h.below (below_drewN (Below.refl _ _) n)

set_option maxRecDepth 100000 in
set_option maxHeartbeats 1000000 in
theorem walkOpens_out (a : Option Addr) (la ca : Nat) (b : Option Addr) (lb cb : Nat) (w : World) (ma : la ≤ 9223372036854775807) (mb : lb ≤ 9223372036854775807) (ho : 300 < la ∨ 300 < lb) :
    Calls Try.prog 4 #[.slice a la ca, .slice b lb cb] w fun e w' => e = .returned (.bool true) ∧ Below w.heap.size w w' := by
  by_cases h0 : 300 < la
  · have d0 : decide ((300 : Int) < (la : Int)) = true := decide_eq_true (by omega)
    go_enter Try.func4, Try.ntmps4
    go_wp2_with fail
    refine (anchor_any _).mono ?_
    rintro e w1 ⟨rfl, hb1⟩
    go_wp2_with fail
    go_ret
    exact ⟨rfl, hb1⟩
  · have d0 : decide ((300 : Int) < (la : Int)) = false := decide_eq_false (by omega)
    have d1 : decide ((300 : Int) < (lb : Int)) = true := decide_eq_true (by omega)
    go_enter Try.func4, Try.ntmps4
    go_wp2_with fail
    refine (anchor_any _).mono ?_
    rintro e w1 ⟨rfl, hb1⟩
    go_wp2_with fail
    go_ret
    exact ⟨rfl, hb1⟩

set_option maxRecDepth 100000 in
set_option maxHeartbeats 2000000 in
theorem walkOpens_short (a : Option Addr) (la ca : Nat) (xs : List Nat) (b : Option Addr) (lb cb : Nat) (ys : List Nat) (w : World) (ha : RowB w a la ca xs) (hb : RowB w b lb cb ys) (h1 : la ≤ 300) (h2 : lb ≤ 300) (h4 : lb < 4) :
    Calls Try.prog 4 #[.slice a la ca, .slice b lb cb] w fun e w' => e = .returned (.bool true) ∧ Below w.heap.size w w' := by
  have hz := zero_tab
  have hxl := Lib.hid ha.length
  have hxb := Lib.hid ha.lt
  go_enter Try.func4, Try.ntmps4
  go_wp2_with fail
  refine (anchor_any _).mono ?_
  rintro e w1 ⟨rfl, hb1⟩
  go_wp2_with fail
  refine (new_any _).mono ?_
  rintro e w2 ⟨rfl, hb2⟩
  have Ha := Lib.hid (((ha.below hb1).below hb2).below (below_alloc w2 (Obj.cells tbl 26)))
  have Hb := Lib.hid (((hb.below hb1).below hb2).below (below_alloc w2 (Obj.cells tbl 26)))
  clear ha hb
  go_wp2_with (first | (refine wpList_store_row rfl 26 _ _ rfl w2.heap.size tbl rfl rfl 26 (pt 0) (heap_alloc_new w2 _) info_tbl (by rw [pt_size, tbl_size]) tbl_cells ?_; rw [setRow_new]; go_frame) | (refine wpList_load_row rfl 26 _ rfl w2.heap.size rfl 26 tbl (0, 0) _ (heap_alloc_new w2 _) Try.underlying26 rfl info_tbl ?_; go_frame))
  clear hz
  refine (seal_any _ _ _ xs _ Ha.out (by omega)).mono ?_
  rintro e w3 ⟨g1, rfl, hg1, hh1, hb3⟩
  have HT3 := Lib.hid ((hb3.block w2.heap.size (by simp)).trans (heap_alloc_new w2 (Obj.cells tbl 26)))
  have Ha3 := Lib.hid (Ha.out.below hb3)
  have Hb3 := Lib.hid (Hb.out.below hb3)
  have Hh1 := Lib.hid hh1
  have hsz3 : w2.heap.size + 1 ≤ w3.heap.size := by have := hb3.size; simpa using this
  have hg1' : w2.heap.size + 1 ≤ g1 := by simpa using hg1
  clear Ha Hb hh1 hg1
  go_wp2_with (refine wpList_load_row rfl 26 _ rfl w2.heap.size rfl 26 tbl (0, 0) _ HT3.out Try.underlying26 rfl info_tbl ?_; go_frame)
  refine (open_sealed _ _ xs _ _ Hh1.out hxl.out hxb.out (by omega)).mono ?_
  rintro e w4 ⟨gx, rfl, hgx, hhx, hb4⟩
  have HT4 := Lib.hid ((hb4.block w2.heap.size (by omega)).trans HT3.out)
  have Ha4 := Lib.hid (Ha3.out.below hb4)
  have Hb4 := Lib.hid (Hb3.out.below hb4)
  have hg1s : g1 < w3.heap.size := (Array.getElem?_eq_some_iff.1 Hh1.out).1
  have Hh14 := Lib.hid ((hb4.block g1 hg1s).trans Hh1.out)
  have hrx := row_bA hhx hxb.out (by rw [hxl.out]; unfold maxLen; omega)
  have hrs := row_bA Hh14.out (sealed_lt hxb.out) (by rw [sealed_length, hxl.out]; unfold maxLen; omega)
  rw [hxl.out] at hrx
  rw [sealed_length, hxl.out] at hrs
  have hrs' := hrs.to la (by omega)
  rw [sealed_take xs la hxl.out] at hrs'
  have C1 : Hid (∀ w', Below w4.heap.size w4 w' → Calls Try.prog 20 #[.slice (some ⟨gx, 0, none⟩) la la, .slice a la ca] w' (Drawn true w')) := Lib.hid (fun w' hw => by
    have h := same_any _ _ _ _ _ _ xs xs w' (hrx.below hw) (Ha4.out.below hw)
    rw [decide_eq_true rfl] at h
    exact h)
  have C2 : Hid (∀ w', Below w4.heap.size w4 w' → Calls Try.prog 20 #[.slice (some ⟨g1, 0, none⟩) la (la + 4), .slice a la ca] w' (Drawn true w')) := Lib.hid (fun w' hw => by
    have h := same_any _ _ _ _ _ _ xs xs w' (hrs'.below hw) (Ha4.out.below hw)
    rw [decide_eq_true rfl] at h
    exact h)
  have s1 := fun w => run_slice_to w (some ⟨g1, 0, none⟩) (la + 4) (la + 4) la (by omega) (by unfold maxLen; omega)
  clear hrx hrs hrs' Ha3 Hb3 HT3 Hh1 Hh14 hhx
  go_wp2_with fail
  refine (C1.out w4 (Below.refl _ _)).mono ?_
  rintro e w5 ⟨rfl, q5, hw5⟩
  have hb5 : Below w4.heap.size w4 w5 := by rw [hw5]; exact below_drewN (Below.refl _ _) _
  clear hw5 C1
  go_wp2_with fail
  refine (C2.out w5 hb5).mono ?_
  rintro e w6 ⟨rfl, q6, hw6⟩
  have hb6 : Below w4.heap.size w4 w6 := by rw [hw6]; exact below_drewN hb5 _
  clear hw6 hb5 s1 C2
  have Hb6 := Lib.hid (Hb4.out.below hb6)
  have HT6 := Lib.hid ((hb6.block w2.heap.size (by have := hb4.size; omega)).trans HT4.out)
  have hB6 : Below w.heap.size w w6 := bthen hb1 (bthen hb2 (bthen (below_alloc w2 (Obj.cells tbl 26)) (bthen hb3 (bthen hb4 hb6))))
  clear Hb4 HT4 Ha4 hb1 hb2 hb3 hb4 hb6
  go_wp2_with (refine wpList_load_row rfl 26 _ rfl w2.heap.size rfl 26 tbl (0, 0) _ HT6.out Try.underlying26 rfl info_tbl ?_; go_frame)
  refine (open_short _ _ _ _ _ Hb6.out h4).mono ?_
  rintro e w7 ⟨rfl, hb7⟩
  go_wp2_with fail
  go_ret
  exact ⟨rfl, bthen hB6 hb7⟩

set_option maxRecDepth 100000 in
set_option maxHeartbeats 2000000 in
theorem walkOpens_bad (a : Option Addr) (la ca : Nat) (xs : List Nat) (b : Option Addr) (lb cb : Nat) (ys : List Nat) (w : World) (ha : RowB w a la ca xs) (hb : RowB w b lb cb ys) (h1 : la ≤ 300) (h2 : lb ≤ 300) (h4 : 4 ≤ lb) (hq : sm (ys.take (lb - 4)) ≠ num (ys.drop (lb - 4))) :
    Calls Try.prog 4 #[.slice a la ca, .slice b lb cb] w fun e w' => e = .returned (.bool true) ∧ Below w.heap.size w w' := by
  have hz := zero_tab
  have hxl := Lib.hid ha.length
  have hxb := Lib.hid ha.lt
  go_enter Try.func4, Try.ntmps4
  go_wp2_with fail
  refine (anchor_any _).mono ?_
  rintro e w1 ⟨rfl, hb1⟩
  go_wp2_with fail
  refine (new_any _).mono ?_
  rintro e w2 ⟨rfl, hb2⟩
  have Ha := Lib.hid (((ha.below hb1).below hb2).below (below_alloc w2 (Obj.cells tbl 26)))
  have Hb := Lib.hid (((hb.below hb1).below hb2).below (below_alloc w2 (Obj.cells tbl 26)))
  clear ha hb
  go_wp2_with (first | (refine wpList_store_row rfl 26 _ _ rfl w2.heap.size tbl rfl rfl 26 (pt 0) (heap_alloc_new w2 _) info_tbl (by rw [pt_size, tbl_size]) tbl_cells ?_; rw [setRow_new]; go_frame) | (refine wpList_load_row rfl 26 _ rfl w2.heap.size rfl 26 tbl (0, 0) _ (heap_alloc_new w2 _) Try.underlying26 rfl info_tbl ?_; go_frame))
  clear hz
  refine (seal_any _ _ _ xs _ Ha.out (by omega)).mono ?_
  rintro e w3 ⟨g1, rfl, hg1, hh1, hb3⟩
  have HT3 := Lib.hid ((hb3.block w2.heap.size (by simp)).trans (heap_alloc_new w2 (Obj.cells tbl 26)))
  have Ha3 := Lib.hid (Ha.out.below hb3)
  have Hb3 := Lib.hid (Hb.out.below hb3)
  have Hh1 := Lib.hid hh1
  have hsz3 : w2.heap.size + 1 ≤ w3.heap.size := by have := hb3.size; simpa using this
  have hg1' : w2.heap.size + 1 ≤ g1 := by simpa using hg1
  clear Ha Hb hh1 hg1
  go_wp2_with (refine wpList_load_row rfl 26 _ rfl w2.heap.size rfl 26 tbl (0, 0) _ HT3.out Try.underlying26 rfl info_tbl ?_; go_frame)
  refine (open_sealed _ _ xs _ _ Hh1.out hxl.out hxb.out (by omega)).mono ?_
  rintro e w4 ⟨gx, rfl, hgx, hhx, hb4⟩
  have HT4 := Lib.hid ((hb4.block w2.heap.size (by omega)).trans HT3.out)
  have Ha4 := Lib.hid (Ha3.out.below hb4)
  have Hb4 := Lib.hid (Hb3.out.below hb4)
  have hg1s : g1 < w3.heap.size := (Array.getElem?_eq_some_iff.1 Hh1.out).1
  have Hh14 := Lib.hid ((hb4.block g1 hg1s).trans Hh1.out)
  have hrx := row_bA hhx hxb.out (by rw [hxl.out]; unfold maxLen; omega)
  have hrs := row_bA Hh14.out (sealed_lt hxb.out) (by rw [sealed_length, hxl.out]; unfold maxLen; omega)
  rw [hxl.out] at hrx
  rw [sealed_length, hxl.out] at hrs
  have hrs' := hrs.to la (by omega)
  rw [sealed_take xs la hxl.out] at hrs'
  have C1 : Hid (∀ w', Below w4.heap.size w4 w' → Calls Try.prog 20 #[.slice (some ⟨gx, 0, none⟩) la la, .slice a la ca] w' (Drawn true w')) := Lib.hid (fun w' hw => by
    have h := same_any _ _ _ _ _ _ xs xs w' (hrx.below hw) (Ha4.out.below hw)
    rw [decide_eq_true rfl] at h
    exact h)
  have C2 : Hid (∀ w', Below w4.heap.size w4 w' → Calls Try.prog 20 #[.slice (some ⟨g1, 0, none⟩) la (la + 4), .slice a la ca] w' (Drawn true w')) := Lib.hid (fun w' hw => by
    have h := same_any _ _ _ _ _ _ xs xs w' (hrs'.below hw) (Ha4.out.below hw)
    rw [decide_eq_true rfl] at h
    exact h)
  have s1 := fun w => run_slice_to w (some ⟨g1, 0, none⟩) (la + 4) (la + 4) la (by omega) (by unfold maxLen; omega)
  clear hrx hrs hrs' Ha3 Hb3 HT3 Hh1 Hh14 hhx
  go_wp2_with fail
  refine (C1.out w4 (Below.refl _ _)).mono ?_
  rintro e w5 ⟨rfl, q5, hw5⟩
  have hb5 : Below w4.heap.size w4 w5 := by rw [hw5]; exact below_drewN (Below.refl _ _) _
  clear hw5 C1
  go_wp2_with fail
  refine (C2.out w5 hb5).mono ?_
  rintro e w6 ⟨rfl, q6, hw6⟩
  have hb6 : Below w4.heap.size w4 w6 := by rw [hw6]; exact below_drewN hb5 _
  clear hw6 hb5 s1 C2
  have Hb6 := Lib.hid (Hb4.out.below hb6)
  have HT6 := Lib.hid ((hb6.block w2.heap.size (by have := hb4.size; omega)).trans HT4.out)
  have hB6 : Below w.heap.size w w6 := bthen hb1 (bthen hb2 (bthen (below_alloc w2 (Obj.cells tbl 26)) (bthen hb3 (bthen hb4 hb6))))
  clear Hb4 HT4 Ha4 hb1 hb2 hb3 hb4 hb6
  go_wp2_with (refine wpList_load_row rfl 26 _ rfl w2.heap.size rfl 26 tbl (0, 0) _ HT6.out Try.underlying26 rfl info_tbl ?_; go_frame)
  obtain ⟨n, rfl⟩ : ∃ n, lb = n + 4 := ⟨lb - 4, by omega⟩
  rw [Nat.add_sub_cancel] at hq
  refine (open_bad _ _ _ _ _ Hb6.out h4 (by rw [Nat.add_sub_cancel]; exact hq)).mono ?_
  rintro e w7 ⟨rfl, hb7⟩
  have hr7 := Hb6.out.below hb7
  have hm7 := hr7.max
  have hle7 := hr7.le
  have s2 := fun w => run_slice_to w b (n + 4) cb n (by omega) hm7
  have hcb : cb ≤ 9223372036854775807 := by unfold maxLen at hm7; omega
  have C3 : Hid (∀ w', Below w7.heap.size w7 w' → Calls Try.prog 17 #[.slice b n cb] w' fun e w'' => e = .returned (.int .u32 (sm (ys.take n) : Nat)) ∧ w' = w'') := Lib.hid (fun w' hw => rsum_any _ _ _ _ w' ((hr7.to n (by omega)).below hw))
  obtain ⟨bb, off, rfl, hc7⟩ := hr7.cells (by omega)
  have c0 := hc7 n (by omega)
  have c1 := hc7 (n + 1) (by omega)
  have c2 := hc7 (n + 2) (by omega)
  have c3 := hc7 (n + 3) (by omega)
  have l0 := getD_lt hr7.lt n
  have l1 := getD_lt hr7.lt (n + 1)
  have l2 := getD_lt hr7.lt (n + 2)
  have l3 := getD_lt hr7.lt (n + 3)
  have hs := num_four ys n hr7.length
  generalize ys.getD n 0 = x0 at *
  generalize ys.getD (n + 1) 0 = x1 at *
  generalize ys.getD (n + 2) 0 = x2 at *
  generalize ys.getD (n + 3) 0 = x3 at *
  clear hr7 hc7 Hb6
  have hne : ((x0 : Int) + 256 * (x1 : Int) + 65536 * (x2 : Int) + 16777216 * (x3 : Int) != ((sm (ys.take n) : Nat) : Int)) = true := by
    rw [bne_iff_ne]; intro e; apply hq; rw [hs]; omega
  have Hne := Lib.hid hne
  clear hne hq hs
  go_wp2_with fail
  go_quiet (fail)
  go_wp2_with fail
  refine (C3.out _ (below_drewN (Below.refl _ _) _)).mono ?_
  rintro e w8 ⟨rfl, rfl⟩
  have hne := Hne.out
  generalize sm (ys.take n) = sy at *
  go_wp2_with fail
  go_ret
  exact ⟨rfl, bthen hB6 (bthen hb7 (below_drewN (Below.refl _ _) _))⟩

set_option maxRecDepth 100000 in
set_option maxHeartbeats 2000000 in
theorem walkOpens_ok (a : Option Addr) (la ca : Nat) (xs : List Nat) (b : Option Addr) (lb cb : Nat) (ys : List Nat) (w : World) (ha : RowB w a la ca xs) (hb : RowB w b lb cb ys) (h1 : la ≤ 300) (h2 : lb ≤ 300) (h4 : 4 ≤ lb) (hq : sm (ys.take (lb - 4)) = num (ys.drop (lb - 4))) :
    Calls Try.prog 4 #[.slice a la ca, .slice b lb cb] w fun e w' => e = .returned (.bool true) ∧ Below w.heap.size w w' := by
  have hz := zero_tab
  have hxl := Lib.hid ha.length
  have hxb := Lib.hid ha.lt
  go_enter Try.func4, Try.ntmps4
  go_wp2_with fail
  refine (anchor_any _).mono ?_
  rintro e w1 ⟨rfl, hb1⟩
  go_wp2_with fail
  refine (new_any _).mono ?_
  rintro e w2 ⟨rfl, hb2⟩
  have Ha := Lib.hid (((ha.below hb1).below hb2).below (below_alloc w2 (Obj.cells tbl 26)))
  have Hb := Lib.hid (((hb.below hb1).below hb2).below (below_alloc w2 (Obj.cells tbl 26)))
  clear ha hb
  go_wp2_with (first | (refine wpList_store_row rfl 26 _ _ rfl w2.heap.size tbl rfl rfl 26 (pt 0) (heap_alloc_new w2 _) info_tbl (by rw [pt_size, tbl_size]) tbl_cells ?_; rw [setRow_new]; go_frame) | (refine wpList_load_row rfl 26 _ rfl w2.heap.size rfl 26 tbl (0, 0) _ (heap_alloc_new w2 _) Try.underlying26 rfl info_tbl ?_; go_frame))
  clear hz
  refine (seal_any _ _ _ xs _ Ha.out (by omega)).mono ?_
  rintro e w3 ⟨g1, rfl, hg1, hh1, hb3⟩
  have HT3 := Lib.hid ((hb3.block w2.heap.size (by simp)).trans (heap_alloc_new w2 (Obj.cells tbl 26)))
  have Ha3 := Lib.hid (Ha.out.below hb3)
  have Hb3 := Lib.hid (Hb.out.below hb3)
  have Hh1 := Lib.hid hh1
  have hsz3 : w2.heap.size + 1 ≤ w3.heap.size := by have := hb3.size; simpa using this
  have hg1' : w2.heap.size + 1 ≤ g1 := by simpa using hg1
  clear Ha Hb hh1 hg1
  go_wp2_with (refine wpList_load_row rfl 26 _ rfl w2.heap.size rfl 26 tbl (0, 0) _ HT3.out Try.underlying26 rfl info_tbl ?_; go_frame)
  refine (open_sealed _ _ xs _ _ Hh1.out hxl.out hxb.out (by omega)).mono ?_
  rintro e w4 ⟨gx, rfl, hgx, hhx, hb4⟩
  have HT4 := Lib.hid ((hb4.block w2.heap.size (by omega)).trans HT3.out)
  have Ha4 := Lib.hid (Ha3.out.below hb4)
  have Hb4 := Lib.hid (Hb3.out.below hb4)
  have hg1s : g1 < w3.heap.size := (Array.getElem?_eq_some_iff.1 Hh1.out).1
  have Hh14 := Lib.hid ((hb4.block g1 hg1s).trans Hh1.out)
  have hrx := row_bA hhx hxb.out (by rw [hxl.out]; unfold maxLen; omega)
  have hrs := row_bA Hh14.out (sealed_lt hxb.out) (by rw [sealed_length, hxl.out]; unfold maxLen; omega)
  rw [hxl.out] at hrx
  rw [sealed_length, hxl.out] at hrs
  have hrs' := hrs.to la (by omega)
  rw [sealed_take xs la hxl.out] at hrs'
  have C1 : Hid (∀ w', Below w4.heap.size w4 w' → Calls Try.prog 20 #[.slice (some ⟨gx, 0, none⟩) la la, .slice a la ca] w' (Drawn true w')) := Lib.hid (fun w' hw => by
    have h := same_any _ _ _ _ _ _ xs xs w' (hrx.below hw) (Ha4.out.below hw)
    rw [decide_eq_true rfl] at h
    exact h)
  have C2 : Hid (∀ w', Below w4.heap.size w4 w' → Calls Try.prog 20 #[.slice (some ⟨g1, 0, none⟩) la (la + 4), .slice a la ca] w' (Drawn true w')) := Lib.hid (fun w' hw => by
    have h := same_any _ _ _ _ _ _ xs xs w' (hrs'.below hw) (Ha4.out.below hw)
    rw [decide_eq_true rfl] at h
    exact h)
  have s1 := fun w => run_slice_to w (some ⟨g1, 0, none⟩) (la + 4) (la + 4) la (by omega) (by unfold maxLen; omega)
  clear hrx hrs hrs' Ha3 Hb3 HT3 Hh1 Hh14 hhx
  go_wp2_with fail
  refine (C1.out w4 (Below.refl _ _)).mono ?_
  rintro e w5 ⟨rfl, q5, hw5⟩
  have hb5 : Below w4.heap.size w4 w5 := by rw [hw5]; exact below_drewN (Below.refl _ _) _
  clear hw5 C1
  go_wp2_with fail
  refine (C2.out w5 hb5).mono ?_
  rintro e w6 ⟨rfl, q6, hw6⟩
  have hb6 : Below w4.heap.size w4 w6 := by rw [hw6]; exact below_drewN hb5 _
  clear hw6 hb5 s1 C2
  have Hb6 := Lib.hid (Hb4.out.below hb6)
  have HT6 := Lib.hid ((hb6.block w2.heap.size (by have := hb4.size; omega)).trans HT4.out)
  have hB6 : Below w.heap.size w w6 := bthen hb1 (bthen hb2 (bthen (below_alloc w2 (Obj.cells tbl 26)) (bthen hb3 (bthen hb4 hb6))))
  clear Hb4 HT4 Ha4 hb1 hb2 hb3 hb4 hb6
  go_wp2_with (refine wpList_load_row rfl 26 _ rfl w2.heap.size rfl 26 tbl (0, 0) _ HT6.out Try.underlying26 rfl info_tbl ?_; go_frame)
  obtain ⟨n, rfl⟩ : ∃ n, lb = n + 4 := ⟨lb - 4, by omega⟩
  rw [Nat.add_sub_cancel] at hq
  refine (open_ok _ _ _ _ _ Hb6.out h4 (by rw [Nat.add_sub_cancel]; exact hq) (by omega)).mono ?_
  rw [Nat.add_sub_cancel]
  rintro e w7 ⟨gy, rfl, hgy, hhy, hb7⟩
  have hyl := Hb6.out.length
  have hyt : (ys.take n).length = n := by simp; omega
  have hry := row_bA hhy (fun c hc => Hb6.out.lt c (List.mem_of_mem_take hc)) (by rw [hyt]; unfold maxLen; omega)
  rw [hyt] at hry
  have C4 : Hid (∀ w', Below w7.heap.size w7 w' → Calls Try.prog 20 #[.slice (some ⟨gy, 0, none⟩) n n, .slice b n cb] w' (Drawn true w')) := Lib.hid (fun w' hw => by
    have h := same_any _ _ _ _ _ _ _ _ w' (hry.below hw) (((Hb6.out.below hb7).to n (by omega)).below hw)
    rw [decide_eq_true rfl] at h
    exact h)
  clear hry hyt hyl hhy
  have hr7 := Hb6.out.below hb7
  have hm7 := hr7.max
  have hle7 := hr7.le
  have s2 := fun w => run_slice_to w b (n + 4) cb n (by omega) hm7
  have hcb : cb ≤ 9223372036854775807 := by unfold maxLen at hm7; omega
  have C3 : Hid (∀ w', Below w7.heap.size w7 w' → Calls Try.prog 17 #[.slice b n cb] w' fun e w'' => e = .returned (.int .u32 (sm (ys.take n) : Nat)) ∧ w' = w'') := Lib.hid (fun w' hw => rsum_any _ _ _ _ w' ((hr7.to n (by omega)).below hw))
  obtain ⟨bb, off, rfl, hc7⟩ := hr7.cells (by omega)
  have c0 := hc7 n (by omega)
  have c1 := hc7 (n + 1) (by omega)
  have c2 := hc7 (n + 2) (by omega)
  have c3 := hc7 (n + 3) (by omega)
  have l0 := getD_lt hr7.lt n
  have l1 := getD_lt hr7.lt (n + 1)
  have l2 := getD_lt hr7.lt (n + 2)
  have l3 := getD_lt hr7.lt (n + 3)
  have hs := num_four ys n hr7.length
  generalize ys.getD n 0 = x0 at *
  generalize ys.getD (n + 1) 0 = x1 at *
  generalize ys.getD (n + 2) 0 = x2 at *
  generalize ys.getD (n + 3) 0 = x3 at *
  clear hr7 hc7 Hb6
  have hne : ((x0 : Int) + 256 * (x1 : Int) + 65536 * (x2 : Int) + 16777216 * (x3 : Int) != ((sm (ys.take n) : Nat) : Int)) = false := by
    rw [bne_eq_false_iff_eq, hq, hs]; omega
  have Hne := Lib.hid hne
  clear hne hq hs
  go_wp2_with fail
  go_quiet (fail)
  go_wp2_with fail
  refine (C3.out _ (below_drewN (Below.refl _ _) _)).mono ?_
  rintro e w8 ⟨rfl, rfl⟩
  have hne := Hne.out
  generalize sm (ys.take n) = sy at *
  go_wp2_with fail
  refine (C4.out _ (below_drewN (Below.refl _ _) _)).mono ?_
  rintro e w9 ⟨rfl, q9, rfl⟩
  go_wp2_with fail
  go_ret
  exact ⟨rfl, bthen hB6 (bthen hb7 (below_drewN (Below.refl _ _) _))⟩

theorem walkCrcOpens (a : Option Addr) (la ca : Nat) (xs : List Nat) (b : Option Addr) (lb cb : Nat) (ys : List Nat) (w : World) (ha : RowB w a la ca xs) (hb : RowB w b lb cb ys) :
    Calls Try.prog 4 #[.slice a la ca, .slice b lb cb] w fun e w' => e = .returned (.bool true) ∧ Below w.heap.size w w' := by
  by_cases ho : 300 < la ∨ 300 < lb
  · have m1 := ha.max
    have m2 := ha.le
    have m3 := hb.max
    have m4 := hb.le
    unfold maxLen at m1 m3
    exact walkOpens_out a la ca b lb cb w (by omega) (by omega) ho
  · by_cases h4 : lb < 4
    · exact walkOpens_short a la ca xs b lb cb ys w ha hb (by omega) (by omega) h4
    · by_cases hq : sm (ys.take (lb - 4)) = num (ys.drop (lb - 4))
      · exact walkOpens_ok a la ca xs b lb cb ys w ha hb (by omega) (by omega) (by omega) hq
      · exact walkOpens_bad a la ca xs b lb cb ys w ha hb (by omega) (by omega) (by omega) hq

end Go.Proofs.Ytnfiklmlmobchaa
