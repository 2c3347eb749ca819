/-
  The walk of CrcParts.
-/
import Derived.Test.YtnfiklmlmobchaaCrcE
namespace Go.Proofs.Ytnfiklmlmobchaa
open Go.RowKit CrcM
set_option linter.unusedVariables false
set_option linter.unnecessarySimpa false
set_option linter.unusedSimpArgs false

set_option maxRecDepth 100000 in
set_option maxHeartbeats 1000000 in
theorem walkParts_out (a : Option Addr) (len cap : Nat) (bs : List Nat) (bit : Int) (w : World) (hr : RowB w a len cap bs) (hb : -9223372036854775808 ≤ bit ∧ bit ≤ 9223372036854775807)
    (ho : len = 0 ∨ 300 < len ∨ bit < 0 ∨ 8 * (len : Int) ≤ bit) :
    Calls Try.prog 8 #[.slice a len cap, .int .i64 bit] w fun e w' => e = .returned (.bool true) ∧ Below w.heap.size w w' := by
  have hm := hr.max
  have hle := hr.le
  unfold maxLen at hm
  clear hr
  by_cases h0 : len = 0
  · subst h0
    go_enter Try.func8, Try.ntmps8
    go_wp2_with fail
    refine (anchor_any _).mono ?_
    rintro e w1 ⟨rfl, hb1⟩
    go_wp2_with fail
    go_ret
    exact ⟨rfl, hb1⟩
  · have c0 : ((len : Int) == 0) = false := by rw [beq_eq_false_iff_ne]; omega
    by_cases h1 : 300 < len
    · have c1 : (300 : Int) < (len : Int) := by omega
      go_enter Try.func8, Try.ntmps8
      go_wp2_with fail
      refine (anchor_any _).mono ?_
      rintro e w1 ⟨rfl, hb1⟩
      go_wp2_with fail
      go_ret
      exact ⟨rfl, hb1⟩
    · have c1 : ¬ (300 : Int) < (len : Int) := by omega
      by_cases h2 : bit < 0
      · go_enter Try.func8, Try.ntmps8
        go_wp2_with fail
        refine (anchor_any _).mono ?_
        rintro e w1 ⟨rfl, hb1⟩
        go_wp2_with fail
        go_ret
        exact ⟨rfl, hb1⟩
      · have h3 : 8 * (len : Int) ≤ bit := by omega
        go_enter Try.func8, Try.ntmps8
        go_wp2_with fail
        refine (anchor_any _).mono ?_
        rintro e w1 ⟨rfl, hb1⟩
        go_wp2_with fail
        go_ret
        exact ⟨rfl, hb1⟩

attribute [local go_sem ↓] execOp_ldT

theorem bit_val (x k : Nat) (hx : x < 256) (hk : k < 8) : bits BinOp.xor IntKind.u8 (x : Int) (2 ^ k % 256) = ((x ^^^ 2 ^ k : Nat) : Int) := by
  have hp : 2 ^ k < 256 := Nat.lt_of_lt_of_le (Nat.pow_lt_pow_right (by decide) hk) (by decide)
  have e := u8_xor_nat x (2 ^ k) hx hp
  rw [show ((2 : Int) ^ k % 256) = ((2 ^ k : Nat) : Int) from by
    have h1 : ((2 ^ k % 256 : Nat) : Int) = (2 : Int) ^ k % 256 := by rw [Int.natCast_emod, Int.natCast_pow]; rfl
    rw [← h1, Nat.mod_eq_of_lt hp]]
  exact e



set_option maxRecDepth 100000 in
set_option maxHeartbeats 1000000 in
theorem walkParts_in (a : Option Addr) (len cap : Nat) (bs : List Nat) (bit : Nat) (w : World) (hr : RowB w a len cap bs)
    (h0 : 0 < len) (h1 : len ≤ 300) (h2 : bit < 8 * len) :
    Calls Try.prog 8 #[.slice a len cap, .int .i64 bit] w fun e w' => e = .returned (.bool true) ∧ Below w.heap.size w w' := by
  have hz := zero_tab
  have c0 : ((len : Int) == 0) = false := by rw [beq_eq_false_iff_ne]; omega
  have hlb : Hid (bs.length = len) := Lib.hid hr.length
  go_enter Try.func8, Try.ntmps8
  go_wp2_with fail
  refine (anchor_any _).mono ?_
  rintro e w1 ⟨rfl, hb1⟩
  go_wp2_with fail
  refine (new_any _).mono ?_
  rintro e w2 ⟨rfl, hb2⟩
  have hrA := (hr.below hb1).below hb2
  have hr2 := hrA.below (below_alloc w2 (Obj.cells tbl 26))
  have hr3 := hr2.below (below_alloc _ (Obj.cells #[] 5))
  have hown := own_made (w2.alloc (Obj.cells tbl 26)) (w2.heap.size + 1) (w2.heap.size + 1) (by simp) (Nat.le_refl _)
  have HrA := Lib.hid hrA
  have Hr3 := Lib.hid hr3
  have hrb := hr.lt
  have hi8 : bit / 8 < len := by omega
  have hk8 : bit % 8 < 8 := by omega
  have hx0 : bs.getD (bit / 8) 0 < 256 := getD_lt hrb _
  have Hown := Lib.hid hown
  clear hz hr hr2 hr3 hrA hown
  have hz := zero_tab
  go_wp2_with (first | (refine wpList_store_row rfl 26 _ _ rfl w2.heap.size tbl rfl rfl 26 (pt 0) (heap_alloc_new w2 _) info_tbl (by rw [pt_size, tbl_size]) tbl_cells ?_; rw [setRow_new]; go_frame) | (at_builtin; refine wpList_append_bytes rfl (.tmp 29) (.tmp 30) rfl (w2.heap.size + 1) _ 0 [] rfl Hown.out _ _ _ bs rfl Hr3.out (by omega) (by simp) ?_; intro v' w3 hown' hgr; rw [Nat.zero_add, List.nil_append] at hown'; have hB3 := behind_append tbl hgr rfl; clear hgr; obtain ⟨g, ncap, hv', hbg, hrow, hfz⟩ := own_some hown' hrb h0; clear hown'; rw [hv']; clear hv' v'; have hcl := hrow.at0 (bit / 8) hi8; have hbv := bit_val _ (bit % 8) hx0 hk8; have Hrow := Lib.hid hrow; have HB3 := Lib.hid hB3; clear hrow hB3 hz; obtain ⟨y, hy⟩ : ∃ y, y = bs.getD (bit / 8) 0 ^^^ 2 ^ (bit % 8) := ⟨_, rfl⟩; rw [← hy] at hbv; have Hy := Lib.hid hy; clear hy; generalize bs.getD (bit / 8) 0 = x at hcl hbv; go_frame))
  have hp : 2 ^ (bit % 8) < 256 := Nat.lt_of_lt_of_le (Nat.pow_lt_pow_right (by decide) hk8) (by decide)
  have hp0 : 2 ^ (bit % 8) ≠ 0 := Nat.ne_of_gt (Nat.two_pow_pos _)
  have hy256 : y < 256 := by rw [Hy.out]; exact Nat.xor_lt_two_pow (n := 8) hx0 hp
  have hrow4 := Hrow.out.set (bit / 8) y hi8 hy256
  have hB4 : Below w2.heap.size w2 (w3.setCell ⟨g, bit / 8, none⟩ (.int .u8 (y : Nat))) := HB3.out.2.setCell (show w2.heap.size ≤ g by omega) _
  have hT4 : (w3.setCell ⟨g, bit / 8, none⟩ (.int .u8 (y : Nat))).rangeAt w2.heap.size 0 tblL := fun j v hv => by
    rw [World.cell?_setCell_other _ _ _ _ (fun e => by have e2 : g = w2.heap.size := congrArg Addr.block e; omega)]; exact tab_range HB3.out.1 j v hv
  have hrA4 := HrA.out.below hB4
  have hlt4 : w2.heap.size < (w3.setCell ⟨g, bit / 8, none⟩ (.int .u8 (y : Nat))).heap.size := by
    have := hB4; exact block_lt_of_cell (hT4 0 _ (tblL_at 0 (by decide)))
  generalize w3.setCell ⟨g, bit / 8, none⟩ (.int .u8 (y : Nat)) = w4 at *
  have hf1 := ovr_flip 4294967295 bs (bit / 8) _ (by rw [hlb.out]; exact hi8) hrb hp hp0
  have hf2 := ovr_flip 0 bs (bit / 8) _ (by rw [hlb.out]; exact hi8) hrb hp hp0
  rw [← Hy.out] at hf1 hf2
  have hs1 : sm (bs.set (bit / 8) y) ≠ sm bs := fun e => hf1 (by unfold sm at e; rw [Nat.xor_comm _ 4294967295, Nat.xor_comm _ 4294967295] at e; exact xor_cancel e)
  have C1 : Hid (∀ w', Below w4.heap.size w4 w' → Calls Try.prog 16 #[.agg tbl, .slice (some ⟨g, 0, none⟩) len ncap] w' fun e w'' => e = .returned (.int .u32 (sm (bs.set (bit / 8) y) : Nat)) ∧ Below w'.heap.size w' w'') := Lib.hid (fun w' h => sum_any _ _ _ _ w' (hrow4.below h))
  have C2 : Hid (∀ w', Below w4.heap.size w4 w' → Calls Try.prog 16 #[.agg tbl, .slice a len cap] w' fun e w'' => e = .returned (.int .u32 (sm bs : Nat)) ∧ Below w'.heap.size w' w'') := Lib.hid (fun w' h => sum_any _ _ _ _ w' (hrA4.below h))
  have C3 : Hid (∀ w', Below w4.heap.size w4 w' → Calls Try.prog 13 #[.agg tbl, .slice (some ⟨g, 0, none⟩) len ncap] w' fun e w'' => e = .returned (.int .u32 (ovr 0 (bs.set (bit / 8) y) : Nat)) ∧ Below w'.heap.size w' w'') := Lib.hid (fun w' h => raw_any _ _ _ _ w' (hrow4.below h))
  have C4 : Hid (∀ w', Below w4.heap.size w4 w' → Calls Try.prog 13 #[.agg tbl, .slice a len cap] w' fun e w'' => e = .returned (.int .u32 (ovr 0 bs : Nat)) ∧ Below w'.heap.size w' w'') := Lib.hid (fun w' h => raw_any _ _ _ _ w' (hrA4.below h))
  have n1 := bne_int hs1
  have n2 := bne_int hf2
  generalize sm (bs.set (bit / 8) y) = s1 at *
  generalize sm bs = s2 at *
  generalize ovr 0 (bs.set (bit / 8) y) = s3 at *
  generalize ovr 0 bs = s4 at *
  clear hs1 hf1 hf2 hbv Hy hrow4 hrA4 hcl hfz Hrow HB3 Hr3 HrA Hown
  have hu := Try.underlying26
  have hi := info_tblL
  have hLd : ∀ w' : World, w'.rangeAt w2.heap.size 0 tblL → ldAt Try.prog 26 (.pointer (some ⟨w2.heap.size, 0, none⟩)) w' = .ok (.agg tbl) w' := fun w' h => ld_tbl hu rfl hi w' h
  clear hu hi
  have hf1 := enter_sum
  have hf2 := enter_raw
  generalize Try.prog = P at *
  go_region_held3 (fun w' => Below w4.heap.size w4 w' ∧ w'.rangeAt w2.heap.size 0 tblL) (first | exact ⟨(Below.refl _ _).drew, fun j v hv => hT4 j v hv⟩ | (go_split_ands; exact ⟨bthen (by assumption) hbn, range_keep (by assumption) hbn⟩))
    (first
      | ((go_split_ands); (go_at_call 16); (refine (C1.out _ (by assumption)).mono ?_); (rintro e wn ⟨rfl, hbn⟩))
      | ((go_split_ands); (go_at_call 16); (refine (C2.out _ (by assumption)).mono ?_); (rintro e wn ⟨rfl, hbn⟩))
      | ((go_split_ands); (go_at_call 13); (refine (C3.out _ (by assumption)).mono ?_); (rintro e wn ⟨rfl, hbn⟩))
      | ((go_split_ands); (go_at_call 13); (refine (C4.out _ (by assumption)).mono ?_); (rintro e wn ⟨rfl, hbn⟩)))
  go_split_ands
  go_wp2
  go_ret
  exact ⟨rfl, bthen hb1 (bthen hb2 (bthen hB4 (by assumption)))⟩

theorem walkCrcParts (a : Option Addr) (len cap : Nat) (bs : List Nat) (bit : Int) (w : World) (hr : RowB w a len cap bs) (hb : (Lit.int .i64 bit).wf = true) :
    Calls Try.prog 8 #[.slice a len cap, .int .i64 bit] w fun e w' => e = .returned (.bool true) ∧ Below w.heap.size w w' := by
  have hbb := bounds_i64 hb
  by_cases ho : len = 0 ∨ 300 < len ∨ bit < 0 ∨ 8 * (len : Int) ≤ bit
  · exact walkParts_out a len cap bs bit w hr hbb ho
  · obtain ⟨x, rfl⟩ := Int.eq_ofNat_of_zero_le (a := bit) (by omega)
    exact walkParts_in a len cap bs x w hr (by omega) (by omega) (by omega)

end Go.Proofs.Ytnfiklmlmobchaa
