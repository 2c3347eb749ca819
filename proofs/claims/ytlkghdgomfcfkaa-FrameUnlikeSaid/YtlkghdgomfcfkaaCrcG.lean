/-
  The contract of Open (layer 1).
-/
import Derived.Test.YtlkghdgomfcfkaaCrcF
namespace Go.Proofs.Ytlkghdgomfcfkaa
open Go.RowKit CrcM
set_option linter.unusedVariables false
set_option linter.unnecessarySimpa false
set_option linter.unusedSimpArgs false

/-- What Open tells of an error. -/
def OpenErr (x : Int) (w : World) (e : Ending) (w' : World) : Prop := e = .returned (.tuple #[.slice none 0 0, .int .i64 x]) ∧ Below w.heap.size w w'
/-- What Open tells of sound bytes: n bytes xs. -/
def OpenOk (n : Nat) (xs : List Nat) (w : World) (e : Ending) (w' : World) : Prop :=
  ∃ g, e = .returned (.tuple #[.slice (some ⟨g, 0, none⟩) n n, .int .i64 0]) ∧ w.heap.size ≤ g ∧ w'.heap[g]? = some (.cells (bA xs) 5 (0, 0)) ∧ Below w.heap.size w w'

set_option maxHeartbeats 400000 in
theorem open_short (a : Option Addr) (len cap : Nat) (bs : List Nat) (w : World) (hr : RowB w a len cap bs) (h4 : len < 4) :
    Calls Try.prog 25 #[.agg tbl, .slice a len cap] w (OpenErr 14 w) := by
  clear hr
  go_enter Try.func25, Try.ntmps25
  go_wp2_with fail
  go_ret2
  exact ⟨rfl, below_alloc w _⟩

theorem enter_word (args : Array Value) (w : World) : (callFunc 37 args).run Try.prog w = .ok (.enter 37 args) w := by kernel_rfl

theorem open_row (bs : List Nat) (n : Nat) : bs.take n ++ (zeros n).drop (min (n + 4) n) = bs.take n := by
  rw [Nat.min_eq_right (by omega), List.drop_of_length_le (by rw [zeros_length]; omega), List.append_nil]

set_option maxRecDepth 100000 in
set_option maxHeartbeats 1000000 in
theorem open_bad (a : Option Addr) (len cap : Nat) (bs : List Nat) (w : World) (hr : RowB w a len cap bs) (h4 : 4 ≤ len) (hne : sm (bs.take (len - 4)) ≠ num (bs.drop (len - 4))) :
    Calls Try.prog 25 #[.agg tbl, .slice a len cap] w (OpenErr 11 w) := by
  have hle := hr.le
  have hmax := hr.max
  have hl := hr.length
  have hm : cap ≤ 9223372036854775807 := by unfold maxLen at hmax; omega
  obtain ⟨n, rfl⟩ : ∃ n, len = n + 4 := ⟨len - 4, by omega⟩
  rw [Nat.add_sub_cancel] at hne
  have s1 := fun w => run_slice_to w a (n + 4) cap n (by omega) hmax
  have s2 : ∀ w : World, _ := fun w => run_slice_from w a (n + 4) cap n (by omega) hle hmax
  rw [Nat.add_sub_cancel_left] at s2
  have hrA := hr.to n (by omega)
  have hrB := hr.from n (by omega)
  rw [Nat.add_sub_cancel_left] at hrB
  have n1 := bne_int hne
  have C1 : Hid (∀ w', Below w.heap.size w w' → Calls Try.prog 36 #[.agg tbl, .slice a n cap] w' fun e w'' => e = .returned (.int .u32 (sm (bs.take n) : Nat)) ∧ Below w'.heap.size w' w'') := Lib.hid (fun w' h => sum_any _ _ _ _ w' (hrA.below h))
  have C2 : Hid (∀ w', Below w.heap.size w w' → Calls Try.prog 37 #[.slice (slAddr a cap n) 4 (cap - n)] w' fun e w'' => e = .returned (.int .u32 (num (bs.drop n) : Nat)) ∧ Below w'.heap.size w' w'') := Lib.hid (fun w' h => (word_any _ _ _ _ w' (hrB.below h) (Nat.le_refl _)).mono (by
    rintro e w'' ⟨rfl, rfl⟩
    exact ⟨by rw [List.take_of_length_le (by simp; omega)], Below.refl _ _⟩))
  generalize sm (bs.take n) = x1 at *
  generalize num (bs.drop n) = x2 at *
  clear hne hl hmax hr hrA hrB
  go_enter Try.func25, Try.ntmps25
  go_wp2_with fail
  have hu := Try.underlying28
  have hi := info_tblL
  have hT := tab_range (heap_alloc_new w (Obj.cells tbl 28))
  have hB := below_alloc w (Obj.cells tbl 28)
  go_region_held3 (fun w' => Below w.heap.size w w' ∧ w'.rangeAt w.heap.size 0 tblL) (first | exact ⟨hB.drew, fun j v hv => hT j v hv⟩ | (go_split_ands; exact ⟨Below.trans (by assumption) (hbn.mono (Below.size (by assumption))), range_keep (by assumption) hbn⟩))
    (first
      | ((go_split_ands); (go_at_call 36); (refine (C1.out _ (by assumption)).mono ?_); (rintro e wn ⟨rfl, hbn⟩))
      | ((go_split_ands); (go_at_call 37); (refine (C2.out _ (by assumption)).mono ?_); (rintro e wn ⟨rfl, hbn⟩)))
  go_split_ands
  go_wp2
  go_ret2
  exact ⟨rfl, by assumption⟩

set_option maxRecDepth 100000 in
set_option maxHeartbeats 1000000 in
theorem open_ok (a : Option Addr) (len cap : Nat) (bs : List Nat) (w : World) (hr : RowB w a len cap bs) (h4 : 4 ≤ len) (heq : sm (bs.take (len - 4)) = num (bs.drop (len - 4))) (hlen : len ≤ 1000000) :
    Calls Try.prog 25 #[.agg tbl, .slice a len cap] w (OpenOk (len - 4) (bs.take (len - 4)) w) := by
  have hle := hr.le
  have hmax := hr.max
  have hl := hr.length
  have hm : cap ≤ 9223372036854775807 := by unfold maxLen at hmax; omega
  obtain ⟨n, rfl⟩ : ∃ n, len = n + 4 := ⟨len - 4, by omega⟩
  rw [Nat.add_sub_cancel] at heq
  have s1 := fun w => run_slice_to w a (n + 4) cap n (by omega) hmax
  have s2 : ∀ w : World, _ := fun w => run_slice_from w a (n + 4) cap n (by omega) hle hmax
  rw [Nat.add_sub_cancel_left] at s2
  have hrA := hr.to n (by omega)
  have hrB := hr.from n (by omega)
  rw [Nat.add_sub_cancel_left] at hrB
  have Heq := Lib.hid heq
  have hmk := fun w => make_bytes w n (by omega)
  have HR := Lib.hid hr
  have HL := Lib.hid hl
  have C1 : Hid (∀ w', Below w.heap.size w w' → Calls Try.prog 36 #[.agg tbl, .slice a n cap] w' fun e w'' => e = .returned (.int .u32 (sm (bs.take n) : Nat)) ∧ Below w'.heap.size w' w'') := Lib.hid (fun w' h => sum_any _ _ _ _ w' (hrA.below h))
  have C2 : Hid (∀ w', Below w.heap.size w w' → Calls Try.prog 37 #[.slice (slAddr a cap n) 4 (cap - n)] w' fun e w'' => e = .returned (.int .u32 (num (bs.drop n) : Nat)) ∧ Below w'.heap.size w' w'') := Lib.hid (fun w' h => (word_any _ _ _ _ w' (hrB.below h) (Nat.le_refl _)).mono (by
    rintro e w'' ⟨rfl, rfl⟩
    exact ⟨by rw [List.take_of_length_le (by simp; omega)], Below.refl _ _⟩))
  rw [← heq] at C2
  generalize sm (bs.take n) = x1 at *
  have n1 := bne_same x1
  clear heq Heq hl hmax hr hrA hrB
  go_enter Try.func25, Try.ntmps25
  go_wp2_with fail
  have hu := Try.underlying28
  have hi := info_tblL
  have hT := tab_range (heap_alloc_new w (Obj.cells tbl 28))
  have hB := below_alloc w (Obj.cells tbl 28)
  go_region_held3 (fun w' => Below w.heap.size w w' ∧ w'.rangeAt w.heap.size 0 tblL) (first | exact ⟨hB.drew, fun j v hv => hT j v hv⟩ | (go_split_ands; exact ⟨Below.trans (by assumption) (hbn.mono (Below.size (by assumption))), range_keep (by assumption) hbn⟩))
    (first
      | ((go_split_ands); (go_at_call 36); (refine (C1.out _ (by assumption)).mono ?_); (rintro e wn ⟨rfl, hbn⟩))
      | ((go_split_ands); (go_at_call 37); (refine (C2.out _ (by assumption)).mono ?_); (rintro e wn ⟨rfl, hbn⟩)))
  go_split_ands
  have hBn : Below w.heap.size w wn := by assumption
  clear hT hB hu hi
  go_wp2_with (refine wpList_copy_bytes rfl (.tmp 26) (.tmp 27) rfl wn.heap.size _ _ _ _ _ _ bs rfl rfl (heap_alloc_new wn _) (zeros_length _) ((HR.out.below hBn).below (below_alloc wn _)) ?_; intro w2 hg2 hb2; have HG2 := Lib.hid hg2; clear hg2; go_frame)
  go_ret2
  refine ⟨wn.heap.size, ?_, hBn.size, ?_, ?_⟩
  · rw [Nat.add_sub_cancel]; rfl
  · rw [HG2.out, Nat.add_sub_cancel, open_row]
  · exact hBn.trans (((below_alloc wn _).trans hb2).mono hBn.size)

theorem sealed_take (xs : List Nat) (n : Nat) (h : xs.length = n) : (sealed xs).take n = xs := by subst h; simp [sealed]
theorem sealed_drop (xs : List Nat) (n : Nat) (h : xs.length = n) : (sealed xs).drop n = leb 4 (sm xs) := by subst h; simp [sealed]
theorem sealed_sound (xs : List Nat) (n : Nat) (h : xs.length = n) (hb : ∀ c ∈ xs, c < 256) : sm ((sealed xs).take n) = num ((sealed xs).drop n) := by
  rw [sealed_take xs n h, sealed_drop xs n h, leb_num, Nat.mod_eq_of_lt (sm_lt hb)]

/-- What was sealed is opened. -/
theorem open_sealed (g n : Nat) (xs : List Nat) (w : World) (t : TypeId) (hg : w.heap[g]? = some (.cells (bA (sealed xs)) t (0, 0))) (hl : xs.length = n) (hb : ∀ c ∈ xs, c < 256) (hn : n ≤ 900000) :
    Calls Try.prog 25 #[.agg tbl, .slice (some ⟨g, 0, none⟩) (n + 4) (n + 4)] w (OpenOk n xs w) := by
  have hr := row_bA hg (sealed_lt hb) (by rw [sealed_length]; unfold maxLen; omega)
  rw [sealed_length, hl] at hr
  have h := open_ok _ _ _ _ w hr (by omega) (by rw [Nat.add_sub_cancel]; exact sealed_sound xs n hl hb) (by omega)
  rw [Nat.add_sub_cancel, sealed_take xs n hl] at h
  exact h

end Go.Proofs.Ytlkghdgomfcfkaa
