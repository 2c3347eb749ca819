/-
  The walk of CrcPatterns.
-/
import Derived.Test.YtnfiklmlmobchaaCrcI
import Derived.Test.YtnfiklmlmobchaaCrcZ
import Derived.RegionTactic
namespace Go.Proofs.Ytnfiklmlmobchaa
open Go.RowKit CrcM
set_option linter.unusedVariables false
set_option linter.unnecessarySimpa false
set_option linter.unusedSimpArgs false

set_option maxRecDepth 100000 in
set_option maxHeartbeats 1000000 in
theorem walkPatterns_out (a : Option Addr) (la ca : Nat) (b : Option Addr) (lb cb : Nat) (w : World) (ma : la ≤ 9223372036854775807) (mb : lb ≤ 9223372036854775807) (ho : 100 < la ∨ 104 < lb) :
    Calls Try.prog 5 #[.slice a la ca, .slice b lb cb] w fun e w' => e = .returned (.bool true) ∧ Below w.heap.size w w' := by
  by_cases h0 : 100 < la
  · have d0 : decide ((100 : Int) < (la : Int)) = true := decide_eq_true (by omega)
    go_enter Try.func5, Try.ntmps5
    go_wp2_with fail
    refine (anchor_any _).mono ?_
    rintro e w1 ⟨rfl, hb1⟩
    go_wp2_with fail
    go_ret
    exact ⟨rfl, hb1⟩
  · have d0 : decide ((100 : Int) < (la : Int)) = false := decide_eq_false (by omega)
    have d1 : decide ((104 : Int) < (lb : Int)) = true := decide_eq_true (by omega)
    go_enter Try.func5, Try.ntmps5
    go_wp2_with fail
    refine (anchor_any _).mono ?_
    rintro e w1 ⟨rfl, hb1⟩
    go_wp2_with fail
    go_ret
    exact ⟨rfl, hb1⟩

/-- The pattern, as long as what is sealed. -/
def pat (ys : List Nat) (lb n : Nat) : List Nat := ys.take n ++ (zeros n).drop (min lb n)
theorem pat_length (ys : List Nat) (lb n : Nat) (h : ys.length = lb) : (pat ys lb n).length = n := by
  unfold pat; rw [List.length_append, List.length_take, List.length_drop, zeros_length]; omega
theorem pat_lt (ys : List Nat) (lb n : Nat) (h : ∀ c ∈ ys, c < 256) : ∀ c ∈ pat ys lb n, c < 256 := by
  intro c hc
  rcases List.mem_append.1 hc with h1 | h1
  · exact h c (List.mem_of_mem_take h1)
  · exact zeros_lt n c (List.mem_of_mem_drop h1)

theorem zx_put (xs ys : List Nat) (n k : Nat) (hk : k < n) (h1 : xs.length = n) :
    (zx xs ys k ++ xs.drop k).set k (xs.getD k 0 ^^^ ys.getD k 0) = zx xs ys (k + 1) ++ xs.drop (k + 1) := by
  rw [List.set_append_right _ _ (by rw [zx_length]; omega), zx_length, zx_succ, Nat.sub_self]
  rw [List.drop_eq_getElem_cons (show k < xs.length by omega), List.set_cons_zero]
  simp
theorem zx_put_at (xs ys : List Nat) (n k : Nat) (hk : k < n) (h1 : xs.length = n) : (zx xs ys k ++ xs.drop k).getD k 0 = xs.getD k 0 := by
  rw [getD_app, if_neg (by rw [zx_length]; omega), zx_length, Nat.sub_self]
  simp [List.getD]

set_option maxRecDepth 100000 in
set_option maxHeartbeats 4000000 in
theorem walkPatterns_bad (a : Option Addr) (la ca : Nat) (xs : List Nat) (b : Option Addr) (lb cb : Nat) (ys : List Nat) (w : World) (ha : RowB w a la ca xs) (hb : RowB w b lb cb ys) (h1 : la ≤ 100) (h2 : lb ≤ 104) (hq : ovr 0 (pat ys lb (la + 4)) ≠ 0) :
    Calls Try.prog 5 #[.slice a la ca, .slice b lb cb] w fun e w' => e = .returned (.bool true) ∧ Below w.heap.size w w' := by
  have hz := zero_tab
  have hxl := Lib.hid ha.length
  have hxb := Lib.hid ha.lt
  have hyl := Lib.hid hb.length
  have hyb := Lib.hid hb.lt
  have Hq := Lib.hid hq
  clear hq
  go_enter Try.func5, Try.ntmps5
  go_wp2_with fail
  refine (anchor_any _).mono ?_
  rintro e w1 ⟨rfl, hb1⟩
  go_wp2_with fail
  refine (new_any _).mono ?_
  rintro e w2 ⟨rfl, hb2⟩
  have Ha := Lib.hid (((ha.below hb1).below hb2).below (below_alloc w2 (Obj.cells tbl 26)))
  have Hb := Lib.hid (((hb.below hb1).below hb2).below (below_alloc w2 (Obj.cells tbl 26)))
  clear ha hb
  go_wp2_with (first | (refine wpList_store_row rfl 26 _ _ rfl w2.heap.size tbl rfl rfl 26 (pt 0) (heap_alloc_new w2 _) info_tbl (by rw [pt_size, tbl_size]) tbl_cells ?_; rw [setRow_new]; go_frame) | (refine wpList_load_row rfl 26 _ rfl w2.heap.size rfl 26 tbl (0, 0) _ (heap_alloc_new w2 _) Try.underlying26 rfl info_tbl ?_; go_frame))
  clear hz
  refine (mult_any _ _ _ _ _ Hb.out).mono ?_
  rintro e w3 ⟨rfl, hb3⟩
  have HT3 := Lib.hid ((hb3.block w2.heap.size (by simp)).trans (heap_alloc_new w2 (Obj.cells tbl 26)))
  have Ha3 := Lib.hid (Ha.out.below hb3)
  have Hb3 := Lib.hid (Hb.out.below hb3)
  have hsz3 : w2.heap.size + 1 ≤ w3.heap.size := by have := hb3.size; simpa using this
  have hB3 : Below w.heap.size w w3 := bthen hb1 (bthen hb2 (bthen (below_alloc w2 (Obj.cells tbl 26)) hb3))
  clear Ha Hb hb1 hb2 hb3
  generalize hdm : decide (ovr 0 ys = 0) = dm at *
  have Hdm := Lib.hid hdm
  clear hdm
  go_wp2_with fail
  refine (div_all _ _ _ _ _ Hb3.out (by omega)).mono ?_
  rintro e w4 ⟨rfl, hb4⟩
  rw [Hdm.out]
  have HT4 := Lib.hid ((hb4.block w2.heap.size (by omega)).trans HT3.out)
  have Ha4 := Lib.hid (Ha3.out.below hb4)
  have Hb4 := Lib.hid (Hb3.out.below hb4)
  have hsz4 : w2.heap.size + 1 ≤ w4.heap.size := by have := hb4.size; omega
  have hB4 : Below w.heap.size w w4 := bthen hB3 hb4
  have hdd : (dm != dm) = false := by simp
  clear HT3 Ha3 Hb3 hb4 hB3 Hdm
  go_wp2_with (refine wpList_load_row rfl 26 _ rfl w2.heap.size rfl 26 tbl (0, 0) _ HT4.out Try.underlying26 rfl info_tbl ?_; go_frame)
  clear hdd
  refine (seal_any _ _ _ xs _ Ha4.out (by omega)).mono ?_
  rintro e w5 ⟨g1, rfl, hg1, hh1, hb5⟩
  have HT5 := Lib.hid ((hb5.block w2.heap.size (by omega)).trans HT4.out)
  have Hb5 := Lib.hid (Hb4.out.below hb5)
  have Hh1 := Lib.hid hh1
  have hg1s : g1 < w5.heap.size := (Array.getElem?_eq_some_iff.1 hh1).1
  have hB5 : Below w.heap.size w w5 := bthen hB4 hb5
  have hgT : w2.heap.size < g1 := by omega
  have hwg : w.heap.size ≤ g1 := by have := hB4.size; omega
  have hsz5 : w2.heap.size + 1 ≤ w5.heap.size := by omega
  clear hh1 HT4 Ha4 Hb4 hb5 hB4
  have hmk : ∀ w : World, (Instr.makeSlice 22 (.int .i64 ((la : Int) + 4)) (.int .i64 ((la : Int) + 4))).run Try.prog w = .ok (.slice (some ⟨w.heap.size, 0, none⟩) (la + 4) (la + 4)) (w.alloc (Obj.cells (bA (zeros (la + 4))) 5)) := fun w => by
    have h := make_bytes w (la + 4) (by omega)
    rwa [show ((la + 4 : Nat) : Int) = (la : Int) + 4 from by omega] at h
  go_wp2_with (refine wpList_copy_bytes rfl (.tmp 34) (.tmp 35) rfl w5.heap.size _ _ _ _ _ _ ys rfl rfl (heap_alloc_new w5 _) (zeros_length _) (Hb5.out.below (below_alloc w5 _)) ?_; intro w6 hg6 hb6; have HG6 := Lib.hid (show w6.heap[w5.heap.size]? = some (Obj.cells (bA (pat ys lb (la + 4))) 5 (0, 0)) from hg6); have Hb6 := Lib.hid hb6; clear hg6 hb6; go_frame)
  clear hmk
  have HT6 := Lib.hid (((Hb6.out.block w2.heap.size (by omega)).trans (Below.heap_alloc _ _ _ (by omega))).trans HT5.out)
  have HH6 := Lib.hid (((Hb6.out.block g1 hg1s).trans (Below.heap_alloc _ _ _ hg1s)).trans Hh1.out)
  have hB6 : Below w.heap.size w w6 := bthen hB5 ((below_alloc w5 _).trans Hb6.out)
  have hsl : Hid ((sealed xs).length = la + 4) := Lib.hid (by rw [sealed_length, hxl.out])
  have hsb : Hid (∀ c ∈ sealed xs, c < 256) := Lib.hid (sealed_lt hxb.out)
  have hpl := Lib.hid (pat_length ys lb (la + 4) hyl.out)
  have hpb := Lib.hid (pat_lt ys lb (la + 4) hyb.out)
  have hne : g1 ≠ w5.heap.size := by omega
  have hne2 : w2.heap.size ≠ g1 := by omega
  have HS0 := Lib.hid (show w6.heap[g1]? = some (Obj.cells (bA (zx (sealed xs) (pat ys lb (la + 4)) 0 ++ (sealed xs).drop 0)) 5 (0, 0)) by rw [HH6.out]; simp [zx])
  clear HT5 Hb5 Hh1 Hb6 hB5 HH6
  generalize hps : pat ys lb (la + 4) = qs at *
  generalize hss : sealed xs = ss at *
  have Hps := Lib.hid hps
  have Hss := Lib.hid hss
  clear hps hss
  generalize w5.heap.size = gq at *
  go_loopw [39] (fun i wr => ∃ k : Nat, k ≤ la + 4 ∧ i = .int .i64 k ∧ wr.heap[g1]? = some (Obj.cells (bA (zx ss qs k ++ ss.drop k)) 5 (0, 0)) ∧ wr.heap[gq]? = some (Obj.cells (bA qs) 5 (0, 0)) ∧ wr.heap[w2.heap.size]? = some (Obj.cells tbl 26 (0, 0)) ∧ Below w.heap.size w wr) (fun i _ => la + 4 - (intOf i).toNat)
  case atStart => exact ⟨0, Nat.zero_le _, rfl, HS0.out, HG6.out, HT6.out, hB6⟩
  case round =>
    obtain ⟨k, hk, rfl, hg, hgq, hgt, hbw⟩ := hrel
    have Hg := Lib.hid hg
    have Hgq := Lib.hid hgq
    have Hgt := Lib.hid hgt
    have Hbw := Lib.hid hbw
    clear hg hgq hgt hbw HS0 HG6 HT6 hB6
    by_cases hlt : k < la + 4
    · have cA : wr.cell? ⟨g1, k, none⟩ = some (.int .u8 (ss.getD k 0 : Nat)) := by
        rw [cell_of_row wr _ _ _ _ _ Hg.out, bA_at _ _ (by rw [List.length_append, zx_length, List.length_drop, hsl.out]; omega), zx_put_at ss qs (la + 4) k hlt hsl.out]
      have cB : wr.cell? ⟨gq, k, none⟩ = some (.int .u8 (qs.getD k 0 : Nat)) := by
        rw [cell_of_row wr _ _ _ _ _ Hgq.out, bA_at _ _ (by rw [hpl.out]; exact hlt)]
      have hfz : wr.frozen? ⟨g1, k, none⟩ = false := frozen_of_row wr _ _ _ _ Hg.out
      have lA := getD_lt hsb.out k
      have lB := getD_lt hpb.out k
      have hx := u8_xor_nat _ _ lA lB
      obtain ⟨v, hv⟩ : ∃ v, v = ss.getD k 0 ^^^ qs.getD k 0 := ⟨_, rfl⟩
      rw [← hv] at hx
      have Hv := Lib.hid hv
      clear hv
      generalize ss.getD k 0 = x at cA lA hx
      generalize qs.getD k 0 = y at cB lB hx
      have hk1 : (k : Int) < (la : Int) + 4 := by omega
      go_wp2_with fail
      go_region
      all_goals go_wp2_with fail
      all_goals go_roundw
      case rel =>
        refine ⟨k + 1, by omega, by go_num, ?_, ?_, ?_, ?_⟩
        · show (wr.setCell ⟨g1, k, none⟩ (.int .u8 (v : Nat))).heap[g1]? = _
          rw [heap_setCell_same _ _ _ _ _ _ Hg.out, bA_set, Hv.out, zx_put ss qs (la + 4) k hlt hsl.out]
        · show (wr.setCell ⟨g1, k, none⟩ (.int .u8 (v : Nat))).heap[gq]? = _
          rw [heap_setCell_other _ _ _ _ (Ne.symm hne)]; exact Hgq.out
        · show (wr.setCell ⟨g1, k, none⟩ (.int .u8 (v : Nat))).heap[w2.heap.size]? = _
          rw [heap_setCell_other _ _ _ _ hne2]; exact Hgt.out
        · exact (Hbw.out.setCell hwg _).drew
      case measure => simp [intOf]; omega
    · have hkN : k = la + 4 := by omega
      have hGz : wr.heap[g1]? = some (Obj.cells (bA (zx ss qs (la + 4))) 5 (0, 0)) := by
        have := Hg.out
        rw [hkN, List.drop_of_length_le (by rw [hsl.out]; exact Nat.le_refl _), List.append_nil] at this
        exact this
      have hzb : ∀ c ∈ zx ss qs (la + 4), c < 256 := zx_lt hsb.out hpb.out _
      have hrz := row_bA hGz hzb (by rw [zx_length]; unfold maxLen; omega)
      rw [zx_length] at hrz
      have hrq := row_bA Hgq.out hpb.out (by rw [hpl.out]; unfold maxLen; omega)
      rw [hpl.out] at hrq
      have Hrz := Lib.hid hrz
      have Hrq := Lib.hid hrq
      have hspec := pattern_spec xs qs la hxb.out hpb.out hxl.out hpl.out
      rw [Hss.out] at hspec
      have Hspec := Lib.hid hspec
      have HqQ := Hq.out
      have HqF := Lib.hid HqQ
      clear hGz hzb hrz hrq hspec HqQ Hg Hgq
      go_wp2_with (refine wpList_load_row rfl 26 _ rfl w2.heap.size rfl 26 tbl (0, 0) _ Hgt.out Try.underlying26 rfl info_tbl ?_; go_frame)
      refine (open_bad _ _ _ _ _ Hrz.out (by omega) (by rw [Nat.add_sub_cancel]; exact fun e => HqF.out (Hspec.out.1 e))).mono ?_
      rintro e w7 ⟨rfl, hb7⟩
      go_wp2_with fail
      refine (div_all _ _ _ _ _ (Hrq.out.below hb7) (by omega)).mono ?_
      rintro e w8 ⟨rfl, hb8⟩
      rw [decide_eq_false HqF.out]
      go_wp2_with fail
      go_ret
      exact ⟨rfl, bthen Hbw.out (bthen hb7 hb8)⟩

set_option maxRecDepth 100000 in
set_option maxHeartbeats 4000000 in
theorem walkPatterns_ok (a : Option Addr) (la ca : Nat) (xs : List Nat) (b : Option Addr) (lb cb : Nat) (ys : List Nat) (w : World) (ha : RowB w a la ca xs) (hb : RowB w b lb cb ys) (h1 : la ≤ 100) (h2 : lb ≤ 104) (hq : ovr 0 (pat ys lb (la + 4)) = 0) :
    Calls Try.prog 5 #[.slice a la ca, .slice b lb cb] w fun e w' => e = .returned (.bool true) ∧ Below w.heap.size w w' := by
  have hz := zero_tab
  have hxl := Lib.hid ha.length
  have hxb := Lib.hid ha.lt
  have hyl := Lib.hid hb.length
  have hyb := Lib.hid hb.lt
  have Hq := Lib.hid hq
  clear hq
  go_enter Try.func5, Try.ntmps5
  go_wp2_with fail
  refine (anchor_any _).mono ?_
  rintro e w1 ⟨rfl, hb1⟩
  go_wp2_with fail
  refine (new_any _).mono ?_
  rintro e w2 ⟨rfl, hb2⟩
  have Ha := Lib.hid (((ha.below hb1).below hb2).below (below_alloc w2 (Obj.cells tbl 26)))
  have Hb := Lib.hid (((hb.below hb1).below hb2).below (below_alloc w2 (Obj.cells tbl 26)))
  clear ha hb
  go_wp2_with (first | (refine wpList_store_row rfl 26 _ _ rfl w2.heap.size tbl rfl rfl 26 (pt 0) (heap_alloc_new w2 _) info_tbl (by rw [pt_size, tbl_size]) tbl_cells ?_; rw [setRow_new]; go_frame) | (refine wpList_load_row rfl 26 _ rfl w2.heap.size rfl 26 tbl (0, 0) _ (heap_alloc_new w2 _) Try.underlying26 rfl info_tbl ?_; go_frame))
  clear hz
  refine (mult_any _ _ _ _ _ Hb.out).mono ?_
  rintro e w3 ⟨rfl, hb3⟩
  have HT3 := Lib.hid ((hb3.block w2.heap.size (by simp)).trans (heap_alloc_new w2 (Obj.cells tbl 26)))
  have Ha3 := Lib.hid (Ha.out.below hb3)
  have Hb3 := Lib.hid (Hb.out.below hb3)
  have hsz3 : w2.heap.size + 1 ≤ w3.heap.size := by have := hb3.size; simpa using this
  have hB3 : Below w.heap.size w w3 := bthen hb1 (bthen hb2 (bthen (below_alloc w2 (Obj.cells tbl 26)) hb3))
  clear Ha Hb hb1 hb2 hb3
  generalize hdm : decide (ovr 0 ys = 0) = dm at *
  have Hdm := Lib.hid hdm
  clear hdm
  go_wp2_with fail
  refine (div_all _ _ _ _ _ Hb3.out (by omega)).mono ?_
  rintro e w4 ⟨rfl, hb4⟩
  rw [Hdm.out]
  have HT4 := Lib.hid ((hb4.block w2.heap.size (by omega)).trans HT3.out)
  have Ha4 := Lib.hid (Ha3.out.below hb4)
  have Hb4 := Lib.hid (Hb3.out.below hb4)
  have hsz4 : w2.heap.size + 1 ≤ w4.heap.size := by have := hb4.size; omega
  have hB4 : Below w.heap.size w w4 := bthen hB3 hb4
  have hdd : (dm != dm) = false := by simp
  clear HT3 Ha3 Hb3 hb4 hB3 Hdm
  go_wp2_with (refine wpList_load_row rfl 26 _ rfl w2.heap.size rfl 26 tbl (0, 0) _ HT4.out Try.underlying26 rfl info_tbl ?_; go_frame)
  clear hdd
  refine (seal_any _ _ _ xs _ Ha4.out (by omega)).mono ?_
  rintro e w5 ⟨g1, rfl, hg1, hh1, hb5⟩
  have HT5 := Lib.hid ((hb5.block w2.heap.size (by omega)).trans HT4.out)
  have Hb5 := Lib.hid (Hb4.out.below hb5)
  have Hh1 := Lib.hid hh1
  have hg1s : g1 < w5.heap.size := (Array.getElem?_eq_some_iff.1 hh1).1
  have hB5 : Below w.heap.size w w5 := bthen hB4 hb5
  have hgT : w2.heap.size < g1 := by omega
  have hwg : w.heap.size ≤ g1 := by have := hB4.size; omega
  have hsz5 : w2.heap.size + 1 ≤ w5.heap.size := by omega
  clear hh1 HT4 Ha4 Hb4 hb5 hB4
  have hmk : ∀ w : World, (Instr.makeSlice 22 (.int .i64 ((la : Int) + 4)) (.int .i64 ((la : Int) + 4))).run Try.prog w = .ok (.slice (some ⟨w.heap.size, 0, none⟩) (la + 4) (la + 4)) (w.alloc (Obj.cells (bA (zeros (la + 4))) 5)) := fun w => by
    have h := make_bytes w (la + 4) (by omega)
    rwa [show ((la + 4 : Nat) : Int) = (la : Int) + 4 from by omega] at h
  go_wp2_with (refine wpList_copy_bytes rfl (.tmp 34) (.tmp 35) rfl w5.heap.size _ _ _ _ _ _ ys rfl rfl (heap_alloc_new w5 _) (zeros_length _) (Hb5.out.below (below_alloc w5 _)) ?_; intro w6 hg6 hb6; have HG6 := Lib.hid (show w6.heap[w5.heap.size]? = some (Obj.cells (bA (pat ys lb (la + 4))) 5 (0, 0)) from hg6); have Hb6 := Lib.hid hb6; clear hg6 hb6; go_frame)
  clear hmk
  have HT6 := Lib.hid (((Hb6.out.block w2.heap.size (by omega)).trans (Below.heap_alloc _ _ _ (by omega))).trans HT5.out)
  have HH6 := Lib.hid (((Hb6.out.block g1 hg1s).trans (Below.heap_alloc _ _ _ hg1s)).trans Hh1.out)
  have hB6 : Below w.heap.size w w6 := bthen hB5 ((below_alloc w5 _).trans Hb6.out)
  have hsl : Hid ((sealed xs).length = la + 4) := Lib.hid (by rw [sealed_length, hxl.out])
  have hsb : Hid (∀ c ∈ sealed xs, c < 256) := Lib.hid (sealed_lt hxb.out)
  have hpl := Lib.hid (pat_length ys lb (la + 4) hyl.out)
  have hpb := Lib.hid (pat_lt ys lb (la + 4) hyb.out)
  have hne : g1 ≠ w5.heap.size := by omega
  have hne2 : w2.heap.size ≠ g1 := by omega
  have HS0 := Lib.hid (show w6.heap[g1]? = some (Obj.cells (bA (zx (sealed xs) (pat ys lb (la + 4)) 0 ++ (sealed xs).drop 0)) 5 (0, 0)) by rw [HH6.out]; simp [zx])
  clear HT5 Hb5 Hh1 Hb6 hB5 HH6
  generalize hps : pat ys lb (la + 4) = qs at *
  generalize hss : sealed xs = ss at *
  have Hps := Lib.hid hps
  have Hss := Lib.hid hss
  clear hps hss
  generalize w5.heap.size = gq at *
  go_loopw [39] (fun i wr => ∃ k : Nat, k ≤ la + 4 ∧ i = .int .i64 k ∧ wr.heap[g1]? = some (Obj.cells (bA (zx ss qs k ++ ss.drop k)) 5 (0, 0)) ∧ wr.heap[gq]? = some (Obj.cells (bA qs) 5 (0, 0)) ∧ wr.heap[w2.heap.size]? = some (Obj.cells tbl 26 (0, 0)) ∧ Below w.heap.size w wr) (fun i _ => la + 4 - (intOf i).toNat)
  case atStart => exact ⟨0, Nat.zero_le _, rfl, HS0.out, HG6.out, HT6.out, hB6⟩
  case round =>
    obtain ⟨k, hk, rfl, hg, hgq, hgt, hbw⟩ := hrel
    have Hg := Lib.hid hg
    have Hgq := Lib.hid hgq
    have Hgt := Lib.hid hgt
    have Hbw := Lib.hid hbw
    clear hg hgq hgt hbw HS0 HG6 HT6 hB6
    by_cases hlt : k < la + 4
    · have cA : wr.cell? ⟨g1, k, none⟩ = some (.int .u8 (ss.getD k 0 : Nat)) := by
        rw [cell_of_row wr _ _ _ _ _ Hg.out, bA_at _ _ (by rw [List.length_append, zx_length, List.length_drop, hsl.out]; omega), zx_put_at ss qs (la + 4) k hlt hsl.out]
      have cB : wr.cell? ⟨gq, k, none⟩ = some (.int .u8 (qs.getD k 0 : Nat)) := by
        rw [cell_of_row wr _ _ _ _ _ Hgq.out, bA_at _ _ (by rw [hpl.out]; exact hlt)]
      have hfz : wr.frozen? ⟨g1, k, none⟩ = false := frozen_of_row wr _ _ _ _ Hg.out
      have lA := getD_lt hsb.out k
      have lB := getD_lt hpb.out k
      have hx := u8_xor_nat _ _ lA lB
      obtain ⟨v, hv⟩ : ∃ v, v = ss.getD k 0 ^^^ qs.getD k 0 := ⟨_, rfl⟩
      rw [← hv] at hx
      have Hv := Lib.hid hv
      clear hv
      generalize ss.getD k 0 = x at cA lA hx
      generalize qs.getD k 0 = y at cB lB hx
      have hk1 : (k : Int) < (la : Int) + 4 := by omega
      go_wp2_with fail
      go_region
      all_goals go_wp2_with fail
      all_goals go_roundw
      case rel =>
        refine ⟨k + 1, by omega, by go_num, ?_, ?_, ?_, ?_⟩
        · show (wr.setCell ⟨g1, k, none⟩ (.int .u8 (v : Nat))).heap[g1]? = _
          rw [heap_setCell_same _ _ _ _ _ _ Hg.out, bA_set, Hv.out, zx_put ss qs (la + 4) k hlt hsl.out]
        · show (wr.setCell ⟨g1, k, none⟩ (.int .u8 (v : Nat))).heap[gq]? = _
          rw [heap_setCell_other _ _ _ _ (Ne.symm hne)]; exact Hgq.out
        · show (wr.setCell ⟨g1, k, none⟩ (.int .u8 (v : Nat))).heap[w2.heap.size]? = _
          rw [heap_setCell_other _ _ _ _ hne2]; exact Hgt.out
        · exact (Hbw.out.setCell hwg _).drew
      case measure => simp [intOf]; omega
    · have hkN : k = la + 4 := by omega
      have hGz : wr.heap[g1]? = some (Obj.cells (bA (zx ss qs (la + 4))) 5 (0, 0)) := by
        have := Hg.out
        rw [hkN, List.drop_of_length_le (by rw [hsl.out]; exact Nat.le_refl _), List.append_nil] at this
        exact this
      have hzb : ∀ c ∈ zx ss qs (la + 4), c < 256 := zx_lt hsb.out hpb.out _
      have hrz := row_bA hGz hzb (by rw [zx_length]; unfold maxLen; omega)
      rw [zx_length] at hrz
      have hrq := row_bA Hgq.out hpb.out (by rw [hpl.out]; unfold maxLen; omega)
      rw [hpl.out] at hrq
      have Hrz := Lib.hid hrz
      have Hrq := Lib.hid hrq
      have hspec := pattern_spec xs qs la hxb.out hpb.out hxl.out hpl.out
      rw [Hss.out] at hspec
      have Hspec := Lib.hid hspec
      have HqQ := Hq.out
      have HqF := Lib.hid HqQ
      clear hGz hzb hrz hrq hspec HqQ Hg Hgq
      go_wp2_with (refine wpList_load_row rfl 26 _ rfl w2.heap.size rfl 26 tbl (0, 0) _ Hgt.out Try.underlying26 rfl info_tbl ?_; go_frame)
      refine (open_ok _ _ _ _ _ Hrz.out (by omega) (by rw [Nat.add_sub_cancel]; exact Hspec.out.2 HqF.out) (by omega)).mono ?_
      rw [Nat.add_sub_cancel]
      rintro e w7 ⟨gy, rfl, hgy, hhy, hb7⟩
      clear hhy
      go_wp2_with fail
      refine (div_all _ _ _ _ _ (Hrq.out.below hb7) (by omega)).mono ?_
      rintro e w8 ⟨rfl, hb8⟩
      rw [decide_eq_true HqF.out]
      go_wp2_with fail
      go_ret
      exact ⟨rfl, bthen Hbw.out (bthen hb7 hb8)⟩

theorem walkCrcPatterns (a : Option Addr) (la ca : Nat) (xs : List Nat) (b : Option Addr) (lb cb : Nat) (ys : List Nat) (w : World) (ha : RowB w a la ca xs) (hb : RowB w b lb cb ys) :
    Calls Try.prog 5 #[.slice a la ca, .slice b lb cb] w fun e w' => e = .returned (.bool true) ∧ Below w.heap.size w w' := by
  by_cases ho : 100 < la ∨ 104 < lb
  · have m1 := ha.max
    have m2 := ha.le
    have m3 := hb.max
    have m4 := hb.le
    unfold maxLen at m1 m3
    exact walkPatterns_out a la ca b lb cb w (by omega) (by omega) ho
  · by_cases hq : ovr 0 (pat ys lb (la + 4)) = 0
    · exact walkPatterns_ok a la ca xs b lb cb ys w ha hb (by omega) (by omega) hq
    · exact walkPatterns_bad a la ca xs b lb cb ys w ha hb (by omega) (by omega) hq

end Go.Proofs.Ytnfiklmlmobchaa
