/-
  Layer 9 (queue): the document's list: Put, Take, Even.
-/
import Derived.Test.YtcdfolphbabaoaaQueueR
namespace Go.Proofs.Ytcdfolphbabaoaa
open Go.RowKit Go.Shelf
set_option linter.unusedVariables false
set_option linter.unnecessarySimpa false
set_option linter.unusedSimpArgs false

set_option maxRecDepth 100000 in
set_option maxHeartbeats 2000000 in
theorem rput_full {w : World} {a : Option Addr} {cap : Nat} {zs : List Int} (room : Nat) (x : Int) (h : RowI w a cap zs) (hl : room ≤ zs.length) : Calls Try.prog 9 #[.slice a zs.length cap, .int .i64 (room : Nat), .int .i64 x] w fun e w' => e = .returned (.tuple #[.slice a zs.length cap, .int .i64 17]) ∧ w = w' := by
  have k1 := h.le
  have k2 := h.max
  unfold maxLen at k2
  have hd : decide ((room : Int) ≤ (zs.length : Int)) = true := decide_eq_true (by omega)
  go_enter Try.func9, Try.ntmps9
  go_wp2
  go_ret2
  exact ⟨rfl, rfl⟩
set_option maxRecDepth 100000 in
set_option maxHeartbeats 2000000 in
theorem rput_room {w : World} {a : Option Addr} {cap : Nat} {zs : List Int} (room : Nat) (x : Int) (h : RowI w a cap zs) (hl : zs.length < room) (h4 : room ≤ 4096) : Calls Try.prog 9 #[.slice a zs.length cap, .int .i64 (room : Nat), .int .i64 x] w fun e w' => ∃ a' cap', e = .returned (.tuple #[.slice a' (zs ++ [x]).length cap', .int .i64 0]) ∧ RowI w' a' cap' (zs ++ [x]) ∧ Below w.heap.size w w' := by
  have k1 := h.le
  have k2 := h.max
  unfold maxLen at k2
  have hd : decide ((room : Int) ≤ (zs.length : Int)) = false := decide_eq_false (by omega)
  have H := Lib.hid h
  clear h
  go_enter Try.func9, Try.ntmps9
  go_upto_region 5 with (refine wpl_appendV elI rfl (.tmp 14) (.tmp 15) rfl w.heap.size (.slice none 0 0) 0 [] rfl (own_nil _ _ _) a zs.length cap (zvals zs) rfl (zvals_length _) H.out.src.1 H.out.src.2 (zvals_one _) (by omega) (Nat.le_refl _) ?_; intro v1 w2 hown hgr hv1; rw [Nat.zero_add, List.nil_append] at hown; obtain ⟨a1, cp1, rfl⟩ := own_slice hown; have HO1 := Lib.hid hown; have HB1 := Lib.hid (show Below w.heap.size w w2 from (Below.refl _ _).grown hgr (Nat.le_refl _) (fun k e => by simp [Value.ownBlock] at e)); clear hown hgr hv1; go_frame)
  have HO2 := Lib.hid (own_below HO1.out (below_alloc w2 (Obj.cells #[.int .i64 x] 3)))
  have HB2 := Lib.hid (bthen HB1.out (below_alloc w2 (Obj.cells #[.int .i64 x] 3)))
  go_wp2_with (refine wpl_appendV elI rfl (.tmp 17) (.tmp 19) rfl w.heap.size _ _ _ rfl HO2.out (some ⟨w2.heap.size, 0, none⟩) 1 1 [.int .i64 x] rfl rfl (fun e => by cases e) (src_one _ _ _) (by intro u hu; rcases List.mem_singleton.1 hu with rfl; rfl) (by omega) HB2.out.size ?_; intro v2 w3 hown hgr hv2; obtain ⟨a2, cp2, rfl⟩ := own_slice hown; have HO3 := Lib.hid hown; have HB3 := Lib.hid (show Below w.heap.size w w3 from HB2.out.grown hgr (HB2.out.size) (fun k e => own_ge HO2.out k e)); clear hown hgr hv2; go_frame)
  go_ret2
  have hl1 : (zs ++ [x]).length = zs.length + 1 := by simp
  rw [hl1]
  exact ⟨a2, cp2, rfl, RowI.own (n := zs.length + 1) (by rw [zvals_append]; exact HO3.out) hl1, HB3.out⟩
set_option maxRecDepth 100000 in
set_option maxHeartbeats 2000000 in
theorem rtake_none {w : World} {a : Option Addr} {cap : Nat} : Calls Try.prog 11 #[.slice a 0 cap] w fun e w' => e = .returned (.tuple #[.slice a 0 cap, .int .i64 0, .int .i64 15]) ∧ w = w' := by
  go_enter Try.func11, Try.ntmps11
  go_wp2
  go_ret3
  exact ⟨rfl, rfl⟩
set_option maxRecDepth 100000 in
set_option maxHeartbeats 2000000 in
theorem rtake_some {w : World} {a : Option Addr} {cap : Nat} {x : Int} {l : List Int} (h : RowI w a cap (x :: l)) : Calls Try.prog 11 #[.slice a (x :: l).length cap] w fun e w' => ∃ a' cap', e = .returned (.tuple #[.slice a' l.length cap', .int .i64 x, .int .i64 0]) ∧ RowI w' a' cap' l ∧ Below w.heap.size w w' := by
  have k1 := h.le
  have k2 := h.max
  unfold maxLen at k2
  obtain ⟨g, off, cs, rfl, hb, hc⟩ := h.at_ (by simp)
  have HC : Hid (cs[off]? = some (.int .i64 x)) := Lib.hid (by have := hc 0 (by simp); simpa using this)
  have HB := Lib.hid hb
  have H := Lib.hid h
  have ht := h.tail
  obtain ⟨ta, hta⟩ : ∃ ta, ta = (if cap = 1 then (some ⟨g, off, none⟩ : Option Addr) else (some ⟨g, off, none⟩ : Option Addr).map (·.add 1)) := ⟨_, rfl⟩
  obtain ⟨tc, htc⟩ : ∃ tc, tc = cap - 1 := ⟨_, rfl⟩
  rw [← hta, ← htc] at ht
  have HTe : Hid (Value.slice (if cap = 1 then (some ⟨g, off, none⟩ : Option Addr) else (some ⟨g, off, none⟩ : Option Addr).map (·.add 1)) ((x :: l).length - 1) (cap - 1) = .slice ta l.length tc) := Lib.hid (by rw [← hta, ← htc]; rfl)
  have HT := Lib.hid ht
  clear ht hta htc
  have hd : decide (((x :: l).length : Int) = 0) = false := decide_eq_false (by simp; omega)
  have hd' : ((((x :: l).length : Nat) : Int) == 0) = false := by simp; omega
  clear h hb hc
  go_enter Try.func11, Try.ntmps11
  go_upto_region 3 with fail
  refine wp_region_held (S := fun w' => Below w.heap.size w w') (by kernel_rfl) ?_
  change wpAnyH _ _ _ _ _ _ _ _ (World.drew _)
  have hS : Below w.heap.size w w.drew := (Below.refl _ _).drew
  refine takeH hS (i := 0) (d := 9) (v := .slice (some ⟨g, off, none⟩) ((x :: l).length) (cap)) rfl rfl (by kernel_rfl) (by kernel_rfl) (by kernel_rfl) (fun _ _ _ h => h) (Or.inl ⟨by kernel_rfl, fun w' hw' => by kernel_rfl⟩) ?_
  refine takeH hS (i := 1) (d := 10) (v := .slice (ta) (l.length) (tc)) rfl rfl (by kernel_rfl) (by kernel_rfl) (by kernel_rfl) (fun _ _ _ h => h) (Or.inl ⟨by kernel_rfl, fun w' hw' => by exact (exec_sliceF1 elI _ _ rfl (some ⟨g, off, none⟩) (x :: l).length cap rfl rfl (by simp) H.out.le).trans (by rw [HTe.out])⟩) ?_
  refine takeH hS (i := 2) (d := 11) (v := .slice (some ⟨g, off, none⟩) ((x :: l).length) (cap)) rfl rfl (by kernel_rfl) (by kernel_rfl) (by kernel_rfl) (fun _ _ _ h => h) (Or.inl ⟨by kernel_rfl, fun w' hw' => by kernel_rfl⟩) ?_
  refine takeH hS (i := 3) (d := 12) (v := .pointer (some ⟨g, off, none⟩)) rfl rfl (by kernel_rfl) (by kernel_rfl) (by kernel_rfl) (fun _ _ _ h => h) (Or.inl ⟨by kernel_rfl, fun w' hw' => by exact exec_index0 elI _ _ rfl g off (x :: l).length cap rfl rfl (by simp)⟩) ?_
  try go_frame
  refine takeH hS (i := 4) (d := 13) (v := .int .i64 (x)) rfl rfl (by kernel_rfl) (by kernel_rfl) (by kernel_rfl) (fun _ _ _ h => h) (Or.inl ⟨by kernel_rfl, fun w' hw' => by exact exec_cell _ rfl ⟨g, off, none⟩ rfl _ Try.underlying3 ((HB.out.below hw' HB.out.lt).cell off |>.trans HC.out)⟩) ?_
  refine takeH hS (i := 5) (d := 2) (v := .slice (ta) (l.length) (tc)) rfl rfl (by kernel_rfl) (by kernel_rfl) (by kernel_rfl) (fun _ _ _ h => h) (Or.inl ⟨by kernel_rfl, fun w' hw' => by kernel_rfl⟩) ?_
  refine takeH hS (i := 6) (d := 3) (v := .int .i64 (x)) rfl rfl (by kernel_rfl) (by kernel_rfl) (by kernel_rfl) (fun _ _ _ h => h) (Or.inl ⟨by kernel_rfl, fun w' hw' => by kernel_rfl⟩) ?_
  refine takeH hS (i := 7) (d := 4) (v := .int .i64 (0)) rfl rfl (by kernel_rfl) (by kernel_rfl) (by kernel_rfl) (fun _ _ _ h => h) (Or.inl ⟨by kernel_rfl, fun w' hw' => by kernel_rfl⟩) ?_
  try go_frame
  refine wpAnyH_done (by kernel_rfl) ?_ _
  try go_frame
  go_wp2_with fail
  go_ret3
  exact ⟨_, _, rfl, HT.out.below hS, hS⟩
set_option maxRecDepth 100000 in
set_option maxHeartbeats 4000000 in
theorem reven {w : World} {a : Option Addr} {cap : Nat} {zs : List Int} (h : RowI w a cap zs) (h4 : zs.length ≤ 4096) : Calls Try.prog 13 #[.slice a zs.length cap] w fun e w' => ∃ a' cap', e = .returned (.slice a' (zs.filter evB).length cap') ∧ RowI w' a' cap' (zs.filter evB) ∧ Below w.heap.size w w' := by
  have k1 := h.le
  have k2 := h.max
  unfold maxLen at k2
  have H := Lib.hid h
  clear h
  go_enter Try.func13, Try.ntmps13
  go_wp2_with fail
  go_loopw [3, 4] (fun v i wr => ∃ k : Nat, k ≤ zs.length ∧ i = .int .i64 k ∧ wr.ownsRow w.heap.size 3 1 v ((zs.take k).filter evB).length (zvals ((zs.take k).filter evB)) ∧ Below w.heap.size w wr) (fun _ i _ => zs.length - (intOf i).toNat)
  case atStart => exact ⟨0, Nat.zero_le _, rfl, own_nil _ _ _, Below.refl _ _⟩
  case round =>
    obtain ⟨k, hk, rfl, hv, hB⟩ := hrel
    obtain ⟨av, cv, rfl⟩ := own_slice hv
    have HV := Lib.hid hv
    have HB := Lib.hid hB
    clear hv hB
    by_cases hlt : k < zs.length
    · obtain ⟨g, off, rfl, hc⟩ := (H.out.below HB.out).cell k hlt
      have e1 := take_snoc_int zs k hlt
      have hln : ((zs.take k).filter evB).length ≤ 4096 := Nat.le_trans (List.length_filter_le _ _) (by rw [List.length_take]; omega)
      generalize zs.getD k 0 = x at *
      have E1 := Lib.hid e1
      clear e1
      cases hf : evB x with
      | true =>
        have E2 : Hid ((zs.take (k + 1)).filter evB = (zs.take k).filter evB ++ [x]) := Lib.hid (by rw [E1.out, List.filter_append]; simp [hf])
        unfold evB at hf
        generalize (zs.take k).filter evB = fl at *
        have HVb := Lib.hid (own_below HV.out (below_alloc wr (Obj.cells #[.int .i64 x] 3)))
        have HBb := Lib.hid (bthen HB.out (below_alloc wr (Obj.cells #[.int .i64 x] 3)))
        go_wp2_with (refine wpl_appendV elI rfl (.tmp 17) (.tmp 22) rfl w.heap.size _ _ _ rfl HVb.out (some ⟨wr.heap.size, 0, none⟩) 1 1 [.int .i64 x] rfl rfl (fun e => by cases e) (src_one _ _ _) (by intro u hu; rcases List.mem_singleton.1 hu with rfl; rfl) (by omega) HBb.out.size ?_; intro v2 w3 hown hgr hv2; have HV3 := Lib.hid hown; have HB3 := Lib.hid (show Below w.heap.size w w3 from HBb.out.grown hgr (HBb.out.size) (fun k e => own_ge HVb.out k e)); clear hown hgr hv2; go_frame)
        go_roundw
        case rel => exact ⟨k + 1, by omega, by go_num, by rw [E2.out, zvals_append, List.length_append]; exact HV3.out, HB3.out⟩
        case measure => simp [intOf]; omega
      | false =>
        have E2 : Hid ((zs.take (k + 1)).filter evB = (zs.take k).filter evB) := Lib.hid (by rw [E1.out, List.filter_append]; simp [hf])
        unfold evB at hf
        go_wp2_with fail
        go_roundw
        case rel => exact ⟨k + 1, by omega, by go_num, by rw [E2.out]; exact HV.out, HB.out⟩
        case measure => simp [intOf]; omega
    · obtain rfl : k = zs.length := by omega
      rw [List.take_length] at HV
      rw [List.take_length]
      go_wp2_with fail
      go_ret
      exact ⟨av, cv, rfl, RowI.own HV.out rfl, HB.out⟩

end Go.Proofs.Ytcdfolphbabaoaa
