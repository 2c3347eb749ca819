/-
  Layer 5 (geom): the laws' anchor.
-/
import Derived.Test.YtkjjhcpfblhijaaGeomG
namespace Go.Proofs.Ytkjjhcpfblhijaa
open Go.RowKit Go.Shelf
attribute [local go_sem] Oper.semAt_some
set_option linter.unusedVariables false
set_option linter.unnecessarySimpa false
set_option linter.unusedSimpArgs false

def ge0 : GeR := ⟨0, 0, 0, 0, 0, 0⟩
/-- The document's example. -/
def geM : GeR := ⟨3, 8, 8, 12, 0, 4⟩
theorem geM_right : gB geM = true := by decide
theorem geM_lim : Lim geM := gB_lim geM_right
theorem zero_ge (w : World) : (zeroValue 23).run Try.prog w = .ok (.agg (geA ge0)) w := by kernel_rfl
/-- What a loop has added up. -/
def sumW (xs : List Int) : Int := xs.foldl (fun s x => wrap64 (s + x)) 0
theorem sumW_snoc (pre : List Int) (x : Int) : sumW (pre ++ [x]) = wrap64 (sumW pre + x) := by simp [sumW]
theorem sum_zo : sumW (zoI geM 2) = 156 := by decide +kernel

theorem bthen' {w w1 w2 : World} (h : Below w.heap.size w w1) (k : Below w1.heap.size w1 w2) : Below w.heap.size w w2 := h.trans (k.mono h.size)
theorem blk_one {w : World} {g : Nat} {t : TypeId} {v : Value} (h : Blk w g t #[v]) : w.cell? ⟨g, 0, none⟩ = some v := h.cell 0
theorem blk_set1 {w : World} {g : Nat} {t : TypeId} {v : Value} (h : Blk w g t #[v]) (u : Value) : Blk (w.setCell ⟨g, 0, none⟩ u) g t #[u] := h.set 0 u

set_option maxRecDepth 100000 in
set_option maxHeartbeats 4000000 in
theorem anchor5_any (w : World) :
    Calls Try.prog 7 #[] w fun e w' => e = .returned (.bool true) ∧ Below w.heap.size w w' := by
  have hz := zero_ge
  have hM0 := Blk.new w 23 (geA geM)
  have HM0 := Lib.hid (hM0.alloc (Obj.cells #[.int .i64 0] 3))
  have hN0 := Blk.new (w.alloc (Obj.cells (geA geM) 23)) 3 #[.int .i64 0]
  rw [show (w.alloc (Obj.cells (geA geM) 23)).heap.size = w.heap.size + 1 by simp] at hN0
  have HN0 := Lib.hid hN0
  have HB0 := Lib.hid (bthen (below_alloc w (Obj.cells (geA geM) 23)) (below_alloc _ (Obj.cells #[.int .i64 0] 3)))
  clear hM0 hN0
  refine calls_marks Try.func7 rfl ?_
  simp only [Try.ntmps7, List.size_toArray, List.length_cons, List.length_nil, Nat.reduceAdd, Nat.reduceSub, Array.replicate_succ, Array.replicate_zero, List.push_toArray, List.append_toArray, List.nil_append, List.cons_append]
  go_upto_region 3 with (first | (refine wpl_build (by rfl) 23 _ rfl (.agg (geA geM)) (fun _ => by kernel_rfl) ?_; go_frame) | (refine wpl_store_new rfl _ _ rfl (geA geM) w 23 (geA ge0) rfl rfl rfl (info_geA _) rfl (geA_one _) ?_; go_frame))
  clear hz
  generalize (w.alloc (Obj.cells (geA geM) 23)).alloc (Obj.cells #[.int .i64 0] 3) = w0 at *
  go_wp2_with (first | (refine wpl_load_g (by rfl) _ rfl (w.heap.size) rfl _ _ _ HM0.out Try.underlying23 rfl (info_geA geM) ?_; go_frame))
  refine (right_any geM _).mono ?_
  rintro e w1 ⟨rfl, hb1⟩
  rw [geM_right]
  have HM1 := Lib.hid (HM0.out.below hb1 HM0.out.lt)
  have HN1 := Lib.hid (HN0.out.below hb1 HN0.out.lt)
  have HB1 := Lib.hid (bthen HB0.out hb1)
  clear HM0 HN0 HB0 hb1
  go_wp2_with (first | (refine wpl_load_g (by rfl) _ rfl (w.heap.size) rfl _ _ _ HM1.out Try.underlying23 rfl (info_geA geM) ?_; go_frame))
  refine (in_any geM 2 _).mono ?_
  rintro e w2 ⟨rfl, rfl⟩
  have hM2 := (HM1.out.alloc (Obj.cells (geA geM) 23)).alloc (Obj.cells #[.int .i64 2] 3)
  have hN2 := (HN1.out.alloc (Obj.cells (geA geM) 23)).alloc (Obj.cells #[.int .i64 2] 3)
  have hB2 := bthen HB1.out (bthen (below_alloc w1 (Obj.cells (geA geM) 23)) (below_alloc _ (Obj.cells #[.int .i64 2] 3)))
  have hG2 := (Blk.new w1 23 (geA geM)).alloc (Obj.cells #[.int .i64 2] 3)
  have hD2 := Blk.new (w1.alloc (Obj.cells (geA geM) 23)) 3 #[.int .i64 2]
  rw [show (w1.alloc (Obj.cells (geA geM) 23)).heap.size = w1.heap.size + 1 by simp] at hD2
  go_wp2_with fail
  generalize (w1.alloc (Obj.cells (geA geM) 23)).alloc (Obj.cells #[.int .i64 2] 3) = w2 at *
  clear HM1 HN1 HB1
  refine wp_range (zs := zoI geM 2) (w0 := w2) rfl (enters_of Try.func26 (by kernel_rfl) rfl) (in_gives _ _ geM 2 7 (by decide) geM_lim w2 (blk_one hD2) hG2 hD2.lt) (Below.refl _ _) rfl
    (fun pre W => (Blk W (w.heap.size + 1) 3 #[.int .i64 (sumW pre)] ∧ Blk W w.heap.size 23 (geA geM)) ∧ Below w.heap.size w W) (fun _ _ _ => False)
    (OwnFrom.and (OwnFrom.and (Own.from (blk_own _ _ _) _) (Own.from (blk_own _ _ _) _)) (ownFrom_below (Nat.le_refl _) hB2.size)) (fun _ _ _ _ _ hs _ _ => hs) ⟨⟨hN2, hM2⟩, hB2⟩ ?a1 ?assign ?body ?done ?stop
  case assign =>
    intro l x W K hK
    gi_wp2
    exact hK
  case body =>
    rintro l pre x W ⟨⟨hN, hM⟩, hB⟩ _
    have cN := blk_one hN
    have fN := hN.frozen 0
    gi_wp2
    exact ⟨KeepsOthers.setCell _ _ _, trivial, ⟨by rw [sumW_snoc]; exact blk_set1 hN _, hM.far (by simp) _⟩, hB.setCell (p := ⟨w.heap.size + 1, 0, none⟩) (by simp) _⟩
  case stop =>
    rintro D c pre W _ _ h _
    exact h.elim
  case done =>
    rintro D W hD ⟨⟨hN, hM⟩, hB⟩ hK
    rw [sum_zo] at hN
    have HK0 := Lib.hid (Marks.cons (Marks.nil w.heap.size w2) hB2.size hD hK (Marks.nil _ W))
    have HM0 := Lib.hid hM
    have HN0 := Lib.hid hN
    have HB0 := Lib.hid hB
    clear hK hM hN hB hM2 hN2 hB2 hG2 hD2
    go_wp2_with (first | (refine wpl_load_g (by rfl) _ rfl (w.heap.size) rfl _ _ _ HM0.out Try.underlying23 rfl (info_geA geM) ?_; go_frame))
    refine (right_any geM _).mono ?_
    rintro e W1 ⟨rfl, hb⟩
    rw [geM_right]
    have HM1 := Lib.hid (HM0.out.below hb HM0.out.lt)
    have HN1 := Lib.hid (HN0.out.below hb HN0.out.lt)
    have HB1 := Lib.hid (bthen' HB0.out hb)
    have HK1 := Lib.hid (HK0.out.mono (keepsOthers_below hb))
    clear HM0 HN0 HB0 HK0 hb
    go_wp2_with (first | (refine wpl_load_g (by rfl) _ rfl (w.heap.size) rfl _ _ _ HM1.out Try.underlying23 rfl (info_geA geM) ?_; go_frame))
    refine (all_any geM _ geM_lim).mono ?_
    rintro e W2 ⟨rfl, hb⟩
    rw [show allI geM = 24 from rfl]
    have HM2 := Lib.hid (HM1.out.below hb HM1.out.lt)
    have HN2 := Lib.hid (HN1.out.below hb HN1.out.lt)
    have HB2 := Lib.hid (bthen' HB1.out hb)
    have HK2 := Lib.hid (HK1.out.mono (keepsOthers_below hb))
    clear HM1 HN1 HB1 HK1 hb
    go_wp2_with (first | (refine wpl_load_g (by rfl) _ rfl (w.heap.size) rfl _ _ _ HM2.out Try.underlying23 rfl (info_geA geM) ?_; go_frame))
    refine (parts_any geM _ geM_lim).mono ?_
    rintro e W3 ⟨rfl, hb⟩
    rw [show parI geM = 7 from rfl]
    have HM3 := Lib.hid (HM2.out.below hb HM2.out.lt)
    have HN3 := Lib.hid (HN2.out.below hb HN2.out.lt)
    have HB3 := Lib.hid (bthen' HB2.out hb)
    have HK3 := Lib.hid (HK2.out.mono (keepsOthers_below hb))
    clear HM2 HN2 HB2 HK2 hb
    have cN := blk_one HN3.out
    go_wp2_with fail
    refine leave_marks HK3.out (fun w' hw' => ⟨_, results_tmp rfl _ _ _, rfl, HB3.out.trans hw'.bel⟩)

end Go.Proofs.Ytkjjhcpfblhijaa
