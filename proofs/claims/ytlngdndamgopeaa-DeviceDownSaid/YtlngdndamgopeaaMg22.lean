import Derived.Test.YtlngdndamgopeaaMg21
import Derived.Deep.Slices
import Derived.Deep.Fields
import Derived.ChangeSame
/-
  Layer 7 (zdev): a step of both: kind 5, 6, 7.
-/
namespace Go.Proofs.Ytlngdndamgopeaa
open Go.RowKit
set_option linter.unusedVariables false
set_option linter.unnecessarySimpa false
set_option linter.unusedSimpArgs false


set_option maxRecDepth 100000 in
set_option maxHeartbeats 4000000 in
theorem st7_5 {lo D : Nat} {w wA : World} {vz v7 : Value} {d : DvR} {l : List ZcR} (o : Op7) (ho : Op7Ok wA o) (hbA : Below wA.heap.size wA w) (hloA : wA.heap.size ≤ lo) (h : DvAt lo w D vz d l) (hD : Doc lo w v7 (l.map ZcR.z)) (hn : 0 ≤ d.count ∧ d.count ≤ 1000000) (hl : l.length ≤ 1000) (hk : o.k = 5) :
    Calls Try.prog 12 #[.pointer (some ⟨D, 0, none⟩), .agg (d7A (dd7 d) v7), .agg (opA o)] w (STo7 lo w D vz l (flSp d (l.map ZcR.z))) := by
  obtain ⟨a7, n7, c7, rfl⟩ : ∃ a n c, v7 = .slice a n c := by
    obtain ⟨l7, r, _⟩ := hD
    obtain ⟨a, c, e⟩ := own_slice r.own
    exact ⟨a, _, c, e⟩
  have HS : Hid (Trio7 31 37 31 w (d7A (dd7 d) (.slice a7 n7 c7)) (opA o) d7Z (((w.alloc (Obj.cells (d7A (dd7 d) (.slice a7 n7 c7)) 31)).alloc (Obj.cells (opA o) 37)).alloc (Obj.cells #[.slice none 0 0, .int .i64 0, .int .i64 0, .int .i64 0, .bool false] 31))) := Lib.hid Trio7.start
  have HA := Lib.hid (h.below HS.out.b)
  have HD := Lib.hid (hD.below HS.out.b)
  have Hsn := Lib.hid (h.sane hl)
  have Hlo := Lib.hid (show lo ≤ w.heap.size by have := h.blk.lt; have := h.le; omega)
  have Ho := Lib.hid ho
  have Hn := Lib.hid hn
  have HbA := Lib.hid hbA
  have HloA := Lib.hid hloA
  have c0 : (((w.alloc (Obj.cells (d7A (dd7 d) (.slice a7 n7 c7)) 31)).alloc (Obj.cells (opA o) 37)).alloc (Obj.cells #[.slice none 0 0, .int .i64 0, .int .i64 0, .int .i64 0, .bool false] 31)).cell? ⟨w.heap.size + 1, 0, none⟩ = some (.int .i64 5) := (HS.out.y.cell 0).trans ((opA_0 o).trans (by rw [hk]))
  clear h hD ho hn hbA hloA
  go_enter Try.func12, Try.ntmps12
  go_upto_region 1 with fail
  generalize (((w.alloc (Obj.cells (d7A (dd7 d) (.slice a7 n7 c7)) 31)).alloc (Obj.cells (opA o) 37)).alloc (Obj.cells #[.slice none 0 0, .int .i64 0, .int .i64 0, .int .i64 0, .bool false] 31)) = w0 at *
  have c1 : w0.cell? ⟨w.heap.size + 1, 1, none⟩ = some (.int .i64 o.z) := (HS.out.y.cell 1).trans (opA_1 o)
  have c2 : w0.cell? ⟨w.heap.size + 1, 2, none⟩ = some (.int .i64 o.off) := (HS.out.y.cell 2).trans (opA_2 o)
  have hl0 : lo ≤ w0.heap.size := by have := HS.out.g.lt; have := Hlo.out; omega
  have Hl0 := Lib.hid hl0
  clear hl0
  clear hk
  go_wp2_with (first | (refine wpl_load rfl _ rfl (w.heap.size) rfl _ _ _ (HS.out.x) Try.underlying31 rfl Try.info7D ?_; go_frame) | (refine wpl_load_mid (by rfl) 34 _ rfl (w.heap.size + 1) 3 rfl o.s _ (op_range HS.out.y) Try.underlying34 rfl (by rw [bvals_length]; exact (info_sec Ho.out.len).trans (by rw [bA_size])) ?_; go_frame))
  refine (gfl7 HD.out Hsn.out Hn.out Hl0.out).mono ?_
  rintro e w2 ⟨v8, rfl, hd8, hb⟩
  obtain ⟨a8, n8, c8, rfl⟩ : ∃ a n c, v8 = .slice a n c := by
    obtain ⟨l8, r, _⟩ := hd8
    obtain ⟨a, c, e⟩ := own_slice r.own
    exact ⟨a, _, c, e⟩
  have HS2 := Lib.hid (HS.out.below hb)
  have HA2 := Lib.hid (HA.out.below hb)
  have HD2 := Lib.hid hd8
  clear hb hd8 c0 c1 c2
  go_upto_region 18 with (first | (refine wpl_store_new rfl _ _ rfl (d7A (dd7 (flSp d (l.map ZcR.z)).d) (.slice a8 n8 c8)) w2 31 d7Z rfl rfl rfl Try.info7D rfl (d7A_one _ _ _ _) ?_; go_frame))
  have HY := Lib.hid (Blk.new w2 31 (d7A (dd7 (flSp d (l.map ZcR.z)).d) (.slice a8 n8 c8)))
  have hb3 := below_alloc w2 (Obj.cells (d7A (dd7 (flSp d (l.map ZcR.z)).d) (.slice a8 n8 c8)) 31)
  have HS3 := Lib.hid (HS2.out.below hb3)
  have HA3 := Lib.hid (HA2.out.below hb3)
  have HD3 := Lib.hid (HD2.out.below hb3)
  have HYl := Lib.hid HS2.out.g.lt
  clear hb3 HS HS2 HA HA2 HD HD2
  generalize w2.alloc (Obj.cells (d7A (dd7 (flSp d (l.map ZcR.z)).d) (.slice a8 n8 c8)) 31) = w3 at *
  refine wp_region_held (S := fun w' => Blk w' w2.heap.size 31 (d7A (dd7 (flSp d (l.map ZcR.z)).d) (.slice a8 n8 c8)) ∧ Blk w' (w.heap.size + 1) 37 (opA o)) (by kernel_rfl) ?_
  change wpAnyH _ _ _ _ _ _ _ _ (World.drew _)
  have hS : Blk w3.drew w2.heap.size 31 (d7A (dd7 (flSp d (l.map ZcR.z)).d) (.slice a8 n8 c8)) ∧ Blk w3.drew (w.heap.size + 1) 37 (opA o) := ⟨HY.out, HS3.out.y⟩
  refine takeH hS (i := 0) (d := 129) (v := .agg (d7A (dd7 (flSp d (l.map ZcR.z)).d) (.slice a8 n8 c8))) rfl rfl (by kernel_rfl) (by kernel_rfl) (by kernel_rfl) (fun _ _ _ h => h) (Or.inl ⟨by kernel_rfl, fun w' hw' => by exact exec_load _ rfl (w2.heap.size) rfl hw'.1 Try.underlying31 rfl Try.info7D⟩) ?_
  refine takeH hS (i := 1) (d := 130) (v := .pointer (some ⟨D, 0, none⟩)) rfl rfl (by kernel_rfl) (by kernel_rfl) (by kernel_rfl) (fun _ _ _ h => h) (Or.inl ⟨by kernel_rfl, fun w' hw' => by kernel_rfl⟩) ?_
  refine takeH hS (i := 3) (d := 132) (v := .int .i64 ((flSp d (l.map ZcR.z)).e)) rfl rfl (by kernel_rfl) (by kernel_rfl) (by kernel_rfl) (fun _ _ _ h => h) (Or.inl ⟨by kernel_rfl, fun w' hw' => by kernel_rfl⟩) ?_
  try go_frame
  try go_frame
  have hbd : Below w3.heap.size w3 w3.drew := (Below.refl _ _).drew
  have HA4 := Lib.hid (HA3.out.below hbd)
  have HS4 := Lib.hid (HS3.out.below hbd)
  have HD4 := Lib.hid (HD3.out.below hbd)
  clear hbd HA3 HS3 HD3
  refine nextH (i := 2) rfl (by kernel_rfl) (by kernel_rfl) (fun K' hK => ?_)
  go_wp2_with fail
  refine (cfl7 HA4.out Hn.out hl).mono ?_
  rintro en w5 ⟨rfl, hT⟩
  have hS5 : Blk w5 w2.heap.size 31 (d7A (dd7 (flSp d (l.map ZcR.z)).d) (.slice a8 n8 c8)) ∧ Blk w5 (w.heap.size + 1) 37 (opA o) := ⟨hT.blk HA4.out hS.1 (by decide) (by decide) (by decide) (by decide), hT.blk HA4.out hS.2 (by decide) (by decide) (by decide) (by decide)⟩
  have HN := Lib.hid (HS4.out.cmd (R := flSp d (l.map ZcR.z)) HA4.out HD4.out hT)
  refine hK.out _ _ ⟨hS5, ?_⟩
  clear hK K' hS hT HA4 HS4 HD4
  try go_frame
  refine takeH hS5 (i := 4) (d := 133) (v := .bool true) rfl rfl (by kernel_rfl) (by kernel_rfl) (by kernel_rfl) (fun _ _ _ h => h) (Or.inl ⟨by kernel_rfl, fun w' hw' => by exact exec_eql _ _ rfl ((flSp d (l.map ZcR.z)).e) ((flSp d (l.map ZcR.z)).e) rfl rfl true (decide_eq_true rfl) rfl⟩) ?_
  try go_frame
  refine nextH (i := 5) rfl (by kernel_rfl) (by kernel_rfl) (fun K' hK => ?_)
  refine wpo_store _ _ rfl (w.heap.size + 2) (d7A (dd7 (flSp d (l.map ZcR.z)).d) (.slice a8 n8 c8)) rfl rfl _ _ HN.out.g (Try.info7D) rfl (d7A_one _ _ _ _) ?_
  intro w9 hSg hKg
  have HF := Lib.hid (HN.out.out hSg hKg)
  have hS6 : Blk w9 w2.heap.size 31 (d7A (dd7 (flSp d (l.map ZcR.z)).d) (.slice a8 n8 c8)) ∧ Blk w9 (w.heap.size + 1) 37 (opA o) := ⟨hS5.1.kept hKg (by have := HYl.out; omega), hS5.2.kept hKg (by omega)⟩
  refine hK.out _ _ ⟨hS6, ?_⟩
  clear hK K' hSg hKg hS5
  try go_frame
  refine takeH hS6 (i := 6) (d := 7) (v := .bool true) rfl rfl (by kernel_rfl) (by kernel_rfl) (by kernel_rfl) (fun _ _ _ h => h) (Or.inl ⟨by kernel_rfl, fun w' hw' => by kernel_rfl⟩) ?_
  try go_frame
  refine wpAnyH_done (by kernel_rfl) ?_ _
  go_wp2_with fail
  exact bodyPost_ret (v := .tuple #[.agg (d7A (dd7 (flSp d (l.map ZcR.z)).d) (.slice a8 n8 c8)), .bool true]) (results_cell_slot Try.results12 _ _ (w.heap.size + 2) 31 _ _ _ rfl rfl HF.out.g Try.underlying31 rfl Try.info7D) rfl ⟨_, rfl, HF.out.doc, HF.out.dv⟩

set_option maxRecDepth 100000 in
set_option maxHeartbeats 4000000 in
theorem st7_6 {lo D : Nat} {w wA : World} {vz v7 : Value} {d : DvR} {l : List ZcR} (o : Op7) (ho : Op7Ok wA o) (hbA : Below wA.heap.size wA w) (hloA : wA.heap.size ≤ lo) (h : DvAt lo w D vz d l) (hD : Doc lo w v7 (l.map ZcR.z)) (hn : 0 ≤ d.count ∧ d.count ≤ 1000000) (hl : l.length ≤ 1000) (hk : o.k = 6) :
    Calls Try.prog 12 #[.pointer (some ⟨D, 0, none⟩), .agg (d7A (dd7 d) v7), .agg (opA o)] w (STo7 lo w D vz l (crSp d (l.map ZcR.z))) := by
  obtain ⟨a7, n7, c7, rfl⟩ : ∃ a n c, v7 = .slice a n c := by
    obtain ⟨l7, r, _⟩ := hD
    obtain ⟨a, c, e⟩ := own_slice r.own
    exact ⟨a, _, c, e⟩
  have HS : Hid (Trio7 31 37 31 w (d7A (dd7 d) (.slice a7 n7 c7)) (opA o) d7Z (((w.alloc (Obj.cells (d7A (dd7 d) (.slice a7 n7 c7)) 31)).alloc (Obj.cells (opA o) 37)).alloc (Obj.cells #[.slice none 0 0, .int .i64 0, .int .i64 0, .int .i64 0, .bool false] 31))) := Lib.hid Trio7.start
  have HA := Lib.hid (h.below HS.out.b)
  have HD := Lib.hid (hD.below HS.out.b)
  have Hsn := Lib.hid (h.sane hl)
  have Hlo := Lib.hid (show lo ≤ w.heap.size by have := h.blk.lt; have := h.le; omega)
  have Ho := Lib.hid ho
  have Hn := Lib.hid hn
  have HbA := Lib.hid hbA
  have HloA := Lib.hid hloA
  have c0 : (((w.alloc (Obj.cells (d7A (dd7 d) (.slice a7 n7 c7)) 31)).alloc (Obj.cells (opA o) 37)).alloc (Obj.cells #[.slice none 0 0, .int .i64 0, .int .i64 0, .int .i64 0, .bool false] 31)).cell? ⟨w.heap.size + 1, 0, none⟩ = some (.int .i64 6) := (HS.out.y.cell 0).trans ((opA_0 o).trans (by rw [hk]))
  clear h hD ho hn hbA hloA
  go_enter Try.func12, Try.ntmps12
  go_upto_region 1 with fail
  generalize (((w.alloc (Obj.cells (d7A (dd7 d) (.slice a7 n7 c7)) 31)).alloc (Obj.cells (opA o) 37)).alloc (Obj.cells #[.slice none 0 0, .int .i64 0, .int .i64 0, .int .i64 0, .bool false] 31)) = w0 at *
  have c1 : w0.cell? ⟨w.heap.size + 1, 1, none⟩ = some (.int .i64 o.z) := (HS.out.y.cell 1).trans (opA_1 o)
  have c2 : w0.cell? ⟨w.heap.size + 1, 2, none⟩ = some (.int .i64 o.off) := (HS.out.y.cell 2).trans (opA_2 o)
  have hl0 : lo ≤ w0.heap.size := by have := HS.out.g.lt; have := Hlo.out; omega
  have Hl0 := Lib.hid hl0
  clear hl0
  clear hk
  go_wp2_with fail
  refine (dcr HA.out).mono ?_
  rintro e w1 ⟨rfl, hT⟩
  have HN := Lib.hid (HS.out.cmd (R := crSp d (l.map ZcR.z)) HA.out HD.out hT)
  clear hT c0 c1 c2
  have c4 := (HN.out.x.cell 4).trans (show (d7A (dd7 d) (.slice a7 n7 c7))[4]? = some (.bool d.down) from rfl)
  have f4 := HN.out.x.frozen 4
  go_upto_region 22 with fail
  have HX : Hid (Blk (w1.setCell ⟨w.heap.size, 4, none⟩ (.bool true)) w.heap.size 31 (d7A (dd7 (crSp d (l.map ZcR.z)).d) (.slice a7 n7 c7))) := Lib.hid (HN.out.x.set 4 _)
  have hkx := (Kept.refl (· = w.heap.size) w1).setCell (p := ⟨w.heap.size, 4, none⟩) rfl (.bool true)
  have HN2 : Hid (Aft lo D w vz l (crSp d (l.map ZcR.z)) (d7A (dd7 (crSp d (l.map ZcR.z)).d) (.slice a7 n7 c7)) (opA o) d7Z (.slice a7 n7 c7) (l.map ZcR.z) (w1.setCell ⟨w.heap.size, 4, none⟩ (.bool true))) := Lib.hid ⟨HX.out, HN.out.y.kept hkx (by omega), HN.out.g.kept hkx (by omega), HN.out.dv.keptB HN.out.x (Nat.le_refl _) (by decide) (by decide) (by decide) (by decide) hkx, HN.out.doc.keptB HN.out.x (by decide) (by decide) hkx⟩
  clear c4 f4 hkx
  generalize w1.setCell ⟨w.heap.size, 4, none⟩ (.bool true) = w2 at *
  go_wp2_with (first | (refine wpl_load rfl _ rfl (w.heap.size) rfl _ _ _ (HN2.out.x) Try.underlying31 rfl Try.info7D ?_; go_frame) | (refine wpl_store rfl _ _ rfl (w.heap.size + 2) (d7A (dd7 (crSp d (l.map ZcR.z)).d) (.slice a7 n7 c7)) rfl rfl _ _ HN2.out.g Try.info7D rfl (d7A_one _ _ _ _) ?_; intro w9 hSg hKg; have HF := Lib.hid (HN2.out.out hSg hKg); clear hSg hKg; go_frame))
  exact bodyPost_ret (v := .tuple #[.agg (d7A (dd7 (crSp d (l.map ZcR.z)).d) (.slice a7 n7 c7)), .bool true]) (results_cell_slot Try.results12 _ _ (w.heap.size + 2) 31 _ _ _ rfl rfl HF.out.g Try.underlying31 rfl Try.info7D) rfl ⟨_, rfl, HF.out.doc, HF.out.dv⟩

set_option maxRecDepth 100000 in
set_option maxHeartbeats 4000000 in
theorem st7_7 {lo D : Nat} {w wA : World} {vz v7 : Value} {d : DvR} {l : List ZcR} (o : Op7) (ho : Op7Ok wA o) (hbA : Below wA.heap.size wA w) (hloA : wA.heap.size ≤ lo) (h : DvAt lo w D vz d l) (hD : Doc lo w v7 (l.map ZcR.z)) (hn : 0 ≤ d.count ∧ d.count ≤ 1000000) (hl : l.length ≤ 1000) (hk : o.k = 7) :
    Calls Try.prog 12 #[.pointer (some ⟨D, 0, none⟩), .agg (d7A (dd7 d) v7), .agg (opA o)] w (STo7 lo w D vz l (rvSp d (l.map ZcR.z) o.ks)) := by
  obtain ⟨a7, n7, c7, rfl⟩ : ∃ a n c, v7 = .slice a n c := by
    obtain ⟨l7, r, _⟩ := hD
    obtain ⟨a, c, e⟩ := own_slice r.own
    exact ⟨a, _, c, e⟩
  have HS : Hid (Trio7 31 37 31 w (d7A (dd7 d) (.slice a7 n7 c7)) (opA o) d7Z (((w.alloc (Obj.cells (d7A (dd7 d) (.slice a7 n7 c7)) 31)).alloc (Obj.cells (opA o) 37)).alloc (Obj.cells #[.slice none 0 0, .int .i64 0, .int .i64 0, .int .i64 0, .bool false] 31))) := Lib.hid Trio7.start
  have HA := Lib.hid (h.below HS.out.b)
  have HD := Lib.hid (hD.below HS.out.b)
  have Hsn := Lib.hid (h.sane hl)
  have Hlo := Lib.hid (show lo ≤ w.heap.size by have := h.blk.lt; have := h.le; omega)
  have Ho := Lib.hid ho
  have Hn := Lib.hid hn
  have HbA := Lib.hid hbA
  have HloA := Lib.hid hloA
  have c0 : (((w.alloc (Obj.cells (d7A (dd7 d) (.slice a7 n7 c7)) 31)).alloc (Obj.cells (opA o) 37)).alloc (Obj.cells #[.slice none 0 0, .int .i64 0, .int .i64 0, .int .i64 0, .bool false] 31)).cell? ⟨w.heap.size + 1, 0, none⟩ = some (.int .i64 7) := (HS.out.y.cell 0).trans ((opA_0 o).trans (by rw [hk]))
  clear h hD ho hn hbA hloA
  go_enter Try.func12, Try.ntmps12
  go_upto_region 1 with fail
  generalize (((w.alloc (Obj.cells (d7A (dd7 d) (.slice a7 n7 c7)) 31)).alloc (Obj.cells (opA o) 37)).alloc (Obj.cells #[.slice none 0 0, .int .i64 0, .int .i64 0, .int .i64 0, .bool false] 31)) = w0 at *
  have c1 : w0.cell? ⟨w.heap.size + 1, 1, none⟩ = some (.int .i64 o.z) := (HS.out.y.cell 1).trans (opA_1 o)
  have c2 : w0.cell? ⟨w.heap.size + 1, 2, none⟩ = some (.int .i64 o.off) := (HS.out.y.cell 2).trans (opA_2 o)
  have hl0 : lo ≤ w0.heap.size := by have := HS.out.g.lt; have := Hlo.out; omega
  have Hl0 := Lib.hid hl0
  clear hl0
  clear hk
  have c67 : w0.cell? ⟨w.heap.size + 1, 67, none⟩ = some (.slice o.ka o.kl o.kc) := (HS.out.y.cell 67).trans (opA_67 o Ho.out.len)
  have hb0 : Below wA.heap.size wA w0 := HbA.out.trans (HS.out.b.mono HbA.out.size)
  have Hb0 := Lib.hid hb0
  clear hb0
  go_wp2_with fail
  refine (crv7 HA.out ⟨wA, Ho.out.keep, Hb0.out, HloA.out⟩ hl).mono ?_
  rintro e w1 ⟨rfl, hT⟩
  have HN := Lib.hid (HS.out.cmd (R := rvSp d (l.map ZcR.z) o.ks) HA.out HD.out hT)
  have Hb1 : Hid (Below wA.heap.size wA w1) := Lib.hid (by
    obtain ⟨l', _, _, k, _⟩ := hT
    exact bkept Hb0.out (Nat.le_refl _) k (fun i hi e => by have := HA.out.lov e; have := HloA.out; omega))
  clear hT c0 c1 c2 c67
  have c67 : w1.cell? ⟨w.heap.size + 1, 67, none⟩ = some (.slice o.ka o.kl o.kc) := (HN.out.y.cell 67).trans (opA_67 o Ho.out.len)
  have hl1 : lo ≤ w1.heap.size := by have := HN.out.g.lt; have := Hlo.out; omega
  go_wp2_with (first | (refine wpl_load rfl _ rfl (w.heap.size) rfl _ _ _ (HN.out.x) Try.underlying31 rfl Try.info7D ?_; go_frame))
  refine (grv7 HN.out.doc Hsn.out (Ho.out.keep.below Hb1.out) hl1).mono ?_
  rintro e w2 ⟨v8, rfl, hd8, hb⟩
  obtain ⟨a8, n8, c8, rfl⟩ : ∃ a n c, v8 = .slice a n c := by
    obtain ⟨l8, r, _⟩ := hd8
    obtain ⟨a, c, e⟩ := own_slice r.own
    exact ⟨a, _, c, e⟩
  have HN2 := Lib.hid (HN.out.told hb hd8)
  clear hb hd8 hl1 c67
  go_wp2_with (first | (refine wpl_store rfl _ _ rfl (w.heap.size + 2) (d7A (dd7 (rvSp d (l.map ZcR.z) o.ks).d) (.slice a8 n8 c8)) rfl rfl _ _ HN2.out.g Try.info7D rfl (d7A_one _ _ _ _) ?_; intro w9 hSg hKg; have HF := Lib.hid (HN2.out.out hSg hKg); clear hSg hKg; go_frame))
  exact bodyPost_ret (v := .tuple #[.agg (d7A (dd7 (rvSp d (l.map ZcR.z) o.ks).d) (.slice a8 n8 c8)), .bool true]) (results_cell_slot Try.results12 _ _ (w.heap.size + 2) 31 _ _ _ rfl rfl HF.out.g Try.underlying31 rfl Try.info7D) rfl ⟨_, rfl, HF.out.doc, HF.out.dv⟩

end Go.Proofs.Ytlngdndamgopeaa

/-
  Layer 7 (zdev): a step of both: kind 8.
-/
namespace Go.Proofs.Ytlngdndamgopeaa
open Go.RowKit
set_option linter.unusedVariables false
set_option linter.unnecessarySimpa false
set_option linter.unusedSimpArgs false


set_option maxRecDepth 100000 in
set_option maxHeartbeats 4000000 in
theorem st7_8 {lo D : Nat} {w wA : World} {vz v7 : Value} {d : DvR} {l : List ZcR} (o : Op7) (ho : Op7Ok wA o) (hbA : Below wA.heap.size wA w) (hloA : wA.heap.size ≤ lo) (h : DvAt lo w D vz d l) (hD : Doc lo w v7 (l.map ZcR.z)) (hn : 0 ≤ d.count ∧ d.count ≤ 1000000) (hl : l.length ≤ 1000) (hk : o.k = 8) :
    Calls Try.prog 12 #[.pointer (some ⟨D, 0, none⟩), .agg (d7A (dd7 d) v7), .agg (opA o)] w (STo7 lo w D vz l (faSp d (l.map ZcR.z) o.z o.off)) := by
  obtain ⟨a7, n7, c7, rfl⟩ : ∃ a n c, v7 = .slice a n c := by
    obtain ⟨l7, r, _⟩ := hD
    obtain ⟨a, c, e⟩ := own_slice r.own
    exact ⟨a, _, c, e⟩
  have HS : Hid (Trio7 31 37 31 w (d7A (dd7 d) (.slice a7 n7 c7)) (opA o) d7Z (((w.alloc (Obj.cells (d7A (dd7 d) (.slice a7 n7 c7)) 31)).alloc (Obj.cells (opA o) 37)).alloc (Obj.cells #[.slice none 0 0, .int .i64 0, .int .i64 0, .int .i64 0, .bool false] 31))) := Lib.hid Trio7.start
  have HA := Lib.hid (h.below HS.out.b)
  have HD := Lib.hid (hD.below HS.out.b)
  have Hsn := Lib.hid (h.sane hl)
  have Hlo := Lib.hid (show lo ≤ w.heap.size by have := h.blk.lt; have := h.le; omega)
  have Ho := Lib.hid ho
  have Hn := Lib.hid hn
  have HbA := Lib.hid hbA
  have HloA := Lib.hid hloA
  have c0 : (((w.alloc (Obj.cells (d7A (dd7 d) (.slice a7 n7 c7)) 31)).alloc (Obj.cells (opA o) 37)).alloc (Obj.cells #[.slice none 0 0, .int .i64 0, .int .i64 0, .int .i64 0, .bool false] 31)).cell? ⟨w.heap.size + 1, 0, none⟩ = some (.int .i64 8) := (HS.out.y.cell 0).trans ((opA_0 o).trans (by rw [hk]))
  clear h hD ho hn hbA hloA
  go_enter Try.func12, Try.ntmps12
  go_upto_region 1 with fail
  generalize (((w.alloc (Obj.cells (d7A (dd7 d) (.slice a7 n7 c7)) 31)).alloc (Obj.cells (opA o) 37)).alloc (Obj.cells #[.slice none 0 0, .int .i64 0, .int .i64 0, .int .i64 0, .bool false] 31)) = w0 at *
  have c1 : w0.cell? ⟨w.heap.size + 1, 1, none⟩ = some (.int .i64 o.z) := (HS.out.y.cell 1).trans (opA_1 o)
  have c2 : w0.cell? ⟨w.heap.size + 1, 2, none⟩ = some (.int .i64 o.off) := (HS.out.y.cell 2).trans (opA_2 o)
  have hl0 : lo ≤ w0.heap.size := by have := HS.out.g.lt; have := Hlo.out; omega
  have Hl0 := Lib.hid hl0
  clear hl0
  clear hk
  go_wp2_with (first | (refine wpl_load rfl _ rfl (w.heap.size) rfl _ _ _ (HS.out.x) Try.underlying31 rfl Try.info7D ?_; go_frame) | (refine wpl_load_mid (by rfl) 34 _ rfl (w.heap.size + 1) 3 rfl o.s _ (op_range HS.out.y) Try.underlying34 rfl (by rw [bvals_length]; exact (info_sec Ho.out.len).trans (by rw [bA_size])) ?_; go_frame))
  refine (gfa7 o.z o.off HD.out Hsn.out Hl0.out).mono ?_
  rintro e w2 ⟨v8, rfl, hd8, hb⟩
  obtain ⟨a8, n8, c8, rfl⟩ : ∃ a n c, v8 = .slice a n c := by
    obtain ⟨l8, r, _⟩ := hd8
    obtain ⟨a, c, e⟩ := own_slice r.own
    exact ⟨a, _, c, e⟩
  have HS2 := Lib.hid (HS.out.below hb)
  have HA2 := Lib.hid (HA.out.below hb)
  have HD2 := Lib.hid hd8
  clear hb hd8 c0 c1 c2
  go_upto_region 28 with (first | (refine wpl_store_new rfl _ _ rfl (d7A (dd7 (faSp d (l.map ZcR.z) o.z o.off).d) (.slice a8 n8 c8)) w2 31 d7Z rfl rfl rfl Try.info7D rfl (d7A_one _ _ _ _) ?_; go_frame))
  have HY := Lib.hid (Blk.new w2 31 (d7A (dd7 (faSp d (l.map ZcR.z) o.z o.off).d) (.slice a8 n8 c8)))
  have hb3 := below_alloc w2 (Obj.cells (d7A (dd7 (faSp d (l.map ZcR.z) o.z o.off).d) (.slice a8 n8 c8)) 31)
  have HS3 := Lib.hid (HS2.out.below hb3)
  have HA3 := Lib.hid (HA2.out.below hb3)
  have HD3 := Lib.hid (HD2.out.below hb3)
  have HYl := Lib.hid HS2.out.g.lt
  clear hb3 HS HS2 HA HA2 HD HD2
  generalize w2.alloc (Obj.cells (d7A (dd7 (faSp d (l.map ZcR.z) o.z o.off).d) (.slice a8 n8 c8)) 31) = w3 at *
  refine wp_region_held (S := fun w' => Blk w' w2.heap.size 31 (d7A (dd7 (faSp d (l.map ZcR.z) o.z o.off).d) (.slice a8 n8 c8)) ∧ Blk w' (w.heap.size + 1) 37 (opA o)) (by kernel_rfl) ?_
  change wpAnyH _ _ _ _ _ _ _ _ (World.drew _)
  have hS : Blk w3.drew w2.heap.size 31 (d7A (dd7 (faSp d (l.map ZcR.z) o.z o.off).d) (.slice a8 n8 c8)) ∧ Blk w3.drew (w.heap.size + 1) 37 (opA o) := ⟨HY.out, HS3.out.y⟩
  refine takeH hS (i := 0) (d := 161) (v := .agg (d7A (dd7 (faSp d (l.map ZcR.z) o.z o.off).d) (.slice a8 n8 c8))) rfl rfl (by kernel_rfl) (by kernel_rfl) (by kernel_rfl) (fun _ _ _ h => h) (Or.inl ⟨by kernel_rfl, fun w' hw' => by exact exec_load _ rfl (w2.heap.size) rfl hw'.1 Try.underlying31 rfl Try.info7D⟩) ?_
  refine takeH hS (i := 1) (d := 162) (v := .pointer (some ⟨D, 0, none⟩)) rfl rfl (by kernel_rfl) (by kernel_rfl) (by kernel_rfl) (fun _ _ _ h => h) (Or.inl ⟨by kernel_rfl, fun w' hw' => by kernel_rfl⟩) ?_
  refine takeH hS (i := 2) (d := 163) (v := .pointer (some ⟨w.heap.size + 1, 1, none⟩)) rfl rfl (by kernel_rfl) (by kernel_rfl) (by kernel_rfl) (fun _ _ _ h => h) (Or.inl ⟨by kernel_rfl, fun w' hw' => by kernel_rfl⟩) ?_
  try go_frame
  refine takeH hS (i := 3) (d := 164) (v := .int .i64 o.z) rfl rfl (by kernel_rfl) (by kernel_rfl) (by kernel_rfl) (fun _ _ _ h => h) (Or.inl ⟨by kernel_rfl, fun w' hw' => by exact exec_cell _ rfl ⟨w.heap.size + 1, 1, none⟩ rfl _ Try.underlying3 ((hw'.2.cell 1).trans (opA_1 o))⟩) ?_
  refine takeH hS (i := 4) (d := 165) (v := .pointer (some ⟨w.heap.size + 1, 2, none⟩)) rfl rfl (by kernel_rfl) (by kernel_rfl) (by kernel_rfl) (fun _ _ _ h => h) (Or.inl ⟨by kernel_rfl, fun w' hw' => by kernel_rfl⟩) ?_
  refine takeH hS (i := 5) (d := 166) (v := .int .i64 o.off) rfl rfl (by kernel_rfl) (by kernel_rfl) (by kernel_rfl) (fun _ _ _ h => h) (Or.inl ⟨by kernel_rfl, fun w' hw' => by exact exec_cell _ rfl ⟨w.heap.size + 1, 2, none⟩ rfl _ Try.underlying3 ((hw'.2.cell 2).trans (opA_2 o))⟩) ?_
  try go_frame
  refine takeH hS (i := 7) (d := 168) (v := .int .i64 ((faSp d (l.map ZcR.z) o.z o.off).e)) rfl rfl (by kernel_rfl) (by kernel_rfl) (by kernel_rfl) (fun _ _ _ h => h) (Or.inl ⟨by kernel_rfl, fun w' hw' => by kernel_rfl⟩) ?_
  try go_frame
  have hbd : Below w3.heap.size w3 w3.drew := (Below.refl _ _).drew
  have HA4 := Lib.hid (HA3.out.below hbd)
  have HS4 := Lib.hid (HS3.out.below hbd)
  have HD4 := Lib.hid (HD3.out.below hbd)
  clear hbd HA3 HS3 HD3
  refine nextH (i := 6) rfl (by kernel_rfl) (by kernel_rfl) (fun K' hK => ?_)
  go_wp2_with fail
  refine (cfa7 o.z o.off HA4.out).mono ?_
  rintro en w5 ⟨rfl, hT⟩
  have hS5 : Blk w5 w2.heap.size 31 (d7A (dd7 (faSp d (l.map ZcR.z) o.z o.off).d) (.slice a8 n8 c8)) ∧ Blk w5 (w.heap.size + 1) 37 (opA o) := ⟨hT.blk HA4.out hS.1 (by decide) (by decide) (by decide) (by decide), hT.blk HA4.out hS.2 (by decide) (by decide) (by decide) (by decide)⟩
  have HN := Lib.hid (HS4.out.cmd (R := faSp d (l.map ZcR.z) o.z o.off) HA4.out HD4.out hT)
  refine hK.out _ _ ⟨hS5, ?_⟩
  clear hK K' hS hT HA4 HS4 HD4
  try go_frame
  refine takeH hS5 (i := 8) (d := 169) (v := .bool true) rfl rfl (by kernel_rfl) (by kernel_rfl) (by kernel_rfl) (fun _ _ _ h => h) (Or.inl ⟨by kernel_rfl, fun w' hw' => by exact exec_eql _ _ rfl ((faSp d (l.map ZcR.z) o.z o.off).e) ((faSp d (l.map ZcR.z) o.z o.off).e) rfl rfl true (decide_eq_true rfl) rfl⟩) ?_
  try go_frame
  refine nextH (i := 9) rfl (by kernel_rfl) (by kernel_rfl) (fun K' hK => ?_)
  refine wpo_store _ _ rfl (w.heap.size + 2) (d7A (dd7 (faSp d (l.map ZcR.z) o.z o.off).d) (.slice a8 n8 c8)) rfl rfl _ _ HN.out.g (Try.info7D) rfl (d7A_one _ _ _ _) ?_
  intro w9 hSg hKg
  have HF := Lib.hid (HN.out.out hSg hKg)
  have hS6 : Blk w9 w2.heap.size 31 (d7A (dd7 (faSp d (l.map ZcR.z) o.z o.off).d) (.slice a8 n8 c8)) ∧ Blk w9 (w.heap.size + 1) 37 (opA o) := ⟨hS5.1.kept hKg (by have := HYl.out; omega), hS5.2.kept hKg (by omega)⟩
  refine hK.out _ _ ⟨hS6, ?_⟩
  clear hK K' hSg hKg hS5
  try go_frame
  refine takeH hS6 (i := 10) (d := 7) (v := .bool true) rfl rfl (by kernel_rfl) (by kernel_rfl) (by kernel_rfl) (fun _ _ _ h => h) (Or.inl ⟨by kernel_rfl, fun w' hw' => by kernel_rfl⟩) ?_
  try go_frame
  refine wpAnyH_done (by kernel_rfl) ?_ _
  go_wp2_with fail
  exact bodyPost_ret (v := .tuple #[.agg (d7A (dd7 (faSp d (l.map ZcR.z) o.z o.off).d) (.slice a8 n8 c8)), .bool true]) (results_cell_slot Try.results12 _ _ (w.heap.size + 2) 31 _ _ _ rfl rfl HF.out.g Try.underlying31 rfl Try.info7D) rfl ⟨_, rfl, HF.out.doc, HF.out.dv⟩

end Go.Proofs.Ytlngdndamgopeaa

/-
  Layer 7 (zdev): a step of both: kind 9.
-/
namespace Go.Proofs.Ytlngdndamgopeaa
open Go.RowKit
set_option linter.unusedVariables false
set_option linter.unnecessarySimpa false
set_option linter.unusedSimpArgs false


set_option maxRecDepth 100000 in
set_option maxHeartbeats 4000000 in
theorem st7_9 {lo D : Nat} {w wA : World} {vz v7 : Value} {d : DvR} {l : List ZcR} (o : Op7) (ho : Op7Ok wA o) (hbA : Below wA.heap.size wA w) (hloA : wA.heap.size ≤ lo) (h : DvAt lo w D vz d l) (hD : Doc lo w v7 (l.map ZcR.z)) (hn : 0 ≤ d.count ∧ d.count ≤ 1000000) (hl : l.length ≤ 1000) (hk : o.k = 9) :
    Calls Try.prog 12 #[.pointer (some ⟨D, 0, none⟩), .agg (d7A (dd7 d) v7), .agg (opA o)] w (STo7 lo w D vz l (spSp d (l.map ZcR.z) o.z o.off o.s)) := by
  obtain ⟨a7, n7, c7, rfl⟩ : ∃ a n c, v7 = .slice a n c := by
    obtain ⟨l7, r, _⟩ := hD
    obtain ⟨a, c, e⟩ := own_slice r.own
    exact ⟨a, _, c, e⟩
  have HS : Hid (Trio7 31 37 31 w (d7A (dd7 d) (.slice a7 n7 c7)) (opA o) d7Z (((w.alloc (Obj.cells (d7A (dd7 d) (.slice a7 n7 c7)) 31)).alloc (Obj.cells (opA o) 37)).alloc (Obj.cells #[.slice none 0 0, .int .i64 0, .int .i64 0, .int .i64 0, .bool false] 31))) := Lib.hid Trio7.start
  have HA := Lib.hid (h.below HS.out.b)
  have HD := Lib.hid (hD.below HS.out.b)
  have Hsn := Lib.hid (h.sane hl)
  have Hlo := Lib.hid (show lo ≤ w.heap.size by have := h.blk.lt; have := h.le; omega)
  have Ho := Lib.hid ho
  have Hn := Lib.hid hn
  have HbA := Lib.hid hbA
  have HloA := Lib.hid hloA
  have c0 : (((w.alloc (Obj.cells (d7A (dd7 d) (.slice a7 n7 c7)) 31)).alloc (Obj.cells (opA o) 37)).alloc (Obj.cells #[.slice none 0 0, .int .i64 0, .int .i64 0, .int .i64 0, .bool false] 31)).cell? ⟨w.heap.size + 1, 0, none⟩ = some (.int .i64 9) := (HS.out.y.cell 0).trans ((opA_0 o).trans (by rw [hk]))
  clear h hD ho hn hbA hloA
  go_enter Try.func12, Try.ntmps12
  go_upto_region 1 with fail
  generalize (((w.alloc (Obj.cells (d7A (dd7 d) (.slice a7 n7 c7)) 31)).alloc (Obj.cells (opA o) 37)).alloc (Obj.cells #[.slice none 0 0, .int .i64 0, .int .i64 0, .int .i64 0, .bool false] 31)) = w0 at *
  have c1 : w0.cell? ⟨w.heap.size + 1, 1, none⟩ = some (.int .i64 o.z) := (HS.out.y.cell 1).trans (opA_1 o)
  have c2 : w0.cell? ⟨w.heap.size + 1, 2, none⟩ = some (.int .i64 o.off) := (HS.out.y.cell 2).trans (opA_2 o)
  have hl0 : lo ≤ w0.heap.size := by have := HS.out.g.lt; have := Hlo.out; omega
  have Hl0 := Lib.hid hl0
  clear hl0
  clear hk
  go_wp2_with (first | (refine wpl_load rfl _ rfl (w.heap.size) rfl _ _ _ (HS.out.x) Try.underlying31 rfl Try.info7D ?_; go_frame) | (refine wpl_load_mid (by rfl) 34 _ rfl (w.heap.size + 1) 3 rfl o.s _ (op_range HS.out.y) Try.underlying34 rfl (by rw [bvals_length]; exact (info_sec Ho.out.len).trans (by rw [bA_size])) ?_; go_frame))
  refine (gsp7 o.z o.off o.s Ho.out.len Ho.out.lt HD.out Hsn.out Hl0.out).mono ?_
  rintro e w2 ⟨v8, rfl, hd8, hb⟩
  obtain ⟨a8, n8, c8, rfl⟩ : ∃ a n c, v8 = .slice a n c := by
    obtain ⟨l8, r, _⟩ := hd8
    obtain ⟨a, c, e⟩ := own_slice r.own
    exact ⟨a, _, c, e⟩
  have HS2 := Lib.hid (HS.out.below hb)
  have HA2 := Lib.hid (HA.out.below hb)
  have HD2 := Lib.hid hd8
  clear hb hd8 c0 c1 c2
  go_upto_region 31 with (first | (refine wpl_store_new rfl _ _ rfl (d7A (dd7 (spSp d (l.map ZcR.z) o.z o.off o.s).d) (.slice a8 n8 c8)) w2 31 d7Z rfl rfl rfl Try.info7D rfl (d7A_one _ _ _ _) ?_; go_frame))
  have HY := Lib.hid (Blk.new w2 31 (d7A (dd7 (spSp d (l.map ZcR.z) o.z o.off o.s).d) (.slice a8 n8 c8)))
  have hb3 := below_alloc w2 (Obj.cells (d7A (dd7 (spSp d (l.map ZcR.z) o.z o.off o.s).d) (.slice a8 n8 c8)) 31)
  have HS3 := Lib.hid (HS2.out.below hb3)
  have HA3 := Lib.hid (HA2.out.below hb3)
  have HD3 := Lib.hid (HD2.out.below hb3)
  have HYl := Lib.hid HS2.out.g.lt
  clear hb3 HS HS2 HA HA2 HD HD2
  generalize w2.alloc (Obj.cells (d7A (dd7 (spSp d (l.map ZcR.z) o.z o.off o.s).d) (.slice a8 n8 c8)) 31) = w3 at *
  refine wp_region_held (S := fun w' => Blk w' w2.heap.size 31 (d7A (dd7 (spSp d (l.map ZcR.z) o.z o.off o.s).d) (.slice a8 n8 c8)) ∧ Blk w' (w.heap.size + 1) 37 (opA o)) (by kernel_rfl) ?_
  change wpAnyH _ _ _ _ _ _ _ _ (World.drew _)
  have hS : Blk w3.drew w2.heap.size 31 (d7A (dd7 (spSp d (l.map ZcR.z) o.z o.off o.s).d) (.slice a8 n8 c8)) ∧ Blk w3.drew (w.heap.size + 1) 37 (opA o) := ⟨HY.out, HS3.out.y⟩
  refine takeH hS (i := 0) (d := 183) (v := .agg (d7A (dd7 (spSp d (l.map ZcR.z) o.z o.off o.s).d) (.slice a8 n8 c8))) rfl rfl (by kernel_rfl) (by kernel_rfl) (by kernel_rfl) (fun _ _ _ h => h) (Or.inl ⟨by kernel_rfl, fun w' hw' => by exact exec_load _ rfl (w2.heap.size) rfl hw'.1 Try.underlying31 rfl Try.info7D⟩) ?_
  refine takeH hS (i := 1) (d := 184) (v := .pointer (some ⟨D, 0, none⟩)) rfl rfl (by kernel_rfl) (by kernel_rfl) (by kernel_rfl) (fun _ _ _ h => h) (Or.inl ⟨by kernel_rfl, fun w' hw' => by kernel_rfl⟩) ?_
  refine takeH hS (i := 2) (d := 185) (v := .pointer (some ⟨w.heap.size + 1, 1, none⟩)) rfl rfl (by kernel_rfl) (by kernel_rfl) (by kernel_rfl) (fun _ _ _ h => h) (Or.inl ⟨by kernel_rfl, fun w' hw' => by kernel_rfl⟩) ?_
  try go_frame
  refine takeH hS (i := 3) (d := 186) (v := .int .i64 o.z) rfl rfl (by kernel_rfl) (by kernel_rfl) (by kernel_rfl) (fun _ _ _ h => h) (Or.inl ⟨by kernel_rfl, fun w' hw' => by exact exec_cell _ rfl ⟨w.heap.size + 1, 1, none⟩ rfl _ Try.underlying3 ((hw'.2.cell 1).trans (opA_1 o))⟩) ?_
  refine takeH hS (i := 4) (d := 187) (v := .pointer (some ⟨w.heap.size + 1, 2, none⟩)) rfl rfl (by kernel_rfl) (by kernel_rfl) (by kernel_rfl) (fun _ _ _ h => h) (Or.inl ⟨by kernel_rfl, fun w' hw' => by kernel_rfl⟩) ?_
  refine takeH hS (i := 5) (d := 188) (v := .int .i64 o.off) rfl rfl (by kernel_rfl) (by kernel_rfl) (by kernel_rfl) (fun _ _ _ h => h) (Or.inl ⟨by kernel_rfl, fun w' hw' => by exact exec_cell _ rfl ⟨w.heap.size + 1, 2, none⟩ rfl _ Try.underlying3 ((hw'.2.cell 2).trans (opA_2 o))⟩) ?_
  try go_frame
  refine takeH hS (i := 6) (d := 189) (v := .pointer (some ⟨w.heap.size + 1, 3, none⟩)) rfl rfl (by kernel_rfl) (by kernel_rfl) (by kernel_rfl) (fun _ _ _ h => h) (Or.inl ⟨by kernel_rfl, fun w' hw' => by kernel_rfl⟩) ?_
  refine takeH hS (i := 7) (d := 190) (v := .agg (bA o.s)) rfl rfl (by kernel_rfl) (by kernel_rfl) (by kernel_rfl) (fun _ _ _ h => h) (Or.inl ⟨by kernel_rfl, fun w' hw' => by exact exec_load_b _ _ rfl (w.heap.size + 1) 3 rfl o.s _ (op_range hw'.2) Try.underlying34 rfl (by rw [bvals_length]; exact (info_sec Ho.out.len).trans (by rw [bA_size]))⟩) ?_
  refine takeH hS (i := 9) (d := 192) (v := .int .i64 ((spSp d (l.map ZcR.z) o.z o.off o.s).e)) rfl rfl (by kernel_rfl) (by kernel_rfl) (by kernel_rfl) (fun _ _ _ h => h) (Or.inl ⟨by kernel_rfl, fun w' hw' => by kernel_rfl⟩) ?_
  try go_frame
  try go_frame
  have hbd : Below w3.heap.size w3 w3.drew := (Below.refl _ _).drew
  have HA4 := Lib.hid (HA3.out.below hbd)
  have HS4 := Lib.hid (HS3.out.below hbd)
  have HD4 := Lib.hid (HD3.out.below hbd)
  clear hbd HA3 HS3 HD3
  refine nextH (i := 8) rfl (by kernel_rfl) (by kernel_rfl) (fun K' hK => ?_)
  go_wp2_with fail
  refine (csp7 o.z o.off o.s Ho.out.len Ho.out.lt HA4.out).mono ?_
  rintro en w5 ⟨rfl, hT⟩
  have hS5 : Blk w5 w2.heap.size 31 (d7A (dd7 (spSp d (l.map ZcR.z) o.z o.off o.s).d) (.slice a8 n8 c8)) ∧ Blk w5 (w.heap.size + 1) 37 (opA o) := ⟨hT.blk HA4.out hS.1 (by decide) (by decide) (by decide) (by decide), hT.blk HA4.out hS.2 (by decide) (by decide) (by decide) (by decide)⟩
  have HN := Lib.hid (HS4.out.cmd (R := spSp d (l.map ZcR.z) o.z o.off o.s) HA4.out HD4.out hT)
  refine hK.out _ _ ⟨hS5, ?_⟩
  clear hK K' hS hT HA4 HS4 HD4
  try go_frame
  refine takeH hS5 (i := 10) (d := 193) (v := .bool true) rfl rfl (by kernel_rfl) (by kernel_rfl) (by kernel_rfl) (fun _ _ _ h => h) (Or.inl ⟨by kernel_rfl, fun w' hw' => by exact exec_eql _ _ rfl ((spSp d (l.map ZcR.z) o.z o.off o.s).e) ((spSp d (l.map ZcR.z) o.z o.off o.s).e) rfl rfl true (decide_eq_true rfl) rfl⟩) ?_
  try go_frame
  refine nextH (i := 11) rfl (by kernel_rfl) (by kernel_rfl) (fun K' hK => ?_)
  refine wpo_store _ _ rfl (w.heap.size + 2) (d7A (dd7 (spSp d (l.map ZcR.z) o.z o.off o.s).d) (.slice a8 n8 c8)) rfl rfl _ _ HN.out.g (Try.info7D) rfl (d7A_one _ _ _ _) ?_
  intro w9 hSg hKg
  have HF := Lib.hid (HN.out.out hSg hKg)
  have hS6 : Blk w9 w2.heap.size 31 (d7A (dd7 (spSp d (l.map ZcR.z) o.z o.off o.s).d) (.slice a8 n8 c8)) ∧ Blk w9 (w.heap.size + 1) 37 (opA o) := ⟨hS5.1.kept hKg (by have := HYl.out; omega), hS5.2.kept hKg (by omega)⟩
  refine hK.out _ _ ⟨hS6, ?_⟩
  clear hK K' hSg hKg hS5
  try go_frame
  refine takeH hS6 (i := 12) (d := 7) (v := .bool true) rfl rfl (by kernel_rfl) (by kernel_rfl) (by kernel_rfl) (fun _ _ _ h => h) (Or.inl ⟨by kernel_rfl, fun w' hw' => by kernel_rfl⟩) ?_
  try go_frame
  refine wpAnyH_done (by kernel_rfl) ?_ _
  go_wp2_with fail
  exact bodyPost_ret (v := .tuple #[.agg (d7A (dd7 (spSp d (l.map ZcR.z) o.z o.off o.s).d) (.slice a8 n8 c8)), .bool true]) (results_cell_slot Try.results12 _ _ (w.heap.size + 2) 31 _ _ _ rfl rfl HF.out.g Try.underlying31 rfl Try.info7D) rfl ⟨_, rfl, HF.out.doc, HF.out.dv⟩

end Go.Proofs.Ytlngdndamgopeaa

/-
  Layer 7 (zdev): a step of both.
-/
namespace Go.Proofs.Ytlngdndamgopeaa
open Go.RowKit
set_option linter.unusedVariables false
set_option linter.unnecessarySimpa false
set_option linter.unusedSimpArgs false


theorem st7 {lo D : Nat} {w wA : World} {vz v7 : Value} {d : DvR} {l : List ZcR} (o : Op7) (ho : Op7Ok wA o) (hbA : Below wA.heap.size wA w) (hloA : wA.heap.size ≤ lo) (h : DvAt lo w D vz d l) (hD : Doc lo w v7 (l.map ZcR.z)) (hn : 0 ≤ d.count ∧ d.count ≤ 1000000) (hl : l.length ≤ 1000) :
    Calls Try.prog 12 #[.pointer (some ⟨D, 0, none⟩), .agg (d7A (dd7 d) v7), .agg (opA o)] w (STo7 lo w D vz l (stSp d (l.map ZcR.z) o)) := by
  unfold stSp
  by_cases k1 : o.k = 1
  · rw [if_pos k1]; exact st7_1 o ho hbA hloA h hD hn hl k1
  · by_cases k2 : o.k = 2
    · rw [if_neg k1, if_pos k2]; exact st7_2 o ho hbA hloA h hD hn hl k2
    · by_cases k3 : o.k = 3
      · rw [if_neg k1, if_neg k2, if_pos k3]; exact st7_3 o ho hbA hloA h hD hn hl k3
      · by_cases k4 : o.k = 4
        · rw [if_neg k1, if_neg k2, if_neg k3, if_pos k4]; exact st7_4 o ho hbA hloA h hD hn hl k4
        · by_cases k5 : o.k = 5
          · rw [if_neg k1, if_neg k2, if_neg k3, if_neg k4, if_pos k5]; exact st7_5 o ho hbA hloA h hD hn hl k5
          · by_cases k6 : o.k = 6
            · rw [if_neg k1, if_neg k2, if_neg k3, if_neg k4, if_neg k5, if_pos k6]; exact st7_6 o ho hbA hloA h hD hn hl k6
            · by_cases k7 : o.k = 7
              · rw [if_neg k1, if_neg k2, if_neg k3, if_neg k4, if_neg k5, if_neg k6, if_pos k7]; exact st7_7 o ho hbA hloA h hD hn hl k7
              · by_cases k8 : o.k = 8
                · rw [if_neg k1, if_neg k2, if_neg k3, if_neg k4, if_neg k5, if_neg k6, if_neg k7, if_pos k8]; exact st7_8 o ho hbA hloA h hD hn hl k8
                · by_cases k9 : o.k = 9
                  · rw [if_neg k1, if_neg k2, if_neg k3, if_neg k4, if_neg k5, if_neg k6, if_neg k7, if_neg k8, if_pos k9]; exact st7_9 o ho hbA hloA h hD hn hl k9
                  · rw [if_neg k1, if_neg k2, if_neg k3, if_neg k4, if_neg k5, if_neg k6, if_neg k7, if_neg k8, if_neg k9]
                    exact st7_x o ho hbA hloA h hD hn hl (by omega)

end Go.Proofs.Ytlngdndamgopeaa

/-
  Layer 7 (zdev): a slice of steps as it reads; its opener.
-/
namespace Go.Proofs.Ytlngdndamgopeaa
open Go.RowKit
set_option linter.unusedVariables false
set_option linter.unnecessarySimpa false
set_option linter.unusedSimpArgs false


/-- A slice of steps. -/
structure RowOp7 (w : World) (a : Option Addr) (len cap : Nat) (f : Nat → Op7) : Prop where
  le : len ≤ cap
  max : cap ≤ maxLen
  cells : 0 < len → ∃ b off, a = some ⟨b, off, none⟩ ∧ ∀ i, i < len → w.rangeAt b (off + i * 68) (opL (f i)) ∧ Op7Ok w (f i)
theorem opL_length {o : Op7} (h : o.s.length = 64) : (opL o).length = 68 := by simp [opL, bvals_length, h]
theorem RowOp7.lt {w : World} {a : Option Addr} {len cap : Nat} {f : Nat → Op7} (h : RowOp7 w a len cap f) {b off : Nat} (ha : a = some ⟨b, off, none⟩) (h0 : 0 < len) : b < w.heap.size := by
  obtain ⟨b', off', rfl, hc⟩ := h.cells h0
  obtain ⟨rfl, rfl⟩ : b' = b ∧ off' = off := by simpa using ha
  exact block_lt_of_cell ((hc 0 h0).1 0 _ rfl)
/-- One step, where it lies, behind. -/
theorem RowOp7.at_ {w w' : World} {a : Option Addr} {len cap : Nat} {f : Nat → Op7} (h : RowOp7 w a len cap f) (hb : Below w.heap.size w w') (i : Nat) (hi : i < len) : ∃ b off, a = some ⟨b, off, none⟩ ∧ w'.rangeAt b (off + i * 68) (opL (f i)) ∧ Op7Ok w (f i) := by
  obtain ⟨b, off, rfl, hc⟩ := h.cells (by omega)
  have hl := h.lt rfl (by omega)
  refine ⟨b, off, rfl, fun j u hu => ?_, (hc i hi).2⟩
  exact (World.cell?_of_block (w := w) (w' := w') (a := ⟨b, off + i * 68 + j, none⟩) (hb.block b hl)).trans ((hc i hi).1 j u hu)

section
open Go.ChangeShapes Go.WideShapes
variable {H : Type} {enc : TypeId × Value → H} {w : World}
theorem Try.cellsOp7 : Try.prog.cellsOf 37 = 68 := by kernel_rfl
theorem Try.cellsInt7 : Try.prog.cellsOf 3 = 1 := by kernel_rfl
theorem Try.cellsSec7 : Try.prog.cellsOf 34 = 64 := by kernel_rfl
theorem Try.cellsInts7 : Try.prog.cellsOf 35 = 1 := by kernel_rfl
theorem open_rowZ7 {fuel : Nat} {cs : List Value} {x : DataW H × List MemPlace} (hf : DataW.trod enc Try.prog w 0 (fun _ => true) true fuel 35 cs = some x) : ∃ a n c zs, cs = [.slice a n c] ∧ RowZ w a n c zs := by
  rcases open_ints Try.underlying35 Try.underlying3 (by kernel_rfl) hf with ⟨hcs, _⟩ | ⟨x, l, c, zs, hcs, _, hl, hm, hz, _, hcell, hwz⟩
  · exact ⟨none, 0, 0, [], hcs, rowZ_nil w⟩
  · obtain ⟨bs, h⟩ := rowZ_of_ints hl hm (by simpa using hz) hcell hwz
    exact ⟨some x, l, c, bs, hcs, h⟩
theorem cut7 (l : List Value) (o : Nat) (v : Value) (hh : (l.drop o).take 1 = [v]) : l.drop o = v :: l.drop (o + 1) := by
  by_cases ho : o < l.length
  · rw [List.drop_eq_getElem_cons ho] at hh
    simp only [List.take_succ_cons, List.take_zero, List.cons.injEq, and_true] at hh
    rw [List.drop_eq_getElem_cons ho, hh]
  · rw [List.drop_of_length_le (by omega)] at hh; simp at hh
set_option maxRecDepth 100000 in
theorem open_op7 {fuel : Nat} {cs : List Value} {x : DataW H × List MemPlace} (hlen : cs.length = 68) (ht : DataW.trod enc Try.prog w 0 (fun _ => true) true fuel 37 cs = some x) : ∃ it : Op7, cs = opL it ∧ Op7Ok w it := by
  obtain ⟨ys, n', _, _, _, hyl, hf⟩ := DataW.trod_struct Try.underlying37 ht
  match ys, hyl with
  | [y0, y1, y2, y3, y4], _ =>
    have g0 : DataW.trod enc Try.prog w 0 (fun _ => true) true n' 3 (List.take (Try.prog.cellsOf 3) (List.drop 0 cs)) = some y0 := hf 0 _ rfl
    have g1 : DataW.trod enc Try.prog w 0 (fun _ => true) true n' 3 (List.take (Try.prog.cellsOf 3) (List.drop 1 cs)) = some y1 := hf 1 _ rfl
    have g2 : DataW.trod enc Try.prog w 0 (fun _ => true) true n' 3 (List.take (Try.prog.cellsOf 3) (List.drop 2 cs)) = some y2 := hf 2 _ rfl
    have g3 : DataW.trod enc Try.prog w 0 (fun _ => true) true n' 34 (List.take (Try.prog.cellsOf 34) (List.drop 3 cs)) = some y3 := hf 3 _ rfl
    have g4 : DataW.trod enc Try.prog w 0 (fun _ => true) true n' 35 (List.take (Try.prog.cellsOf 35) (List.drop 67 cs)) = some y4 := hf 4 _ rfl
    rw [Try.cellsInt7] at g0 g1 g2
    rw [Try.cellsSec7] at g3
    rw [Try.cellsInts7] at g4
    obtain ⟨z0, e0, _, f0⟩ := DataW.trod_int Try.underlying3 g0
    obtain ⟨z1, e1, _, f1⟩ := DataW.trod_int Try.underlying3 g1
    obtain ⟨z2, e2, _, f2⟩ := DataW.trod_int Try.underlying3 g2
    obtain ⟨bs, e3, hbl, hblt⟩ := trod_bytes Try.underlying34 Try.underlying5 Try.cellsByte Try.cellsSec7 g3
    obtain ⟨a4, n4, c4, zs4, e4, r4⟩ := open_rowZ7 g4
    refine ⟨⟨z0, z1, z2, bs, a4, n4, c4, zs4⟩, ?_, ⟨hbl, hblt, r4, f1, f2⟩⟩
    have h0 := cut7 cs 0 _ e0
    have h3 : cs.drop 3 = bvals bs ++ cs.drop 67 := by rw [← e3, ← List.drop_drop (i := 64) (j := 3), List.take_append_drop]
    have h68 : cs.drop 68 = [] := List.drop_of_length_le (by omega)
    rw [List.drop_zero, cut7 cs 1 _ e1, cut7 cs 2 _ e2, h3, cut7 cs 67 _ e4, h68] at h0
    rw [h0]
    simp [opL]
theorem open_ops7 {fuel : Nat} {a : Option Addr} {len cap : Nat} {x : DataW H × List MemPlace} (h : DataW.trod enc Try.prog w 0 (fun _ => true) true fuel 22 [.slice a len cap] = some x) : ∃ f, RowOp7 w a len cap f := by
  rcases Go.Deep.open_slice Try.underlying22 h with ⟨hcs, _⟩ | ⟨ad, l, c, m, n, D, Pl, hcs, hb, hl, hm, hmm, hx, hi⟩
  · simp at hcs
    obtain ⟨rfl, rfl, rfl⟩ := hcs
    exact ⟨fun _ => default, Nat.le_refl _, Nat.zero_le _, fun h => absurd h (by decide)⟩
  · simp at hcs
    obtain ⟨rfl, rfl, rfl⟩ := hcs
    have hle : len ≤ m := by rw [hmm]; simpa using hl
    rw [Try.cellsOp7] at hi
    have hall : ∀ i, i < len → ∃ it : Op7, (∀ j u, (opL it)[j]? = some u → w.cell? ((ad.add (i * 68)).add j) = some u) ∧ Op7Ok w it := fun i hil => by
      obtain ⟨cs', hc, ht⟩ := hi i (by omega)
      obtain ⟨_, hlen, hcell⟩ := World.cells?_some hc
      obtain ⟨it, rfl, hok⟩ := open_op7 hlen ht
      refine ⟨it, fun j u hu => ?_, hok⟩
      have hj : j < (opL it).length := (List.getElem?_eq_some_iff.1 hu).1
      rw [hcell j (by rw [opL_length hok.len] at hj; exact hj)]
      exact hu
    obtain ⟨f, hf⟩ := Go.Deep.choose_lt hall
    refine ⟨f, hl, hm, fun h0 => ?_⟩
    obtain ⟨b, off, spot⟩ := ad
    have hs : spot = none := by
      have h := (hf 0 h0).1 0 _ rfl
      simpa [Addr.add] using World.cell?_spot h
    subst hs
    refine ⟨b, off, rfl, fun i hil => ⟨fun j u hu => ?_, (hf i hil).2⟩⟩
    have h1 := (hf i hil).1 j u hu
    have e : (⟨b, off, none⟩ : Addr).add (i * 68) = ⟨b, off + i * 68, none⟩ := Addr.add_mid b off (i * 68)
    have e2 : (⟨b, off + i * 68, none⟩ : Addr).add j = ⟨b, off + i * 68 + j, none⟩ := Addr.add_mid b (off + i * 68) j
    rw [e, e2] at h1
    exact h1
end

end Go.Proofs.Ytlngdndamgopeaa

