import Derived.Test.YtajkajgnjcnolaaMp33
import Derived.Test.YtajkajgnjcnolaaMp25
import Derived.Test.YtajkajgnjcnolaaMp27
import Derived.RangeFuncCalls
import Derived.Test.YtajkajgnjcnolaaMp26
import Derived.RangeFuncFrom
import Derived.Sort.CutIn
namespace Go.Proofs.Ytajkajgnjcnolaa
open Go.RowKit Go.Maps
set_option linter.unusedVariables false
set_option linter.unnecessarySimpa false
set_option linter.unusedSimpArgs false
theorem pinsN {lo : Nat} {w : World} {v : Value} {es : List EvR} (m1 : Nat) (e : EvR) (vb i : Nat) (hm : m1 = es.length + 1) (hr : RowE 37 lo w v es) (he : EvOk e) (hb : Blk w vb 37 (evA e)) (hvg : v.ownBlock ≠ some vb) (hn : es.length ≤ 1000000) (hlo : lo ≤ w.heap.size) (hi : i ≤ es.length) :
    Calls Try.prog 52 #[v, .int .i64 (i : Nat), .slice (some ⟨vb, 0, none⟩) 1 1] w (InsTo lo w v m1 (es.take i ++ [e] ++ es.drop i)) := by
  subst hm
  exact pins e vb i hr he hb hvg hn hlo hi
theorem right_of (e : EvR) : evRight e = true ↔ ¬ (e.at_ < 0 ∨ e.kind < 1 ∨ 4 < e.kind) := by
  unfold evRight
  simp only [Bool.and_eq_true, decide_eq_true_eq]
  omega
theorem pl_wrong {S : St8} {e : EvR} (h : evRight e = false) : plE e S.R.cs = 10 ∧ S.pl e = S := by
  have h1 : e.at_ < 0 ∨ e.kind < 1 ∨ 4 < e.kind := Classical.byContradiction fun h2 => by rw [(right_of e).2 h2] at h; cases h
  have h2 : plE e S.R.cs = 10 := by unfold plE; rw [if_pos h1]
  refine ⟨h2, ?_⟩
  unfold St8.pl plL
  rw [h2, if_neg (by decide)]
theorem pl_full {S : St8} {e : EvR} (h : evRight e = true) (hc : 256 ≤ S.R.cs.length) : plE e S.R.cs = 17 ∧ S.pl e = S := by
  have h2 : plE e S.R.cs = 17 := by unfold plE; rw [if_neg ((right_of e).1 h), if_pos hc]
  refine ⟨h2, ?_⟩
  unfold St8.pl plL
  rw [h2, if_neg (by decide)]
theorem pl_in {S : St8} {e : EvR} (h : evRight e = true) (hc : S.R.cs.length < 256) : plE e S.R.cs = 0 ∧ S.pl e = ⟨⟨S.R.d, S.R.zs, ins e S.R.cs, S.R.h⟩, S.M⟩ := by
  have h2 : plE e S.R.cs = 0 := by unfold plE; rw [if_neg ((right_of e).1 h), if_neg (by omega)]
  refine ⟨h2, ?_⟩
  unfold St8.pl plL
  rw [h2, if_pos rfl, plI_ins]
set_option maxRecDepth 100000 in
set_option maxHeartbeats 2000000 in
theorem ppl_wrong {lo X D mb n m : Nat} {w : World} {S : St8} {a0 : Option Addr} {c0 : Nat} {vz : Value} {l : List ZcR} {f : Int × Int → Option (List Nat × Int)} (e : EvR) (he : EvOk e) (hm : m = (S.R.h ++ S.R.cs).length) (h : PdAt lo w X S D vz (.slice a0 m c0) l mb n f) (hf : Fine S) (hr : evRight e = false) : Calls Try.prog 23 #[.pointer (some ⟨X, 0, none⟩), .agg (evA e)] w fun en w' => en = .returned (.int .i64 10) ∧ PdTo lo w X (PdF X D vz (.slice a0 m c0) l mb) S w' := by
  have hb0 := below_alloc w (Obj.cells (evA e) 37)
  have HP := Lib.hid (h.below hb0)
  have HE := Lib.hid (Blk.new w 37 (evA e))
  have He := Lib.hid he
  have Hb0 := Lib.hid hb0
  have Hlt := Lib.hid (fun i (hi : PdF X D vz (.slice a0 m c0) l mb i) => h.lt hi)
  have Hlo := Lib.hid (Nat.le_trans h.leX (Nat.le_of_lt h.blk.lt))
  have Hhn := Lib.hid hf.h
  have Hcn := Lib.hid hf.cs
  have HR0 := Lib.hid hr
  have Hm := Lib.hid hm
  clear h he hb0 hr hf hm
  go_enter Try.func23, Try.ntmps23
  go_upto_region 1 with fail
  generalize w.alloc (Obj.cells (evA e) 37) = w0 at *
  go_wp2_with (refine wpl_load rfl _ rfl (w.heap.size) rfl _ _ _ (HE.out) Try.underlying37 rfl (info_evA He.out.len) ?_; go_frame)
  refine (pright e w0 He.out.len).mono ?_
  rintro en w1 ⟨rfl, hb1⟩
  rw [HR0.out]
  have HP1 := Lib.hid (HP.out.below hb1)
  have HE1 := Lib.hid (HE.out.below hb1 HE.out.lt)
  have Hb1 := Lib.hid (bthen Hb0.out hb1)
  clear hb1 HP HE Hb0
  go_wp2_with fail
  go_ret
  exact ⟨rfl, PdTo.after Hb1.out (PdTo.same ⟨D, vz, _, l, mb, n, f, HP1.out, rfl⟩ (Below.refl _ _))⟩
set_option maxRecDepth 100000 in
set_option maxHeartbeats 2000000 in
theorem ppl_full {lo X D mb n m : Nat} {w : World} {S : St8} {a0 : Option Addr} {c0 : Nat} {vz : Value} {l : List ZcR} {f : Int × Int → Option (List Nat × Int)} (e : EvR) (he : EvOk e) (hm : m = (S.R.h ++ S.R.cs).length) (h : PdAt lo w X S D vz (.slice a0 m c0) l mb n f) (hf : Fine S) (hr : evRight e = true) (hc : 256 ≤ S.R.cs.length) : Calls Try.prog 23 #[.pointer (some ⟨X, 0, none⟩), .agg (evA e)] w fun en w' => en = .returned (.int .i64 17) ∧ PdTo lo w X (PdF X D vz (.slice a0 m c0) l mb) S w' := by
  have dc : decide (((S.R.cs.length : Nat) : Int) ≥ 256) = true := decide_eq_true (by omega)
  clear hc
  have hb0 := below_alloc w (Obj.cells (evA e) 37)
  have HP := Lib.hid (h.below hb0)
  have HE := Lib.hid (Blk.new w 37 (evA e))
  have He := Lib.hid he
  have Hb0 := Lib.hid hb0
  have Hlt := Lib.hid (fun i (hi : PdF X D vz (.slice a0 m c0) l mb i) => h.lt hi)
  have Hlo := Lib.hid (Nat.le_trans h.leX (Nat.le_of_lt h.blk.lt))
  have Hhn := Lib.hid hf.h
  have Hcn := Lib.hid hf.cs
  have HR0 := Lib.hid hr
  have Hm := Lib.hid hm
  have HX0 := Lib.hid h.blk
  have Hso := Lib.hid h.so
  obtain ⟨ca, cc, hcv, hcr, hle0, hle1⟩ := h.ev.rd.from
  have Hcv := Lib.hid hcv
  have Hc2 : c0 ≤ 9223372036854775807 := by obtain ⟨_, _, hv9, _, h9⟩ := h.slice; simp at hv9; omega
  clear hcv hcr HX0
  clear h he hb0 hr hf hm
  go_enter Try.func23, Try.ntmps23
  go_upto_region 1 with fail
  generalize w.alloc (Obj.cells (evA e) 37) = w0 at *
  go_wp2_with (refine wpl_load rfl _ rfl (w.heap.size) rfl _ _ _ (HE.out) Try.underlying37 rfl (info_evA He.out.len) ?_; go_frame)
  refine (pright e w0 He.out.len).mono ?_
  rintro en w1 ⟨rfl, hb1⟩
  rw [HR0.out]
  have HP1 := Lib.hid (HP.out.below hb1)
  have HE1 := Lib.hid (HE.out.below hb1 HE.out.lt)
  have Hb1 := Lib.hid (bthen Hb0.out hb1)
  clear hb1 HP HE Hb0
  obtain ⟨ca', cc', hcv', hcr', -, -⟩ := HP1.out.ev.rd.from
  obtain ⟨rfl, rfl⟩ : ca = ca' ∧ cc = cc' := by have h9 := Hcv.out.symm.trans hcv'; simpa using h9
  have Hcr := Lib.hid hcr'
  have Hccl : cc ≤ 9223372036854775807 ∧ S.R.cs.length ≤ cc := by
    obtain ⟨a9, c9, hv9, h9, h8⟩ := hcr'.slice
    obtain ⟨-, rfl⟩ : ca = a9 ∧ cc = c9 := by simpa using hv9
    exact ⟨h8, h9⟩
  have HX1 := Lib.hid HP1.out.blk
  clear hcv' hcr'
  go_upto_region 3 with fail
  refine wp_region_held (S := fun w' => Kept (fun _ => False) w1 w') (by kernel_rfl) ?_
  change wpAnyH _ _ _ _ _ _ _ _ (World.drew _)
  have hS : Kept (fun _ => False) w1 w1.drew := (Kept.refl _ _).drew
  have hB0 : Below w1.heap.size w1 w1.drew := (Below.refl _ _).drew
  refine takeH hS (i := 0) (d := 10) (v := .pointer (some ⟨X, 0, none⟩)) rfl rfl (by kernel_rfl) (by kernel_rfl) (by kernel_rfl) (fun _ _ _ h => h) (Or.inl ⟨by kernel_rfl, fun w' hw' => by kernel_rfl⟩) ?_
  refine takeH hS (i := 1) (d := 11) (v := .pointer (some ⟨X, 0, none⟩)) rfl rfl (by kernel_rfl) (by kernel_rfl) (by kernel_rfl) (fun _ _ _ h => h) (Or.inl ⟨by kernel_rfl, fun w' hw' => by kernel_rfl⟩) ?_
  refine takeH hS (i := 2) (d := 12) (v := .pointer (some ⟨X, 1, none⟩)) rfl rfl (by kernel_rfl) (by kernel_rfl) (by kernel_rfl) (fun _ _ _ h => h) (Or.inl ⟨by kernel_rfl, fun w' hw' => by kernel_rfl⟩) ?_
  refine takeH hS (i := 3) (d := 13) (v := .slice (a0) (m) (c0)) rfl rfl (by kernel_rfl) (by kernel_rfl) (by kernel_rfl) (fun _ _ _ h => h) (Or.inl ⟨by kernel_rfl, fun w' hw' => by exact exec_cellv _ rfl ⟨X, 1, none⟩ rfl (.slice (a0) (m) (c0)) Try.underlying88 rfl (((HX1.out.kept hw' (fun h => h)).cell 1).trans (rfl))⟩) ?_
  try go_frame
  refine takeH hS (i := 4) (d := 14) (v := .pointer (some ⟨X, 0, none⟩)) rfl rfl (by kernel_rfl) (by kernel_rfl) (by kernel_rfl) (fun _ _ _ h => h) (Or.inl ⟨by kernel_rfl, fun w' hw' => by kernel_rfl⟩) ?_
  refine takeH hS (i := 5) (d := 15) (v := .pointer (some ⟨X, 0, none⟩)) rfl rfl (by kernel_rfl) (by kernel_rfl) (by kernel_rfl) (fun _ _ _ h => h) (Or.inl ⟨by kernel_rfl, fun w' hw' => by kernel_rfl⟩) ?_
  refine takeH hS (i := 6) (d := 16) (v := .pointer (some ⟨X, 2, none⟩)) rfl rfl (by kernel_rfl) (by kernel_rfl) (by kernel_rfl) (fun _ _ _ h => h) (Or.inl ⟨by kernel_rfl, fun w' hw' => by kernel_rfl⟩) ?_
  refine takeH hS (i := 7) (d := 17) (v := .int .i64 ((S.R.h.length : Nat))) rfl rfl (by kernel_rfl) (by kernel_rfl) (by kernel_rfl) (fun _ _ _ h => h) (Or.inl ⟨by kernel_rfl, fun w' hw' => by exact exec_cell _ rfl ⟨X, 2, none⟩ rfl _ Try.underlying3 (((HX1.out.kept hw' (fun h => h)).cell 2).trans (rfl))⟩) ?_
  try go_frame
  refine takeH hS (i := 8) (d := 18) (v := .slice (ca) (S.R.cs.length) (cc)) rfl rfl (by kernel_rfl) (by kernel_rfl) (by kernel_rfl) (fun _ _ _ h => h) (Or.inl ⟨by kernel_rfl, fun w' hw' => by exact (exec_sliceF elEv _ _ rfl a0 m c0 S.R.h.length rfl rfl hle0 hle1).trans (by rw [Hcv.out])⟩) ?_
  try go_frame
  refine nextH (i := 9) rfl (by kernel_rfl) (by kernel_rfl) (fun K' hK => ?_)
  go_wp2_with fail
  have hal : Below w1.drew.heap.size w1.drew (w1.drew.alloc (Obj.cells (#[.slice none 0 0]) 88)) := below_alloc _ _
  have HHa : Hid (Blk (w1.drew.alloc (Obj.cells (#[.slice none 0 0]) 88)) w1.heap.size 88 (#[.slice none 0 0])) := Lib.hid (Blk.new (w1.drew) 88 (#[.slice none 0 0]))
  have hS1 : Kept (fun _ => False) w1 (w1.drew.alloc (Obj.cells (#[.slice none 0 0]) 88)) := kept_next hS hal
  have hB1 : Below w1.heap.size w1 (w1.drew.alloc (Obj.cells (#[.slice none 0 0]) 88)) := bel_next hB0 hal
  refine hK.out _ _ ⟨hS1, ?_⟩
  clear hK K' hal hS hB0
  change wpAnyH _ _ _ _ _ _ _ _ (w1.drew.alloc (Obj.cells (#[.slice none 0 0]) 88))
  generalize w1.drew.alloc (Obj.cells (#[.slice none 0 0]) 88) = w1c1 at *
  refine nextH (i := 10) rfl (by kernel_rfl) (by kernel_rfl) (fun K' hK => ?_)
  have cX := blk_one HHa.out
  have fX := HHa.out.frozen 0
  have hP3 := blk_set1 HHa.out (.slice ca S.R.cs.length cc)
  have hS2 : Kept (fun _ => False) w1 (w1c1.setCell ⟨w1.heap.size, 0, none⟩ (.slice ca S.R.cs.length cc)) := hS1.andThen ((Kept.refl (· = w1.heap.size) w1c1).setCell (p := ⟨w1.heap.size, 0, none⟩) rfl (.slice ca S.R.cs.length cc)) (fun _ _ h => h) (fun i hi e => absurd e (Nat.ne_of_lt hi))
  have hB2 : Below w1.heap.size w1 (w1c1.setCell ⟨w1.heap.size, 0, none⟩ (.slice ca S.R.cs.length cc)) := bkept hB1 (Nat.le_refl _) ((Kept.refl (· = w1.heap.size) w1c1).setCell (p := ⟨w1.heap.size, 0, none⟩) rfl (.slice ca S.R.cs.length cc)) (fun i hi e => absurd e (Nat.ne_of_lt hi))
  have HB3 := Lib.hid hP3
  go_wp2_with fail
  refine hK.out _ _ ⟨hS2, ?_⟩
  clear hK K' hS1 hB1 HHa cX fX hP3
  generalize w1c1.setCell ⟨w1.heap.size, 0, none⟩ (.slice ca S.R.cs.length cc) = w1c2 at *
  change wpAnyH _ _ _ _ _ _ _ (Act.put _ none undef) _
  go_frame
  refine wpAnyH_done (by kernel_rfl) ?_ _
  try go_frame
  have HP3 := Lib.hid (HP1.out.below hB2)
  have HE3 := Lib.hid (HE1.out.below hB2 HE1.out.lt)
  have Hcr3 := Lib.hid (Hcr.out.below hB2)
  have Hb3 := Lib.hid (bthen Hb1.out hB2)
  have HY3 : Hid (w1.heap.size < w1c2.heap.size) := Lib.hid HB3.out.lt
  clear hS2 hB2 HP1 HE1 Hcr Hb1 HX1
  generalize w1c2 = w3 at *
  generalize w1.heap.size = Y at *
  have cB := blk_one HB3.out
  go_wp2_with fail
  go_ret
  exact ⟨rfl, PdTo.after Hb3.out (PdTo.same ⟨D, vz, _, l, mb, n, f, HP3.out, rfl⟩ (Below.refl _ _))⟩
set_option maxRecDepth 100000 in
set_option maxHeartbeats 4000000 in
theorem ppl_in {lo X D mb n m : Nat} {w : World} {S : St8} {a0 : Option Addr} {c0 : Nat} {vz : Value} {l : List ZcR} {f : Int × Int → Option (List Nat × Int)} (e : EvR) (he : EvOk e) (hm : m = (S.R.h ++ S.R.cs).length) (h : PdAt lo w X S D vz (.slice a0 m c0) l mb n f) (hf : Fine S) (hr : evRight e = true) (hc : S.R.cs.length < 256) : Calls Try.prog 23 #[.pointer (some ⟨X, 0, none⟩), .agg (evA e)] w fun en w' => en = .returned (.int .i64 0) ∧ PdTo lo w X (PdF X D vz (.slice a0 m c0) l mb) ⟨⟨S.R.d, S.R.zs, ins e S.R.cs, S.R.h⟩, S.M⟩ w' := by
  have dc : decide (((S.R.cs.length : Nat) : Int) ≥ 256) = false := decide_eq_false (by omega)
  have Hc256 := Lib.hid hc
  clear hc
  have hb0 := below_alloc w (Obj.cells (evA e) 37)
  have HP := Lib.hid (h.below hb0)
  have HE := Lib.hid (Blk.new w 37 (evA e))
  have He := Lib.hid he
  have Hb0 := Lib.hid hb0
  have Hlt := Lib.hid (fun i (hi : PdF X D vz (.slice a0 m c0) l mb i) => h.lt hi)
  have Hlo := Lib.hid (Nat.le_trans h.leX (Nat.le_of_lt h.blk.lt))
  have Hhn := Lib.hid hf.h
  have Hcn := Lib.hid hf.cs
  have HR0 := Lib.hid hr
  have Hm := Lib.hid hm
  have HX0 := Lib.hid h.blk
  have Hso := Lib.hid h.so
  obtain ⟨ca, cc, hcv, hcr, hle0, hle1⟩ := h.ev.rd.from
  have Hcv := Lib.hid hcv
  have Hc2 : c0 ≤ 9223372036854775807 := by obtain ⟨_, _, hv9, _, h9⟩ := h.slice; simp at hv9; omega
  clear hcv hcr HX0
  clear h he hb0 hr hf hm
  go_enter Try.func23, Try.ntmps23
  go_upto_region 1 with fail
  generalize w.alloc (Obj.cells (evA e) 37) = w0 at *
  go_wp2_with (refine wpl_load rfl _ rfl (w.heap.size) rfl _ _ _ (HE.out) Try.underlying37 rfl (info_evA He.out.len) ?_; go_frame)
  refine (pright e w0 He.out.len).mono ?_
  rintro en w1 ⟨rfl, hb1⟩
  rw [HR0.out]
  have HP1 := Lib.hid (HP.out.below hb1)
  have HE1 := Lib.hid (HE.out.below hb1 HE.out.lt)
  have Hb1 := Lib.hid (bthen Hb0.out hb1)
  clear hb1 HP HE Hb0
  obtain ⟨ca', cc', hcv', hcr', -, -⟩ := HP1.out.ev.rd.from
  obtain ⟨rfl, rfl⟩ : ca = ca' ∧ cc = cc' := by have h9 := Hcv.out.symm.trans hcv'; simpa using h9
  have Hcr := Lib.hid hcr'
  have Hccl : cc ≤ 9223372036854775807 ∧ S.R.cs.length ≤ cc := by
    obtain ⟨a9, c9, hv9, h9, h8⟩ := hcr'.slice
    obtain ⟨-, rfl⟩ : ca = a9 ∧ cc = c9 := by simpa using hv9
    exact ⟨h8, h9⟩
  have HX1 := Lib.hid HP1.out.blk
  clear hcv' hcr'
  go_upto_region 3 with fail
  refine wp_region_held (S := fun w' => Kept (fun _ => False) w1 w') (by kernel_rfl) ?_
  change wpAnyH _ _ _ _ _ _ _ _ (World.drew _)
  have hS : Kept (fun _ => False) w1 w1.drew := (Kept.refl _ _).drew
  have hB0 : Below w1.heap.size w1 w1.drew := (Below.refl _ _).drew
  refine takeH hS (i := 0) (d := 10) (v := .pointer (some ⟨X, 0, none⟩)) rfl rfl (by kernel_rfl) (by kernel_rfl) (by kernel_rfl) (fun _ _ _ h => h) (Or.inl ⟨by kernel_rfl, fun w' hw' => by kernel_rfl⟩) ?_
  refine takeH hS (i := 1) (d := 11) (v := .pointer (some ⟨X, 0, none⟩)) rfl rfl (by kernel_rfl) (by kernel_rfl) (by kernel_rfl) (fun _ _ _ h => h) (Or.inl ⟨by kernel_rfl, fun w' hw' => by kernel_rfl⟩) ?_
  refine takeH hS (i := 2) (d := 12) (v := .pointer (some ⟨X, 1, none⟩)) rfl rfl (by kernel_rfl) (by kernel_rfl) (by kernel_rfl) (fun _ _ _ h => h) (Or.inl ⟨by kernel_rfl, fun w' hw' => by kernel_rfl⟩) ?_
  refine takeH hS (i := 3) (d := 13) (v := .slice (a0) (m) (c0)) rfl rfl (by kernel_rfl) (by kernel_rfl) (by kernel_rfl) (fun _ _ _ h => h) (Or.inl ⟨by kernel_rfl, fun w' hw' => by exact exec_cellv _ rfl ⟨X, 1, none⟩ rfl (.slice (a0) (m) (c0)) Try.underlying88 rfl (((HX1.out.kept hw' (fun h => h)).cell 1).trans (rfl))⟩) ?_
  try go_frame
  refine takeH hS (i := 4) (d := 14) (v := .pointer (some ⟨X, 0, none⟩)) rfl rfl (by kernel_rfl) (by kernel_rfl) (by kernel_rfl) (fun _ _ _ h => h) (Or.inl ⟨by kernel_rfl, fun w' hw' => by kernel_rfl⟩) ?_
  refine takeH hS (i := 5) (d := 15) (v := .pointer (some ⟨X, 0, none⟩)) rfl rfl (by kernel_rfl) (by kernel_rfl) (by kernel_rfl) (fun _ _ _ h => h) (Or.inl ⟨by kernel_rfl, fun w' hw' => by kernel_rfl⟩) ?_
  refine takeH hS (i := 6) (d := 16) (v := .pointer (some ⟨X, 2, none⟩)) rfl rfl (by kernel_rfl) (by kernel_rfl) (by kernel_rfl) (fun _ _ _ h => h) (Or.inl ⟨by kernel_rfl, fun w' hw' => by kernel_rfl⟩) ?_
  refine takeH hS (i := 7) (d := 17) (v := .int .i64 ((S.R.h.length : Nat))) rfl rfl (by kernel_rfl) (by kernel_rfl) (by kernel_rfl) (fun _ _ _ h => h) (Or.inl ⟨by kernel_rfl, fun w' hw' => by exact exec_cell _ rfl ⟨X, 2, none⟩ rfl _ Try.underlying3 (((HX1.out.kept hw' (fun h => h)).cell 2).trans (rfl))⟩) ?_
  try go_frame
  refine takeH hS (i := 8) (d := 18) (v := .slice (ca) (S.R.cs.length) (cc)) rfl rfl (by kernel_rfl) (by kernel_rfl) (by kernel_rfl) (fun _ _ _ h => h) (Or.inl ⟨by kernel_rfl, fun w' hw' => by exact (exec_sliceF elEv _ _ rfl a0 m c0 S.R.h.length rfl rfl hle0 hle1).trans (by rw [Hcv.out])⟩) ?_
  try go_frame
  refine nextH (i := 9) rfl (by kernel_rfl) (by kernel_rfl) (fun K' hK => ?_)
  go_wp2_with fail
  have hal : Below w1.drew.heap.size w1.drew (w1.drew.alloc (Obj.cells (#[.slice none 0 0]) 88)) := below_alloc _ _
  have HHa : Hid (Blk (w1.drew.alloc (Obj.cells (#[.slice none 0 0]) 88)) w1.heap.size 88 (#[.slice none 0 0])) := Lib.hid (Blk.new (w1.drew) 88 (#[.slice none 0 0]))
  have hS1 : Kept (fun _ => False) w1 (w1.drew.alloc (Obj.cells (#[.slice none 0 0]) 88)) := kept_next hS hal
  have hB1 : Below w1.heap.size w1 (w1.drew.alloc (Obj.cells (#[.slice none 0 0]) 88)) := bel_next hB0 hal
  refine hK.out _ _ ⟨hS1, ?_⟩
  clear hK K' hal hS hB0
  change wpAnyH _ _ _ _ _ _ _ _ (w1.drew.alloc (Obj.cells (#[.slice none 0 0]) 88))
  generalize w1.drew.alloc (Obj.cells (#[.slice none 0 0]) 88) = w1c1 at *
  refine nextH (i := 10) rfl (by kernel_rfl) (by kernel_rfl) (fun K' hK => ?_)
  have cX := blk_one HHa.out
  have fX := HHa.out.frozen 0
  have hP3 := blk_set1 HHa.out (.slice ca S.R.cs.length cc)
  have hS2 : Kept (fun _ => False) w1 (w1c1.setCell ⟨w1.heap.size, 0, none⟩ (.slice ca S.R.cs.length cc)) := hS1.andThen ((Kept.refl (· = w1.heap.size) w1c1).setCell (p := ⟨w1.heap.size, 0, none⟩) rfl (.slice ca S.R.cs.length cc)) (fun _ _ h => h) (fun i hi e => absurd e (Nat.ne_of_lt hi))
  have hB2 : Below w1.heap.size w1 (w1c1.setCell ⟨w1.heap.size, 0, none⟩ (.slice ca S.R.cs.length cc)) := bkept hB1 (Nat.le_refl _) ((Kept.refl (· = w1.heap.size) w1c1).setCell (p := ⟨w1.heap.size, 0, none⟩) rfl (.slice ca S.R.cs.length cc)) (fun i hi e => absurd e (Nat.ne_of_lt hi))
  have HB3 := Lib.hid hP3
  go_wp2_with fail
  refine hK.out _ _ ⟨hS2, ?_⟩
  clear hK K' hS1 hB1 HHa cX fX hP3
  generalize w1c1.setCell ⟨w1.heap.size, 0, none⟩ (.slice ca S.R.cs.length cc) = w1c2 at *
  change wpAnyH _ _ _ _ _ _ _ (Act.put _ none undef) _
  go_frame
  refine wpAnyH_done (by kernel_rfl) ?_ _
  try go_frame
  have HP3 := Lib.hid (HP1.out.below hB2)
  have HE3 := Lib.hid (HE1.out.below hB2 HE1.out.lt)
  have Hcr3 := Lib.hid (Hcr.out.below hB2)
  have Hb3 := Lib.hid (bthen Hb1.out hB2)
  have HY3 : Hid (w1.heap.size < w1c2.heap.size) := Lib.hid HB3.out.lt
  clear hS2 hB2 HP1 HE1 Hcr Hb1 HX1
  generalize w1c2 = w3 at *
  generalize w1.heap.size = Y at *
  have cB := blk_one HB3.out
  go_wp2_with fail
  refine (psearch S.R.cs.length Y w.heap.size (fun i => decide ((S.R.cs.getD i ev0).at_ > e.at_)) w3 (by have := Hc256.out; omega) (fun W hW i hi => ?_) (fun i j hij hj hi => ?_)).mono ?_
  · obtain ⟨x, hx⟩ : ∃ x, S.R.cs[i]? = some x := ⟨_, List.getElem?_eq_getElem hi⟩
    have hgd : S.R.cs.getD i ev0 = x := by rw [List.getD_eq_getElem?_getD, hx]; rfl
    obtain ⟨g9, off9, c9, hv9, _, _⟩ := Hcr3.out.at_ hx
    obtain ⟨rfl, -, rfl⟩ : ca = some ⟨g9, off9, none⟩ ∧ True ∧ cc = c9 := by simpa using hv9
    simp only [hgd]
    cases hd : decide (x.at_ > e.at_) with
    | true => exact pclos_true (HB3.out.below hW HB3.out.lt) (HE3.out.below hW HE3.out.lt) (Hcr3.out.below hW) hx hd
    | false => exact pclos_false (HB3.out.below hW HB3.out.lt) (HE3.out.below hW HE3.out.lt) (Hcr3.out.below hW) hx hd
  · obtain ⟨y, hy⟩ : ∃ y, S.R.cs[j]? = some y := ⟨_, List.getElem?_eq_getElem hj⟩
    obtain ⟨x, hx⟩ : ∃ x, S.R.cs[i]? = some x := ⟨_, List.getElem?_eq_getElem (by omega)⟩
    have h1 : S.R.cs.getD i ev0 = x := by rw [List.getD_eq_getElem?_getD, hx]; rfl
    have h2 : S.R.cs.getD j ev0 = y := by rw [List.getD_eq_getElem?_getD, hy]; rfl
    simp only [h1, h2, decide_eq_true_eq] at hi ⊢
    have := sort_at Hso.out hij hx hy
    omega
  rintro en w4 ⟨k, rfl, hk, hk1, hk2, hb4⟩
  have HP4 := Lib.hid (HP3.out.below hb4)
  have HE4 := Lib.hid (HE3.out.below hb4 HE3.out.lt)
  have Hb4 := Lib.hid (bthen Hb3.out hb4)
  have Hins : Hid (ins e S.R.cs = S.R.cs.take k ++ [e] ++ S.R.cs.drop k) := Lib.hid (ins_at e S.R.cs k hk (fun t x ht hx => by
    have h9 := hk1 t ht
    rw [List.getD_eq_getElem?_getD, hx] at h9
    simpa using h9) (fun t x ht hx => by
    have h9 := hk2 t ht (List.getElem?_eq_some_iff.1 hx).1
    rw [List.getD_eq_getElem?_getD, hx] at h9
    simpa using h9))
  obtain ⟨N, hN⟩ : ∃ N, N = S.R.h.length + k := ⟨_, rfl⟩
  have HN := Lib.hid hN
  obtain ⟨m1, hm1⟩ : ∃ m1, m1 = (S.R.h ++ S.R.cs).length + 1 := ⟨_, rfl⟩
  have HM1 := Lib.hid hm1
  clear hm1 hN hk1 hk2 hb4 HP3 HE3 Hb3 HB3 Hcr3 cB HY3
  have HX4 := Lib.hid HP4.out.blk
  have HnX : Hid (¬ (Value.slice a0 m c0).ownBlock = some X) := Lib.hid (fun h9 => HP4.out.eX h9 rfl)
  have HnE : Hid (¬ (Value.slice a0 m c0).ownBlock = some w.heap.size) := Lib.hid (fun h9 => by
    have := Hlt.out w.heap.size (.inr (.inr (.inl h9))); omega)
  go_upto_region 7 with fail
  refine wp_regionM (S := fun w' => Kept (fun q => (Value.slice a0 m c0).ownBlock = some q) w4 w') 16 (by kernel_rfl) ?_
  change wpAnyM _ _ _ _ _ _ _ _ _ (World.drew _)
  have hS : Kept (fun q => (Value.slice a0 m c0).ownBlock = some q) w4 w4.drew := (Kept.refl _ _).drew
  have hB0 : Below w4.heap.size w4 w4.drew := (Below.refl _ _).drew
  refine takeM [14, 15, 16] hS (i := 0) (d := 26) (v := .pointer (some ⟨X, 0, none⟩)) rfl rfl (by kernel_rfl) (by kernel_rfl) (by kernel_rfl) (by kernel_rfl) (fun _ _ _ h => h) (Or.inl ⟨by kernel_rfl, fun w' hw' => by kernel_rfl⟩) ?_
  refine takeM [2, 3, 4, 13, 16] hS (i := 1) (d := 27) (v := .pointer (some ⟨X, 0, none⟩)) rfl rfl (by kernel_rfl) (by kernel_rfl) (by kernel_rfl) (by kernel_rfl) (fun _ _ _ h => h) (Or.inl ⟨by kernel_rfl, fun w' hw' => by kernel_rfl⟩) ?_
  refine takeM [3, 4, 13, 16] hS (i := 2) (d := 28) (v := .pointer (some ⟨X, 0, none⟩)) rfl rfl (by kernel_rfl) (by kernel_rfl) (by kernel_rfl) (by kernel_rfl) (fun _ _ _ h => h) (Or.inl ⟨by kernel_rfl, fun w' hw' => by kernel_rfl⟩) ?_
  refine takeM [4, 13, 16] hS (i := 3) (d := 29) (v := .pointer (some ⟨X, 1, none⟩)) rfl rfl (by kernel_rfl) (by kernel_rfl) (by kernel_rfl) (by kernel_rfl) (fun _ _ _ h => h) (Or.inl ⟨by kernel_rfl, fun w' hw' => by kernel_rfl⟩) ?_
  try go_frame
  refine takeM [13, 16] hS (i := 4) (d := 30) (v := .slice (a0) (m) (c0)) rfl rfl (by kernel_rfl) (by kernel_rfl) (by kernel_rfl) (by kernel_rfl) (fun _ _ _ h => h) (Or.inl ⟨by kernel_rfl, fun w' hw' => by exact exec_cellv _ rfl ⟨X, 1, none⟩ rfl (.slice (a0) (m) (c0)) Try.underlying88 rfl (((HX4.out.kept hw' HnX.out).cell 1).trans (rfl))⟩) ?_
  refine takeM [6, 7, 8, 10, 13, 16] hS (i := 5) (d := 31) (v := .pointer (some ⟨X, 0, none⟩)) rfl rfl (by kernel_rfl) (by kernel_rfl) (by kernel_rfl) (by kernel_rfl) (fun _ _ _ h => h) (Or.inl ⟨by kernel_rfl, fun w' hw' => by kernel_rfl⟩) ?_
  refine takeM [7, 8, 10, 13, 16] hS (i := 6) (d := 32) (v := .pointer (some ⟨X, 0, none⟩)) rfl rfl (by kernel_rfl) (by kernel_rfl) (by kernel_rfl) (by kernel_rfl) (fun _ _ _ h => h) (Or.inl ⟨by kernel_rfl, fun w' hw' => by kernel_rfl⟩) ?_
  refine takeM [8, 10, 13, 16] hS (i := 7) (d := 33) (v := .pointer (some ⟨X, 2, none⟩)) rfl rfl (by kernel_rfl) (by kernel_rfl) (by kernel_rfl) (by kernel_rfl) (fun _ _ _ h => h) (Or.inl ⟨by kernel_rfl, fun w' hw' => by kernel_rfl⟩) ?_
  try go_frame
  refine takeM [10, 13, 16] hS (i := 8) (d := 34) (v := .int .i64 ((S.R.h.length : Nat))) rfl rfl (by kernel_rfl) (by kernel_rfl) (by kernel_rfl) (by kernel_rfl) (fun _ _ _ h => h) (Or.inl ⟨by kernel_rfl, fun w' hw' => by exact exec_cell _ rfl ⟨X, 2, none⟩ rfl _ Try.underlying3 (((HX4.out.kept hw' HnX.out).cell 2).trans (rfl))⟩) ?_
  refine takeM [10, 13, 16] hS (i := 9) (d := 35) (v := .int .i64 ((k : Nat))) rfl rfl (by kernel_rfl) (by kernel_rfl) (by kernel_rfl) (by kernel_rfl) (fun _ _ _ h => h) (Or.inl ⟨by kernel_rfl, fun w' hw' => by kernel_rfl⟩) ?_
  refine takeM [13, 16] hS (i := 10) (d := 36) (v := .int .i64 ((N : Int))) rfl rfl (by kernel_rfl) (by kernel_rfl) (by kernel_rfl) (by kernel_rfl) (fun _ _ _ h => h) (Or.inl ⟨by kernel_rfl, fun w' hw' => by exact exec_add _ _ rfl ((S.R.h.length : Nat)) ((k : Nat)) ((N : Int)) rfl rfl (by have := HN.out; omega) (by have := HN.out; have := Hhn.out; have := Hcn.out; omega)⟩) ?_
  refine takeM [12, 13, 16] hS (i := 11) (d := 37) (v := .agg (evA e)) rfl rfl (by kernel_rfl) (by kernel_rfl) (by kernel_rfl) (by kernel_rfl) (fun _ _ _ h => h) (Or.inl ⟨by kernel_rfl, fun w' hw' => by exact exec_load _ rfl (w.heap.size) rfl (HE4.out.kept hw' HnE.out) Try.underlying37 rfl (info_evA He.out.len)⟩) ?_
  try go_frame
  refine nextM (i := 12) rfl (by kernel_rfl) (by kernel_rfl) (fun K' hK => ?_)
  refine wpo_buildK elEv (by decide) _ rfl (evA e) rfl (evA_size He.out.len) ?_
  have hal := below_alloc (w4.drew) (Obj.cells (evA e) 37)
  have HVB : Hid (Blk ((w4.drew).alloc (Obj.cells (evA e) 37)) w4.heap.size 37 (evA e)) := Lib.hid (Blk.new _ _ _)
  have hS1 : Kept (fun q => (Value.slice a0 m c0).ownBlock = some q) w4 ((w4.drew).alloc (Obj.cells (evA e) 37)) := kept_next hS hal
  have hB1 : Below w4.heap.size w4 ((w4.drew).alloc (Obj.cells (evA e) 37)) := bel_next hB0 hal
  refine hK.out _ _ ⟨fun _ => hS1, ?_⟩
  clear hK K' hal hS hB0
  change wpAnyM _ _ _ _ _ _ _ _ (Act.put _ (some 38) (.slice (some ⟨w4.heap.size, 0, none⟩) 1 1)) ((w4.drew).alloc (Obj.cells (evA e) 37))
  generalize (w4.drew).alloc (Obj.cells (evA e) 37) = w4c1 at *
  go_frame
  refine nextM (i := 13) rfl (by kernel_rfl) (by kernel_rfl) (fun K' hK => ?_)
  go_wp2_with fail
  refine (pinsN m1 e w4.heap.size N HM1.out (HP4.out.ev.below hB1) He.out HVB.out (fun h9 => by have := own_lt HP4.out.ev.own h9; omega) (by rw [List.length_append]; have := Hhn.out; have := Hcn.out; omega) (Nat.le_trans (Nat.le_trans Hlo.out Hb4.out.size) hB1.size) (by rw [List.length_append, HN.out]; omega)).mono ?_
  rintro en w4c2 ⟨a9, c9, rfl, hrow, hlen9, hk9, hin⟩
  have HR9 := Lib.hid hrow
  have HL9 := Lib.hid hlen9
  have HI9 := Lib.hid hin
  have HX9 := Lib.hid ((HP4.out.blk.below hB1 HP4.out.blk.lt).kept hk9 (fun h9 => HP4.out.eX h9 rfl))
  have HK9 := Lib.hid hk9
  have HBk := Lib.hid hB1
  have hS2 : Kept (fun q => (Value.slice a0 m c0).ownBlock = some q) w4 w4c2 := hS1.trans (hk9)
  refine hK.out _ _ ⟨fun _ => hS2, ?_⟩
  clear hK K' hS1
  refine takeM [15, 16] hS2 (i := 14) (d := 40) (v := .pointer (some ⟨X, 0, none⟩)) rfl rfl (by kernel_rfl) (by kernel_rfl) (by kernel_rfl) (by kernel_rfl) (fun _ _ _ h => h) (Or.inl ⟨by kernel_rfl, fun w' hw' => by kernel_rfl⟩) ?_
  refine takeM [16] hS2 (i := 15) (d := 41) (v := .pointer (some ⟨X, 1, none⟩)) rfl rfl (by kernel_rfl) (by kernel_rfl) (by kernel_rfl) (by kernel_rfl) (fun _ _ _ h => h) (Or.inl ⟨by kernel_rfl, fun w' hw' => by kernel_rfl⟩) ?_
  try go_frame
  refine nextM (i := 16) rfl (by kernel_rfl) (by kernel_rfl) (fun K' hK => ?_)
  have cX := (HX9.out.cell 1).trans (show _ = some (.slice a0 m c0) from rfl)
  have fX := HX9.out.frozen 1
  have HKF : Hid (Kept (fun q => q = X ∨ (Value.slice a0 m c0).ownBlock = some q) w4 ((w4c2).setCell ⟨X, 1, none⟩ (.slice a9 m1 c9))) := Lib.hid (Kept.setCell (hS2.mono (fun _ _ h => .inr h)) (p := ⟨X, 1, none⟩) (.inl rfl) _)
  go_wp2_with fail
  refine hK.out _ _ ⟨fun h9 => absurd rfl h9.1, ?_⟩
  clear hK K' hS2 cX fX
  change wpAnyM _ _ _ _ _ _ _ _ (Act.put _ none undef) _
  go_frame
  refine wpAnyM_done (by kernel_rfl) ?_ _
  try go_frame
  generalize hW9 : ((w4c2).setCell ⟨X, 1, none⟩ (.slice a9 m1 c9)) = w9 at *
  have HF : Hid (PdTo lo w X (PdF X D vz (.slice a0 m c0) l mb) ⟨⟨S.R.d, S.R.zs, ins e S.R.cs, S.R.h⟩, S.M⟩ w9) := Lib.hid ?_
  rotate_left
  · refine PdTo.after Hb4.out ?_
    subst hW9
    have hkx := (Kept.refl (· = X) w4c2).setCell (p := ⟨X, 1, none⟩) rfl (.slice a9 m1 c9)
    have hrowx := HR9.out.kept hkx (fun q hq e9 => own_unlike HR9.out.own HX9.out (by decide) (by rw [hq, e9]))
    have hlen : (S.R.h ++ ins e S.R.cs).length = (S.R.h ++ S.R.cs).length + 1 := by rw [List.length_append, List.length_append, ins_length]; omega
    rw [HN.out, plan_row hk, ← Hins.out] at hrowx
    have hDv : ∀ i, DvF D vz l i → ¬ ((Value.slice a0 m c0).ownBlock = some i) := fun i hi h9 => HP4.out.dvE h9 hi
    refine ⟨PdF X D vz (.slice a9 m1 c9) l mb, ⟨D, vz, _, l, mb, n, f, ⟨?_, ((HP4.out.dv.below HBk.out).kept HK9.out hDv).kept hkx (fun i hi e9 => HP4.out.dvX (e9 ▸ hi)), HP4.out.zs, hrowx, ((HP4.out.mp.below HBk.out).kept HK9.out (fun h9 => HP4.out.eM h9 rfl)).kept hkx (fun e9 => HP4.out.xM e9.symm), HP4.out.mkf, HP4.out.m64, HP4.out.mn, HP4.out.len, ins_sort Hso.out, HP4.out.leX, HP4.out.leM⟩, rfl⟩, HKF.out.mono (fun i _ hi => ?_), fun i hi => ?_⟩
    · have h9 := HX9.out.set 1 (.slice a9 m1 c9)
      exact h9
    · rcases hi with rfl | hi
      · exact .inl rfl
      · exact .inr (.inr (.inl hi))
    · rcases hi with rfl | hi | hi | rfl
      · exact .inl (.inl rfl)
      · exact .inl (.inr (.inl hi))
      · rcases HI9.out i hi with h9 | h9
        · exact .inl (.inr (.inr (.inl h9)))
        · exact .inr (Nat.le_trans HBk.out.size h9)
      · exact .inl (.inr (.inr (.inr rfl)))
  clear hW9
  go_wp2_with fail
  go_ret
  exact ⟨rfl, HF.out⟩
theorem ppl {lo X : Nat} {w : World} {S : St8} {F : Nat → Prop} (e : EvR) (he : EvOk e) (h : pdAt lo w X S F) (hf : Fine S) : Calls Try.prog 23 #[.pointer (some ⟨X, 0, none⟩), .agg (evA e)] w fun en w' => en = .returned (.int .i64 (plE e S.R.cs)) ∧ PdTo lo w X F (S.pl e) w' := by
  obtain ⟨D, vz, ve, l, mb, n, f, h, rfl⟩ := h
  obtain ⟨a0, c0, rfl, _, _⟩ := h.slice
  cases hr : evRight e with
  | false => rw [(pl_wrong (S := S) hr).1, (pl_wrong hr).2]; exact ppl_wrong e he rfl h hf hr
  | true =>
    by_cases hc : S.R.cs.length < 256
    · rw [(pl_in hr hc).1, (pl_in hr hc).2]; exact ppl_in e he rfl h hf hr hc
    · rw [(pl_full hr (Nat.le_of_not_lt hc)).1, (pl_full hr (Nat.le_of_not_lt hc)).2]; exact ppl_full e he rfl h hf hr (Nat.le_of_not_lt hc)
def theDrv : Drv where
  At := pdAt
  below := fun h hb => pdAt.below h hb
  kept := fun h k hn => pdAt.keptB h k hn
  lov := fun ⟨D, vz, ve, l, mb, n, f, h, e⟩ hi => by subst e; exact h.lov hi
  lt := fun h hi => pdAt.ltF h hi
  not := fun ⟨D, vz, ve, l, mb, n, f, h, e⟩ hb hd => by
    subst e
    refine h.not hb ?_ ?_ ?_ ?_ ?_ ?_ <;> (rintro rfl; revert hd; decide)
  sane := fun ⟨D, vz, ve, l, mb, n, f, h, e⟩ => h.sane
  neu := fun n size opn h1 h2 h3 hlo => pnew n size opn h1 h2 h3 hlo
  neuNo := fun n size opn h => pnewNo n size opn h
  dev := fun h => pdev h
  ap := fun z s h64 hlt h hf => pap z s h64 hlt h hf
  rd := fun z off h hf => prd z off h hf
  rs := fun z h hf => prs z h hf
  fn := fun z h hf => pfn z h hf
  fl := fun h hf => pfl h hf
  rv := fun h hk hf => prv h hk hf
  pl := fun e he h hf => ppl e he h hf
end Go.Proofs.Ytajkajgnjcnolaa

namespace Go.Proofs.Ytajkajgnjcnolaa
open Go.RowKit Go.Maps Go.Shelf
set_option linter.unusedVariables false
set_option linter.unnecessarySimpa false
set_option linter.unusedSimpArgs false
theorem RdE.same {T : TypeId} {lo : Nat} {w w' : World} {v : Value} {es : List EvR} (h : RdE T lo w v es) (k : ∀ g, v.ownBlock = some g → w'.heap[g]? = w.heap[g]?) : RdE T lo w' v es := by
  obtain ⟨hok, a, cap, rfl, h2, h3, h4, h5⟩ := h
  refine ⟨hok, a, cap, rfl, h2, h3, fun g hg => ⟨(h4 g hg).1, ?_⟩, fun hne => ?_⟩
  · obtain ⟨cur, hb⟩ := (h4 g hg).2
    exact ⟨cur, (k g hg).trans hb⟩
  · obtain ⟨g, off, rfl, hc⟩ := h5 hne
    have hg : (Value.slice (some ⟨g, off, none⟩) es.length cap).ownBlock = some g := rfl
    obtain ⟨cur, hb⟩ := (h4 g hg).2
    have hb' : Blk w' g T cur := (k g hg).trans hb
    refine ⟨g, off, rfl, fun i e he j u hu => ?_⟩
    have h6 := hc i e he j u hu
    rw [hb.cell] at h6
    exact (hb'.cell _).trans h6
theorem KpF.ltF {F : Nat → Prop} {W W' : World} (h : KpF F W W') {i : Nat} (hi : F i) (hl : i < W.heap.size) : i < W'.heap.size := by
  have h1 := h i hi
  rw [Array.getElem?_eq_getElem hl] at h1
  exact (Array.getElem?_eq_some_iff.1 h1).1
theorem KpF.put {F : Nat → Prop} {w : World} (hF : ∀ i, F i → i < w.heap.size) (W : World) (l : Nat) (o o' : Obj) (hl : w.heap.size ≤ l) (h : W.heap[l]? = some o) (_ : o.isCells = false) (_ : o.isWalk = false) : KpF F W (W.putObj l o') := fun i hi => by
  have := hF i hi
  show (W.heap.setIfInBounds l o')[i]? = _
  rw [Array.getElem?_setIfInBounds_ne (by omega)]
section
variable {F : Fence} {n : Nat} {P : Program} {w : World} {ops : Array Oper} {rest : List Oper} {o : Oper} {a : Act} {Q : Exit → Act → World → Prop}
end
end Go.Proofs.Ytajkajgnjcnolaa

namespace Go.Proofs.Ytajkajgnjcnolaa
open Go.RowKit
set_option linter.unusedVariables false
set_option linter.unusedSimpArgs false
section
variable {P : Program} {md : Region.Mode} {ops : Array Oper} {Q : Exit → Act → World → Prop} {l n : Nat}
def noDefer (ops : Array Oper) : Bool := ops.all fun o => match o.op with | .defer _ => false | _ => true
theorem noDefer_at (h : noDefer ops = true) {i : Nat} {o : Oper} (ho : ops[i]? = some o) : ∀ c, o.op ≠ .defer c := by
  intro c e
  unfold noDefer at h
  have h1 := (Array.all_eq_true_iff_forall_mem.1 h) o (Array.mem_of_getElem? ho)
  rw [e] at h1
  cases h1
theorem wpIn_of_wp {o : Oper} {a : Act} {w : World} {K : Act → World → Prop} (hnd : ∀ c, o.op ≠ .defer c) (h : Oper.wp P o a w K Q) : Oper.wpIn (Fence.wide.inRound l) n P o a w K Q := by
  unfold Oper.wpIn
  refine ⟨fun f _ => trivial, ?_⟩
  rw [Oper.semAt_plain _ _ _ hnd]
  unfold Oper.wp at h
  revert h
  generalize (execOp a.eval o).run P w = r
  intro h
  match r, h with
  | .ok (.value v) w', h => exact h
  | .ok .skip w', h => exact h
  | .ok (.defer d) w', h => exact h
  | .ok (.enter f args) w', h => exact ⟨fun h9 => (by cases h9), CallsIn.inRound l (callsIn_wide.2 h)⟩
  | .ok (.row row args) w', h => exact ⟨fun h9 => (by cases h9), fun c cs _ => let ⟨v, w2, r, s⟩ := h c cs; ⟨v, w2, r, stepsIn_wide.2 s⟩⟩
  | .ok (.round a b c d e) w', h => exact h.elim
  | .halt (.panic v) w', h => exact h
theorem wpOpIn_of {K : Act → World → Prop} {i : Nat} {a : Act} {w : World} (hd : noDefer ops = true) (hno : ¬ LetsOut Q) (h : wpOp P ops Q i K a w) : wpOpIn (Fence.wide.inRound l) n P ops Q i K a w := by
  unfold wpOp at h
  unfold wpOpIn
  cases hoi : ops[i]? with
  | none => simp only [hoi] at h ⊢; exact h
  | some o =>
    simp only [hoi] at h ⊢
    by_cases hw : Region.wanted o (yielded ops a.tmps) = true
    · rw [if_pos hw] at h ⊢
      exact wpIn_of_wp (noDefer_at hd hoi) (h.resolve_right (fun h9 => hno h9.2))
    · rw [if_neg hw] at h ⊢
      exact ⟨fun _ _ => trivial, h⟩
theorem wpAnyIn_of (hd : noDefer ops = true) (hno : ¬ LetsOut Q) : ∀ (fuel : Nat) (listed : Array Bool) (a : Act) (w : World), wpAny P md ops Q fuel listed a w → wpAnyIn (Fence.wide.inRound l) n P md ops Q fuel listed a w
  | 0, _, _, _, h => h
  | fuel + 1, _, _, _, h => ⟨h.1, fun i hi => wpOpIn_of hd hno (wpOp_mono (fun a' w' h' => wpAnyIn_of hd hno fuel _ a' w' h') (h.2 i hi))⟩
theorem wpIn_region_heldIn {id : Nat} {a : Act} {w : World} {S : World → Prop} (hm : P.follows .mixedOrders = true) (hd : noDefer ops = true) (hno : ¬ LetsOut Q) (h : wpAnyH P .any ops Q S ops.size (Array.replicate ops.size false) a w.drew) : (Code.region id ops true).wpIn (Fence.wide.inRound l) n P Q a w :=
  wpIn_region_any hm (wpAnyIn_of hd hno _ _ _ _ (wpAny_of_held _ _ _ _ h))
end
end Go.Proofs.Ytajkajgnjcnolaa

namespace Go.Proofs.Ytajkajgnjcnolaa
open Go.RowKit
set_option linter.unusedVariables false
set_option linter.unnecessarySimpa false
set_option linter.unusedSimpArgs false
section
variable {P : Program} {w : World} {ops : Array Oper} {rest : List Oper} {o : Oper} {a : Act} {Q : Exit → Act → World → Prop}
end
end Go.Proofs.Ytajkajgnjcnolaa

namespace Go.Proofs.Ytajkajgnjcnolaa
open Go.RowKit
set_option linter.unusedVariables false
set_option linter.unnecessarySimpa false
set_option linter.unusedSimpArgs false
def LookI (zs : List ZsR) (k : Nat) (ss : List (List Nat)) (q : Nat) : Prop := ∃ z, zs[k]? = some z ∧ z.ss.length = ss.length ∧ ∀ i, q ≤ i → z.ss[i]? = ss[i]?
theorem LookI.start {zs : List ZsR} {k : Nat} {z : ZsR} (hz : zs[k]? = some z) : LookI zs k z.ss 0 := ⟨z, hz, rfl, fun _ _ => rfl⟩
structure LkI (w : World) (D : Nat) (vz : Value) (d : DvR) (l : List ZcR) (v : Value) (m : Nat) (ss : List (List Nat)) (W : World) : Prop where
  dv : DvAt w.heap.size W D vz d l
  B : Below w.heap.size w W
  row : W.ownsRow w.heap.size 34 64 v m (flat ss)
  away : ∀ g, v.ownBlock = some g → ¬ DvF D vz l g
theorem LkI.below {w W W' : World} {D : Nat} {vz v : Value} {d : DvR} {l : List ZcR} {m : Nat} {ss : List (List Nat)} (h : LkI w D vz d l v m ss W) (hb : Below W.heap.size W W') : LkI w D vz d l v m ss W' :=
  ⟨h.dv.below hb, h.B.trans (hb.mono h.B.size), ownK_below h.row hb, h.away⟩
theorem LkI.to {w W W' : World} {D : Nat} {vz v : Value} {d d' : DvR} {l : List ZcR} {m : Nat} {ss : List (List Nat)} {zs' : List ZsR} (h : LkI w D vz d l v m ss W) (hT : DvTo w.heap.size W D vz l d' zs' W') :
    ∃ l', LkI w D vz d' l' v m ss W' ∧ l'.map ZcR.z = zs' ∧ ∀ g t cs, Blk W g t cs → ¬ DvF D vz l g → Blk W' g t cs ∧ ¬ DvF D vz l' g := by
  have hB := hT.bel h.dv h.B (Nat.le_refl _)
  obtain ⟨l', k1, k2, k3, k4⟩ := hT
  have hn : ∀ g, g < W.heap.size → ¬ DvF D vz l g → ¬ DvF D vz l' g := fun g hg hn hi => by
    rcases k4 g hi with h1 | h1
    · exact hn h1
    · omega
  exact ⟨l', ⟨k1, hB, own_kept h.row k3 (fun g hg => h.away g hg), fun g hg => hn g (own_lt h.row hg) (h.away g hg)⟩, k2, fun g t cs hb hg => ⟨hb.kept k3 hg, hn g hb.lt hg⟩⟩
end Go.Proofs.Ytajkajgnjcnolaa

namespace Go.Proofs.Ytajkajgnjcnolaa
open Go.RowKit Go.Shelf
set_option linter.unusedVariables false
set_option linter.unnecessarySimpa false
set_option linter.unusedSimpArgs false
theorem cln8 {lo D : Nat} {w : World} {vz : Value} {d : DvR} {l : List ZcR} {i s : Int} (hs : lnD (l.map ZcR.z) i = s) (h : DvAt lo w D vz d l) : Calls Try.prog 13 #[.pointer (some ⟨D, 0, none⟩), .int .i64 i] w fun e w' => e = .returned (.int .i64 s) ∧ Below w.heap.size w w' := by
  subst hs
  refine (cln7 i h).mono ?_
  rintro e w' ⟨rfl, rfl⟩
  exact ⟨rfl, Below.refl _ _⟩
theorem pdevP {lo X D mb n : Nat} {w : World} {S : St8} {vz ve : Value} {l : List ZcR} {f : Int × Int → Option (List Nat × Int)} (h : PdAt lo w X S D vz ve l mb n f) : Calls Try.prog 12 #[.pointer (some ⟨X, 0, none⟩)] w fun e w' => e = .returned (.pointer (some ⟨D, 0, none⟩)) ∧ w = w' := by
  have c0 := h.c0
  clear h
  go_enter Try.func12, Try.ntmps12
  go_wp2_with fail
  go_ret
  exact ⟨rfl, rfl⟩
end Go.Proofs.Ytajkajgnjcnolaa

