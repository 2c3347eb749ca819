import Derived.Test.YtajkajgnjcnolaaMp23
namespace Go.Proofs.Ytajkajgnjcnolaa
open Go.RowKit
set_option linter.unusedVariables false
set_option linter.unnecessarySimpa false
set_option linter.unusedSimpArgs false
set_option maxRecDepth 100000 in
set_option maxHeartbeats 8000000 in
theorem st8_3 {C : Drv} {lo X : Nat} {w wA : World} {S : St8} {F : Nat → Prop} {az ac ah : Option Addr} {nz cz cc ch : Nat} (o : Op8) (ho : Op8Ok wA o) (hbA : Below wA.heap.size wA w) (hloA : wA.heap.size ≤ lo) (hA : C.At lo w X S F) (hf : Fine S) (hD : Dc lo w (.slice az nz cz) (.slice ac S.R.cs.length cc) (.slice ah S.R.h.length ch) S.R) (hlo : lo ≤ w.heap.size) (hk : o.k = 3) :
    Calls Try.prog 10 #[.pointer (some ⟨X, 0, none⟩), .agg (d8A (dd7 S.R.d) (.slice az nz cz) (.slice ac S.R.cs.length cc) (.slice ah S.R.h.length ch)), .agg (op8A o)] w (STo8 C lo w X F (S.rs o.z)) := by
  have HS : Hid (Trio7 30 39 30 w (d8A (dd7 S.R.d) (.slice az nz cz) (.slice ac S.R.cs.length cc) (.slice ah S.R.h.length ch)) (op8A o) d8Z (((w.alloc (Obj.cells (d8A (dd7 S.R.d) (.slice az nz cz) (.slice ac S.R.cs.length cc) (.slice ah S.R.h.length ch)) 30)).alloc (Obj.cells (op8A o) 39)).alloc (Obj.cells #[.slice none 0 0, .int .i64 0, .int .i64 0, .int .i64 0, .bool false, .slice none 0 0, .slice none 0 0] 30))) := Lib.hid Trio7.start
  have HA := Lib.hid (C.below hA HS.out.b)
  have HD := Lib.hid (hD.below HS.out.b)
  have Hsn := Lib.hid (C.sane hA)
  have Hlo := Lib.hid hlo
  have Ho := Lib.hid ho
  have Hf := Lib.hid hf
  have HbA := Lib.hid hbA
  have HloA := Lib.hid hloA
  clear hA hD ho hf hbA hloA hlo
  go_enter Try.func10, Try.ntmps10
  go_upto_region 1 with fail
  generalize (((w.alloc (Obj.cells (d8A (dd7 S.R.d) (.slice az nz cz) (.slice ac S.R.cs.length cc) (.slice ah S.R.h.length ch)) 30)).alloc (Obj.cells (op8A o) 39)).alloc (Obj.cells #[.slice none 0 0, .int .i64 0, .int .i64 0, .int .i64 0, .bool false, .slice none 0 0, .slice none 0 0] 30)) = w0 at *
  have c0 : w0.cell? ⟨w.heap.size + 1, 0, none⟩ = some (.int .i64 3) := (HS.out.y.cell 0).trans ((op8_0 o).trans (by rw [hk]))
  have c1 : w0.cell? ⟨w.heap.size + 1, 1, none⟩ = some (.int .i64 o.z) := (HS.out.y.cell 1).trans (op8_1 o)
  have c2 : w0.cell? ⟨w.heap.size + 1, 2, none⟩ = some (.int .i64 o.off) := (HS.out.y.cell 2).trans (op8_2 o)
  go_wp2_with (first | (refine wpl_load rfl _ rfl (w.heap.size) rfl _ _ _ (HS.out.x) Try.underlying30 rfl Try.info8D ?_; go_frame))
  have hdue : Calls Try.prog 27 #[.agg (d8A (dd7 S.R.d) (.slice az nz cz) (.slice ac S.R.cs.length cc) (.slice ah S.R.h.length ch)), .int .i64 o.z, .bool false] w0 (DuTo lo w0 (S.due o.z false).R) := g8due o.z az nz cz ac cc ah ch false HD.out.zs Hsn.out HD.out.cs HD.out.h (by have := Hf.out.h; have := Hf.out.cs; omega) (by have := HS.out.g.lt; have := Hlo.out; omega)
  refine hdue.mono ?_
  have hfa := due_facts o.z false HD.out.cs.ok Hsn.out
  obtain ⟨T, hTe⟩ : ∃ T, S.due o.z false = T := ⟨_, rfl⟩
  have HTe := Lib.hid hTe
  rw [hTe] at hfa ⊢
  have HsnT := Lib.hid hfa.1
  have HnT : Hid (0 ≤ T.R.d.count ∧ T.R.d.count ≤ 1000000) := Lib.hid ⟨by rw [hfa.2.1]; exact Hf.out.n0, by rw [hfa.2.1]; have := Hf.out.n1; omega⟩
  clear hTe hfa hdue
  rintro e w1 ⟨az1, nz1, cz1, ac1, cc1, ah1, ch1, rfl, hz1, hc1, hh1, hb1⟩
  have HS1 := Lib.hid (HS.out.below hb1)
  have HA1 := Lib.hid (C.below HA.out hb1)
  have HD1 : Hid (Dc lo w1 (.slice az1 nz1 cz1) (.slice ac1 T.R.cs.length cc1) (.slice ah1 T.R.h.length ch1) T.R) := Lib.hid ⟨hz1, hc1, hh1⟩
  clear hz1 hc1 hh1 hb1 HS HA HD Hsn c0 c1 c2
  go_upto_region 3 with (first | (refine wpl_store rfl _ _ rfl (w.heap.size) (d8A (dd7 T.R.d) (.slice az1 nz1 cz1) (.slice ac1 T.R.cs.length cc1) (.slice ah1 T.R.h.length ch1)) rfl rfl _ _ HS1.out.x Try.info8D rfl (d8A_one _ _ _ _ _ _ _ _ _ _) ?_; intro w2 hX2 hK2; have HS2 := Lib.hid (HS1.out.inx hX2 hK2); have HA2 := Lib.hid (C.kept HA1.out hK2 (fun i hi e9 => C.not HA1.out HS1.out.x (by decide) (e9 ▸ hi))); have HD2 := Lib.hid (HD1.out.keptB HS1.out.x (by decide) (by decide) (by decide) hK2); clear hX2 hK2; go_frame))
  clear HS1 HA1 HD1
  have c0 : w2.cell? ⟨w.heap.size + 1, 0, none⟩ = some (.int .i64 3) := (HS2.out.y.cell 0).trans ((op8_0 o).trans (by rw [hk]))
  have c1 : w2.cell? ⟨w.heap.size + 1, 1, none⟩ = some (.int .i64 o.z) := (HS2.out.y.cell 1).trans (op8_1 o)
  have c2 : w2.cell? ⟨w.heap.size + 1, 2, none⟩ = some (.int .i64 o.off) := (HS2.out.y.cell 2).trans (op8_2 o)
  clear hk
  have hl2 : lo ≤ w2.heap.size := by have := HS2.out.g.lt; have := Hlo.out; omega
  go_wp2_with (first | (refine wpl_load_at (by rfl) 27 _ rfl (w.heap.size) 0 rfl (d7A (dd7 T.R.d) (.slice az1 nz1 cz1)) _ (d8_dev HS2.out.x) Try.underlying27 rfl Try.info7D ?_; go_frame))
  refine (grs7 o.z HD2.out.zs HsnT.out HnT.out hl2).mono ?_
  obtain ⟨O, hO⟩ : ∃ O, S.rsO o.z = O := ⟨_, rfl⟩
  have HR : Hid ((S.rs o.z).R = ⟨O.d, O.zs, T.R.cs, T.R.h⟩) := Lib.hid (by simp only [St8.ap, St8.rd, St8.rs, St8.fn, St8.fl, St8.put, hO, HTe.out])
  have HO : Hid (rsSp T.R.d T.R.zs o.z = O) := Lib.hid (by rw [← hO, ← HTe.out]; rfl)
  have HOo := Lib.hid hO
  clear hO
  rw [HO.out]
  rintro e w4 ⟨v8, rfl, hd8, hb⟩
  obtain ⟨a8, n8, c8, rfl⟩ := hd8.slice
  have HS4 := Lib.hid (HS2.out.below hb)
  have HA4 := Lib.hid (C.below HA2.out hb)
  have HD4 : Hid (Dc lo w4 (.slice a8 n8 c8) (.slice ac1 T.R.cs.length cc1) (.slice ah1 T.R.h.length ch1) ⟨O.d, O.zs, T.R.cs, T.R.h⟩) := Lib.hid ⟨hd8, HD2.out.cs.below hb, HD2.out.h.below hb⟩
  clear hd8 hb hl2 c0 c1 c2 HS2 HA2 HD2
  go_upto_region 17 with (first | (refine wpl_store_at rfl 27 _ _ rfl (w.heap.size) 0 (d7A (dd7 O.d) (.slice a8 n8 c8)) rfl rfl 30 (d8L (dd7 T.R.d) (.slice az1 nz1 cz1) (.slice ac1 T.R.cs.length cc1) (.slice ah1 T.R.h.length ch1)) HS4.out.x (show 0 + 5 ≤ 7 by decide) Try.info7D (d7A_one _ _ _ _) ?_; intro w5 hBx hkx; have HS5 := Lib.hid (HS4.out.inx (x := (d8A (dd7 O.d) (.slice a8 n8 c8) (.slice ac1 T.R.cs.length cc1) (.slice ah1 T.R.h.length ch1))) hBx hkx); have HA5 := Lib.hid (C.kept HA4.out hkx (fun i hi e9 => C.not HA4.out HS4.out.x (by decide) (e9 ▸ hi))); have HD5 := Lib.hid (HD4.out.keptB HS4.out.x (by decide) (by decide) (by decide) hkx); clear hBx hkx; go_frame))
  clear HS4 HA4 HD4
  refine wp_region_held (S := fun w' => Blk w' (w.heap.size) 30 (d8A (dd7 O.d) (.slice a8 n8 c8) (.slice ac1 T.R.cs.length cc1) (.slice ah1 T.R.h.length ch1)) ∧ Blk w' (w.heap.size + 1) 39 (op8A o)) (by kernel_rfl) ?_
  change wpAnyH _ _ _ _ _ _ _ _ (World.drew _)
  have hS : Blk w5.drew (w.heap.size) 30 (d8A (dd7 O.d) (.slice a8 n8 c8) (.slice ac1 T.R.cs.length cc1) (.slice ah1 T.R.h.length ch1)) ∧ Blk w5.drew (w.heap.size + 1) 39 (op8A o) := ⟨HS5.out.x, HS5.out.y⟩
  refine takeH hS (i := 0) (d := 107) (v := .agg (d8A (dd7 O.d) (.slice a8 n8 c8) (.slice ac1 T.R.cs.length cc1) (.slice ah1 T.R.h.length ch1))) rfl rfl (by kernel_rfl) (by kernel_rfl) (by kernel_rfl) (fun _ _ _ h => h) (Or.inl ⟨by kernel_rfl, fun w' hw' => by exact exec_load _ rfl (w.heap.size) rfl hw'.1 Try.underlying30 rfl Try.info8D⟩) ?_
  refine takeH hS (i := 1) (d := 108) (v := .pointer (some ⟨X, 0, none⟩)) rfl rfl (by kernel_rfl) (by kernel_rfl) (by kernel_rfl) (fun _ _ _ h => h) (Or.inl ⟨by kernel_rfl, fun w' hw' => by kernel_rfl⟩) ?_
  refine takeH hS (i := 2) (d := 109) (v := .pointer (some ⟨w.heap.size + 1, 1, none⟩)) rfl rfl (by kernel_rfl) (by kernel_rfl) (by kernel_rfl) (fun _ _ _ h => h) (Or.inl ⟨by kernel_rfl, fun w' hw' => by kernel_rfl⟩) ?_
  try go_frame
  refine takeH hS (i := 3) (d := 110) (v := .int .i64 o.z) rfl rfl (by kernel_rfl) (by kernel_rfl) (by kernel_rfl) (fun _ _ _ h => h) (Or.inl ⟨by kernel_rfl, fun w' hw' => by exact exec_cell _ rfl ⟨w.heap.size + 1, 1, none⟩ rfl _ Try.underlying3 ((hw'.2.cell 1).trans (op8_1 o))⟩) ?_
  refine takeH hS (i := 5) (d := 112) (v := .int .i64 O.e) rfl rfl (by kernel_rfl) (by kernel_rfl) (by kernel_rfl) (fun _ _ _ h => h) (Or.inl ⟨by kernel_rfl, fun w' hw' => by kernel_rfl⟩) ?_
  try go_frame
  have hbd : Below w5.heap.size w5 w5.drew := (Below.refl _ _).drew
  have HA6 := Lib.hid (C.below HA5.out hbd)
  have HS6 := Lib.hid (HS5.out.below hbd)
  have HD6 := Lib.hid (HD5.out.below hbd)
  clear hbd HA5 HS5 HD5
  refine nextH (i := 4) rfl (by kernel_rfl) (by kernel_rfl) (fun K' hK => ?_)
  go_wp2_with fail
  refine (C.rs o.z HA6.out Hf.out).mono ?_
  rw [HOo.out]
  rintro en w7 ⟨rfl, hT⟩
  have hT' : DrTo C lo w5.drew X F (S.rs o.z) w7 := hT
  have hS7 : Blk w7 (w.heap.size) 30 (d8A (dd7 O.d) (.slice a8 n8 c8) (.slice ac1 T.R.cs.length cc1) (.slice ah1 T.R.h.length ch1)) ∧ Blk w7 (w.heap.size + 1) 39 (op8A o) := ⟨hT'.blk HA6.out hS.1 (by decide), hT'.blk HA6.out hS.2 (by decide)⟩
  have HN := Lib.hid (HS6.out.cmd8 HA6.out hT')
  have HDN := Lib.hid (HD6.out.cmd HA6.out hT')
  refine hK.out _ _ ⟨hS7, ?_⟩
  clear hK K' hS hT hT' HA6 HS6 HD6
  try go_frame
  refine takeH hS7 (i := 6) (d := 113) (v := .bool true) rfl rfl (by kernel_rfl) (by kernel_rfl) (by kernel_rfl) (fun _ _ _ h => h) (Or.inl ⟨by kernel_rfl, fun w' hw' => by exact exec_eql _ _ rfl O.e O.e rfl rfl true (decide_eq_true rfl) rfl⟩) ?_
  try go_frame
  refine nextH (i := 7) rfl (by kernel_rfl) (by kernel_rfl) (fun K' hK => ?_)
  refine wpo_store _ _ rfl (w.heap.size + 2) (d8A (dd7 O.d) (.slice a8 n8 c8) (.slice ac1 T.R.cs.length cc1) (.slice ah1 T.R.h.length ch1)) rfl rfl _ _ HN.out.g (Try.info8D) rfl (d8A_one _ _ _ _ _ _ _ _ _ _) ?_
  intro w9 hSg hKg
  have HF := Lib.hid (HN.out.out hSg hKg)
  have HDF := Lib.hid (HDN.out.keptB HN.out.g (by decide) (by decide) (by decide) hKg)
  have hS8 : Blk w9 (w.heap.size) 30 (d8A (dd7 O.d) (.slice a8 n8 c8) (.slice ac1 T.R.cs.length cc1) (.slice ah1 T.R.h.length ch1)) ∧ Blk w9 (w.heap.size + 1) 39 (op8A o) := ⟨hS7.1.kept hKg (by omega), hS7.2.kept hKg (by omega)⟩
  refine hK.out _ _ ⟨hS8, ?_⟩
  clear hK K' hSg hKg hS7
  try go_frame
  refine takeH hS8 (i := 8) (d := 7) (v := .bool true) rfl rfl (by kernel_rfl) (by kernel_rfl) (by kernel_rfl) (fun _ _ _ h => h) (Or.inl ⟨by kernel_rfl, fun w' hw' => by kernel_rfl⟩) ?_
  try go_frame
  refine wpAnyH_done (by kernel_rfl) ?_ _
  go_wp2_with fail
  exact bodyPost_ret (v := .tuple #[.agg (d8A (dd7 O.d) (.slice a8 n8 c8) (.slice ac1 T.R.cs.length cc1) (.slice ah1 T.R.h.length ch1)), .bool true]) (results_cell_slot Try.results10 _ _ (w.heap.size + 2) 30 _ _ _ rfl rfl HF.out.g Try.underlying30 rfl Try.info8D) rfl (by unfold STo8; rw [HR.out]; exact ⟨_, _, _, _, _, _, _, rfl, HDF.out, HF.out.dr⟩)
set_option maxRecDepth 100000 in
set_option maxHeartbeats 8000000 in
theorem st8_4 {C : Drv} {lo X : Nat} {w wA : World} {S : St8} {F : Nat → Prop} {az ac ah : Option Addr} {nz cz cc ch : Nat} (o : Op8) (ho : Op8Ok wA o) (hbA : Below wA.heap.size wA w) (hloA : wA.heap.size ≤ lo) (hA : C.At lo w X S F) (hf : Fine S) (hD : Dc lo w (.slice az nz cz) (.slice ac S.R.cs.length cc) (.slice ah S.R.h.length ch) S.R) (hlo : lo ≤ w.heap.size) (hk : o.k = 4) :
    Calls Try.prog 10 #[.pointer (some ⟨X, 0, none⟩), .agg (d8A (dd7 S.R.d) (.slice az nz cz) (.slice ac S.R.cs.length cc) (.slice ah S.R.h.length ch)), .agg (op8A o)] w (STo8 C lo w X F (S.fn o.z)) := by
  have HS : Hid (Trio7 30 39 30 w (d8A (dd7 S.R.d) (.slice az nz cz) (.slice ac S.R.cs.length cc) (.slice ah S.R.h.length ch)) (op8A o) d8Z (((w.alloc (Obj.cells (d8A (dd7 S.R.d) (.slice az nz cz) (.slice ac S.R.cs.length cc) (.slice ah S.R.h.length ch)) 30)).alloc (Obj.cells (op8A o) 39)).alloc (Obj.cells #[.slice none 0 0, .int .i64 0, .int .i64 0, .int .i64 0, .bool false, .slice none 0 0, .slice none 0 0] 30))) := Lib.hid Trio7.start
  have HA := Lib.hid (C.below hA HS.out.b)
  have HD := Lib.hid (hD.below HS.out.b)
  have Hsn := Lib.hid (C.sane hA)
  have Hlo := Lib.hid hlo
  have Ho := Lib.hid ho
  have Hf := Lib.hid hf
  have HbA := Lib.hid hbA
  have HloA := Lib.hid hloA
  clear hA hD ho hf hbA hloA hlo
  go_enter Try.func10, Try.ntmps10
  go_upto_region 1 with fail
  generalize (((w.alloc (Obj.cells (d8A (dd7 S.R.d) (.slice az nz cz) (.slice ac S.R.cs.length cc) (.slice ah S.R.h.length ch)) 30)).alloc (Obj.cells (op8A o) 39)).alloc (Obj.cells #[.slice none 0 0, .int .i64 0, .int .i64 0, .int .i64 0, .bool false, .slice none 0 0, .slice none 0 0] 30)) = w0 at *
  have c0 : w0.cell? ⟨w.heap.size + 1, 0, none⟩ = some (.int .i64 4) := (HS.out.y.cell 0).trans ((op8_0 o).trans (by rw [hk]))
  have c1 : w0.cell? ⟨w.heap.size + 1, 1, none⟩ = some (.int .i64 o.z) := (HS.out.y.cell 1).trans (op8_1 o)
  have c2 : w0.cell? ⟨w.heap.size + 1, 2, none⟩ = some (.int .i64 o.off) := (HS.out.y.cell 2).trans (op8_2 o)
  go_wp2_with (first | (refine wpl_load rfl _ rfl (w.heap.size) rfl _ _ _ (HS.out.x) Try.underlying30 rfl Try.info8D ?_; go_frame))
  have hdue : Calls Try.prog 27 #[.agg (d8A (dd7 S.R.d) (.slice az nz cz) (.slice ac S.R.cs.length cc) (.slice ah S.R.h.length ch)), .int .i64 o.z, .bool false] w0 (DuTo lo w0 (S.due o.z false).R) := g8due o.z az nz cz ac cc ah ch false HD.out.zs Hsn.out HD.out.cs HD.out.h (by have := Hf.out.h; have := Hf.out.cs; omega) (by have := HS.out.g.lt; have := Hlo.out; omega)
  refine hdue.mono ?_
  have hfa := due_facts o.z false HD.out.cs.ok Hsn.out
  obtain ⟨T, hTe⟩ : ∃ T, S.due o.z false = T := ⟨_, rfl⟩
  have HTe := Lib.hid hTe
  rw [hTe] at hfa ⊢
  have HsnT := Lib.hid hfa.1
  have HnT : Hid (0 ≤ T.R.d.count ∧ T.R.d.count ≤ 1000000) := Lib.hid ⟨by rw [hfa.2.1]; exact Hf.out.n0, by rw [hfa.2.1]; have := Hf.out.n1; omega⟩
  clear hTe hfa hdue
  rintro e w1 ⟨az1, nz1, cz1, ac1, cc1, ah1, ch1, rfl, hz1, hc1, hh1, hb1⟩
  have HS1 := Lib.hid (HS.out.below hb1)
  have HA1 := Lib.hid (C.below HA.out hb1)
  have HD1 : Hid (Dc lo w1 (.slice az1 nz1 cz1) (.slice ac1 T.R.cs.length cc1) (.slice ah1 T.R.h.length ch1) T.R) := Lib.hid ⟨hz1, hc1, hh1⟩
  clear hz1 hc1 hh1 hb1 HS HA HD Hsn c0 c1 c2
  go_upto_region 3 with (first | (refine wpl_store rfl _ _ rfl (w.heap.size) (d8A (dd7 T.R.d) (.slice az1 nz1 cz1) (.slice ac1 T.R.cs.length cc1) (.slice ah1 T.R.h.length ch1)) rfl rfl _ _ HS1.out.x Try.info8D rfl (d8A_one _ _ _ _ _ _ _ _ _ _) ?_; intro w2 hX2 hK2; have HS2 := Lib.hid (HS1.out.inx hX2 hK2); have HA2 := Lib.hid (C.kept HA1.out hK2 (fun i hi e9 => C.not HA1.out HS1.out.x (by decide) (e9 ▸ hi))); have HD2 := Lib.hid (HD1.out.keptB HS1.out.x (by decide) (by decide) (by decide) hK2); clear hX2 hK2; go_frame))
  clear HS1 HA1 HD1
  have c0 : w2.cell? ⟨w.heap.size + 1, 0, none⟩ = some (.int .i64 4) := (HS2.out.y.cell 0).trans ((op8_0 o).trans (by rw [hk]))
  have c1 : w2.cell? ⟨w.heap.size + 1, 1, none⟩ = some (.int .i64 o.z) := (HS2.out.y.cell 1).trans (op8_1 o)
  have c2 : w2.cell? ⟨w.heap.size + 1, 2, none⟩ = some (.int .i64 o.off) := (HS2.out.y.cell 2).trans (op8_2 o)
  clear hk
  have hl2 : lo ≤ w2.heap.size := by have := HS2.out.g.lt; have := Hlo.out; omega
  go_wp2_with (first | (refine wpl_load_at (by rfl) 27 _ rfl (w.heap.size) 0 rfl (d7A (dd7 T.R.d) (.slice az1 nz1 cz1)) _ (d8_dev HS2.out.x) Try.underlying27 rfl Try.info7D ?_; go_frame))
  refine (gfn7 o.z HD2.out.zs HsnT.out HnT.out hl2).mono ?_
  obtain ⟨O, hO⟩ : ∃ O, S.fnO o.z = O := ⟨_, rfl⟩
  have HR : Hid ((S.fn o.z).R = ⟨O.d, O.zs, T.R.cs, T.R.h⟩) := Lib.hid (by simp only [St8.ap, St8.rd, St8.rs, St8.fn, St8.fl, St8.put, hO, HTe.out])
  have HO : Hid (fnSp T.R.d T.R.zs o.z = O) := Lib.hid (by rw [← hO, ← HTe.out]; rfl)
  have HOo := Lib.hid hO
  clear hO
  rw [HO.out]
  rintro e w4 ⟨v8, rfl, hd8, hb⟩
  obtain ⟨a8, n8, c8, rfl⟩ := hd8.slice
  have HS4 := Lib.hid (HS2.out.below hb)
  have HA4 := Lib.hid (C.below HA2.out hb)
  have HD4 : Hid (Dc lo w4 (.slice a8 n8 c8) (.slice ac1 T.R.cs.length cc1) (.slice ah1 T.R.h.length ch1) ⟨O.d, O.zs, T.R.cs, T.R.h⟩) := Lib.hid ⟨hd8, HD2.out.cs.below hb, HD2.out.h.below hb⟩
  clear hd8 hb hl2 c0 c1 c2 HS2 HA2 HD2
  go_upto_region 20 with (first | (refine wpl_store_at rfl 27 _ _ rfl (w.heap.size) 0 (d7A (dd7 O.d) (.slice a8 n8 c8)) rfl rfl 30 (d8L (dd7 T.R.d) (.slice az1 nz1 cz1) (.slice ac1 T.R.cs.length cc1) (.slice ah1 T.R.h.length ch1)) HS4.out.x (show 0 + 5 ≤ 7 by decide) Try.info7D (d7A_one _ _ _ _) ?_; intro w5 hBx hkx; have HS5 := Lib.hid (HS4.out.inx (x := (d8A (dd7 O.d) (.slice a8 n8 c8) (.slice ac1 T.R.cs.length cc1) (.slice ah1 T.R.h.length ch1))) hBx hkx); have HA5 := Lib.hid (C.kept HA4.out hkx (fun i hi e9 => C.not HA4.out HS4.out.x (by decide) (e9 ▸ hi))); have HD5 := Lib.hid (HD4.out.keptB HS4.out.x (by decide) (by decide) (by decide) hkx); clear hBx hkx; go_frame))
  clear HS4 HA4 HD4
  refine wp_region_held (S := fun w' => Blk w' (w.heap.size) 30 (d8A (dd7 O.d) (.slice a8 n8 c8) (.slice ac1 T.R.cs.length cc1) (.slice ah1 T.R.h.length ch1)) ∧ Blk w' (w.heap.size + 1) 39 (op8A o)) (by kernel_rfl) ?_
  change wpAnyH _ _ _ _ _ _ _ _ (World.drew _)
  have hS : Blk w5.drew (w.heap.size) 30 (d8A (dd7 O.d) (.slice a8 n8 c8) (.slice ac1 T.R.cs.length cc1) (.slice ah1 T.R.h.length ch1)) ∧ Blk w5.drew (w.heap.size + 1) 39 (op8A o) := ⟨HS5.out.x, HS5.out.y⟩
  refine takeH hS (i := 0) (d := 125) (v := .agg (d8A (dd7 O.d) (.slice a8 n8 c8) (.slice ac1 T.R.cs.length cc1) (.slice ah1 T.R.h.length ch1))) rfl rfl (by kernel_rfl) (by kernel_rfl) (by kernel_rfl) (fun _ _ _ h => h) (Or.inl ⟨by kernel_rfl, fun w' hw' => by exact exec_load _ rfl (w.heap.size) rfl hw'.1 Try.underlying30 rfl Try.info8D⟩) ?_
  refine takeH hS (i := 1) (d := 126) (v := .pointer (some ⟨X, 0, none⟩)) rfl rfl (by kernel_rfl) (by kernel_rfl) (by kernel_rfl) (fun _ _ _ h => h) (Or.inl ⟨by kernel_rfl, fun w' hw' => by kernel_rfl⟩) ?_
  refine takeH hS (i := 2) (d := 127) (v := .pointer (some ⟨w.heap.size + 1, 1, none⟩)) rfl rfl (by kernel_rfl) (by kernel_rfl) (by kernel_rfl) (fun _ _ _ h => h) (Or.inl ⟨by kernel_rfl, fun w' hw' => by kernel_rfl⟩) ?_
  try go_frame
  refine takeH hS (i := 3) (d := 128) (v := .int .i64 o.z) rfl rfl (by kernel_rfl) (by kernel_rfl) (by kernel_rfl) (fun _ _ _ h => h) (Or.inl ⟨by kernel_rfl, fun w' hw' => by exact exec_cell _ rfl ⟨w.heap.size + 1, 1, none⟩ rfl _ Try.underlying3 ((hw'.2.cell 1).trans (op8_1 o))⟩) ?_
  refine takeH hS (i := 5) (d := 130) (v := .int .i64 O.e) rfl rfl (by kernel_rfl) (by kernel_rfl) (by kernel_rfl) (fun _ _ _ h => h) (Or.inl ⟨by kernel_rfl, fun w' hw' => by kernel_rfl⟩) ?_
  try go_frame
  have hbd : Below w5.heap.size w5 w5.drew := (Below.refl _ _).drew
  have HA6 := Lib.hid (C.below HA5.out hbd)
  have HS6 := Lib.hid (HS5.out.below hbd)
  have HD6 := Lib.hid (HD5.out.below hbd)
  clear hbd HA5 HS5 HD5
  refine nextH (i := 4) rfl (by kernel_rfl) (by kernel_rfl) (fun K' hK => ?_)
  go_wp2_with fail
  refine (C.fn o.z HA6.out Hf.out).mono ?_
  rw [HOo.out]
  rintro en w7 ⟨rfl, hT⟩
  have hT' : DrTo C lo w5.drew X F (S.fn o.z) w7 := hT
  have hS7 : Blk w7 (w.heap.size) 30 (d8A (dd7 O.d) (.slice a8 n8 c8) (.slice ac1 T.R.cs.length cc1) (.slice ah1 T.R.h.length ch1)) ∧ Blk w7 (w.heap.size + 1) 39 (op8A o) := ⟨hT'.blk HA6.out hS.1 (by decide), hT'.blk HA6.out hS.2 (by decide)⟩
  have HN := Lib.hid (HS6.out.cmd8 HA6.out hT')
  have HDN := Lib.hid (HD6.out.cmd HA6.out hT')
  refine hK.out _ _ ⟨hS7, ?_⟩
  clear hK K' hS hT hT' HA6 HS6 HD6
  try go_frame
  refine takeH hS7 (i := 6) (d := 131) (v := .bool true) rfl rfl (by kernel_rfl) (by kernel_rfl) (by kernel_rfl) (fun _ _ _ h => h) (Or.inl ⟨by kernel_rfl, fun w' hw' => by exact exec_eql _ _ rfl O.e O.e rfl rfl true (decide_eq_true rfl) rfl⟩) ?_
  try go_frame
  refine nextH (i := 7) rfl (by kernel_rfl) (by kernel_rfl) (fun K' hK => ?_)
  refine wpo_store _ _ rfl (w.heap.size + 2) (d8A (dd7 O.d) (.slice a8 n8 c8) (.slice ac1 T.R.cs.length cc1) (.slice ah1 T.R.h.length ch1)) rfl rfl _ _ HN.out.g (Try.info8D) rfl (d8A_one _ _ _ _ _ _ _ _ _ _) ?_
  intro w9 hSg hKg
  have HF := Lib.hid (HN.out.out hSg hKg)
  have HDF := Lib.hid (HDN.out.keptB HN.out.g (by decide) (by decide) (by decide) hKg)
  have hS8 : Blk w9 (w.heap.size) 30 (d8A (dd7 O.d) (.slice a8 n8 c8) (.slice ac1 T.R.cs.length cc1) (.slice ah1 T.R.h.length ch1)) ∧ Blk w9 (w.heap.size + 1) 39 (op8A o) := ⟨hS7.1.kept hKg (by omega), hS7.2.kept hKg (by omega)⟩
  refine hK.out _ _ ⟨hS8, ?_⟩
  clear hK K' hSg hKg hS7
  try go_frame
  refine takeH hS8 (i := 8) (d := 7) (v := .bool true) rfl rfl (by kernel_rfl) (by kernel_rfl) (by kernel_rfl) (fun _ _ _ h => h) (Or.inl ⟨by kernel_rfl, fun w' hw' => by kernel_rfl⟩) ?_
  try go_frame
  refine wpAnyH_done (by kernel_rfl) ?_ _
  go_wp2_with fail
  exact bodyPost_ret (v := .tuple #[.agg (d8A (dd7 O.d) (.slice a8 n8 c8) (.slice ac1 T.R.cs.length cc1) (.slice ah1 T.R.h.length ch1)), .bool true]) (results_cell_slot Try.results10 _ _ (w.heap.size + 2) 30 _ _ _ rfl rfl HF.out.g Try.underlying30 rfl Try.info8D) rfl (by unfold STo8; rw [HR.out]; exact ⟨_, _, _, _, _, _, _, rfl, HDF.out, HF.out.dr⟩)
set_option maxRecDepth 100000 in
set_option maxHeartbeats 8000000 in
theorem st8_5 {C : Drv} {lo X : Nat} {w wA : World} {S : St8} {F : Nat → Prop} {az ac ah : Option Addr} {nz cz cc ch : Nat} (o : Op8) (ho : Op8Ok wA o) (hbA : Below wA.heap.size wA w) (hloA : wA.heap.size ≤ lo) (hA : C.At lo w X S F) (hf : Fine S) (hD : Dc lo w (.slice az nz cz) (.slice ac S.R.cs.length cc) (.slice ah S.R.h.length ch) S.R) (hlo : lo ≤ w.heap.size) (hk : o.k = 5) :
    Calls Try.prog 10 #[.pointer (some ⟨X, 0, none⟩), .agg (d8A (dd7 S.R.d) (.slice az nz cz) (.slice ac S.R.cs.length cc) (.slice ah S.R.h.length ch)), .agg (op8A o)] w (STo8 C lo w X F (S.fl)) := by
  have HS : Hid (Trio7 30 39 30 w (d8A (dd7 S.R.d) (.slice az nz cz) (.slice ac S.R.cs.length cc) (.slice ah S.R.h.length ch)) (op8A o) d8Z (((w.alloc (Obj.cells (d8A (dd7 S.R.d) (.slice az nz cz) (.slice ac S.R.cs.length cc) (.slice ah S.R.h.length ch)) 30)).alloc (Obj.cells (op8A o) 39)).alloc (Obj.cells #[.slice none 0 0, .int .i64 0, .int .i64 0, .int .i64 0, .bool false, .slice none 0 0, .slice none 0 0] 30))) := Lib.hid Trio7.start
  have HA := Lib.hid (C.below hA HS.out.b)
  have HD := Lib.hid (hD.below HS.out.b)
  have Hsn := Lib.hid (C.sane hA)
  have Hlo := Lib.hid hlo
  have Ho := Lib.hid ho
  have Hf := Lib.hid hf
  have HbA := Lib.hid hbA
  have HloA := Lib.hid hloA
  clear hA hD ho hf hbA hloA hlo
  go_enter Try.func10, Try.ntmps10
  go_upto_region 1 with fail
  generalize (((w.alloc (Obj.cells (d8A (dd7 S.R.d) (.slice az nz cz) (.slice ac S.R.cs.length cc) (.slice ah S.R.h.length ch)) 30)).alloc (Obj.cells (op8A o) 39)).alloc (Obj.cells #[.slice none 0 0, .int .i64 0, .int .i64 0, .int .i64 0, .bool false, .slice none 0 0, .slice none 0 0] 30)) = w0 at *
  have c0 : w0.cell? ⟨w.heap.size + 1, 0, none⟩ = some (.int .i64 5) := (HS.out.y.cell 0).trans ((op8_0 o).trans (by rw [hk]))
  have c1 : w0.cell? ⟨w.heap.size + 1, 1, none⟩ = some (.int .i64 o.z) := (HS.out.y.cell 1).trans (op8_1 o)
  have c2 : w0.cell? ⟨w.heap.size + 1, 2, none⟩ = some (.int .i64 o.off) := (HS.out.y.cell 2).trans (op8_2 o)
  go_wp2_with (first | (refine wpl_load rfl _ rfl (w.heap.size) rfl _ _ _ (HS.out.x) Try.underlying30 rfl Try.info8D ?_; go_frame))
  have hdue : Calls Try.prog 27 #[.agg (d8A (dd7 S.R.d) (.slice az nz cz) (.slice ac S.R.cs.length cc) (.slice ah S.R.h.length ch)), .int .i64 o.z, .bool true] w0 (DuTo lo w0 (S.due 0 true).R) := due_any o.z ▸ g8due o.z az nz cz ac cc ah ch true HD.out.zs Hsn.out HD.out.cs HD.out.h (by have := Hf.out.h; have := Hf.out.cs; omega) (by have := HS.out.g.lt; have := Hlo.out; omega)
  refine hdue.mono ?_
  have hfa := due_facts 0 true HD.out.cs.ok Hsn.out
  obtain ⟨T, hTe⟩ : ∃ T, S.due 0 true = T := ⟨_, rfl⟩
  have HTe := Lib.hid hTe
  rw [hTe] at hfa ⊢
  have HsnT := Lib.hid hfa.1
  have HnT : Hid (0 ≤ T.R.d.count ∧ T.R.d.count ≤ 1000000) := Lib.hid ⟨by rw [hfa.2.1]; exact Hf.out.n0, by rw [hfa.2.1]; have := Hf.out.n1; omega⟩
  clear hTe hfa hdue
  rintro e w1 ⟨az1, nz1, cz1, ac1, cc1, ah1, ch1, rfl, hz1, hc1, hh1, hb1⟩
  have HS1 := Lib.hid (HS.out.below hb1)
  have HA1 := Lib.hid (C.below HA.out hb1)
  have HD1 : Hid (Dc lo w1 (.slice az1 nz1 cz1) (.slice ac1 T.R.cs.length cc1) (.slice ah1 T.R.h.length ch1) T.R) := Lib.hid ⟨hz1, hc1, hh1⟩
  clear hz1 hc1 hh1 hb1 HS HA HD Hsn c0 c1 c2
  go_upto_region 3 with (first | (refine wpl_store rfl _ _ rfl (w.heap.size) (d8A (dd7 T.R.d) (.slice az1 nz1 cz1) (.slice ac1 T.R.cs.length cc1) (.slice ah1 T.R.h.length ch1)) rfl rfl _ _ HS1.out.x Try.info8D rfl (d8A_one _ _ _ _ _ _ _ _ _ _) ?_; intro w2 hX2 hK2; have HS2 := Lib.hid (HS1.out.inx hX2 hK2); have HA2 := Lib.hid (C.kept HA1.out hK2 (fun i hi e9 => C.not HA1.out HS1.out.x (by decide) (e9 ▸ hi))); have HD2 := Lib.hid (HD1.out.keptB HS1.out.x (by decide) (by decide) (by decide) hK2); clear hX2 hK2; go_frame))
  clear HS1 HA1 HD1
  have c0 : w2.cell? ⟨w.heap.size + 1, 0, none⟩ = some (.int .i64 5) := (HS2.out.y.cell 0).trans ((op8_0 o).trans (by rw [hk]))
  have c1 : w2.cell? ⟨w.heap.size + 1, 1, none⟩ = some (.int .i64 o.z) := (HS2.out.y.cell 1).trans (op8_1 o)
  have c2 : w2.cell? ⟨w.heap.size + 1, 2, none⟩ = some (.int .i64 o.off) := (HS2.out.y.cell 2).trans (op8_2 o)
  clear hk
  have hl2 : lo ≤ w2.heap.size := by have := HS2.out.g.lt; have := Hlo.out; omega
  go_wp2_with (first | (refine wpl_load_at (by rfl) 27 _ rfl (w.heap.size) 0 rfl (d7A (dd7 T.R.d) (.slice az1 nz1 cz1)) _ (d8_dev HS2.out.x) Try.underlying27 rfl Try.info7D ?_; go_frame))
  refine (gfl7 HD2.out.zs HsnT.out HnT.out hl2).mono ?_
  obtain ⟨O, hO⟩ : ∃ O, S.flO = O := ⟨_, rfl⟩
  have HR : Hid ((S.fl).R = ⟨O.d, O.zs, T.R.cs, T.R.h⟩) := Lib.hid (by simp only [St8.ap, St8.rd, St8.rs, St8.fn, St8.fl, St8.put, hO, HTe.out])
  have HO : Hid (flSp T.R.d T.R.zs = O) := Lib.hid (by rw [← hO, ← HTe.out]; rfl)
  have HOo := Lib.hid hO
  clear hO
  rw [HO.out]
  rintro e w4 ⟨v8, rfl, hd8, hb⟩
  obtain ⟨a8, n8, c8, rfl⟩ := hd8.slice
  have HS4 := Lib.hid (HS2.out.below hb)
  have HA4 := Lib.hid (C.below HA2.out hb)
  have HD4 : Hid (Dc lo w4 (.slice a8 n8 c8) (.slice ac1 T.R.cs.length cc1) (.slice ah1 T.R.h.length ch1) ⟨O.d, O.zs, T.R.cs, T.R.h⟩) := Lib.hid ⟨hd8, HD2.out.cs.below hb, HD2.out.h.below hb⟩
  clear hd8 hb hl2 c0 c1 c2 HS2 HA2 HD2
  go_upto_region 23 with (first | (refine wpl_store_at rfl 27 _ _ rfl (w.heap.size) 0 (d7A (dd7 O.d) (.slice a8 n8 c8)) rfl rfl 30 (d8L (dd7 T.R.d) (.slice az1 nz1 cz1) (.slice ac1 T.R.cs.length cc1) (.slice ah1 T.R.h.length ch1)) HS4.out.x (show 0 + 5 ≤ 7 by decide) Try.info7D (d7A_one _ _ _ _) ?_; intro w5 hBx hkx; have HS5 := Lib.hid (HS4.out.inx (x := (d8A (dd7 O.d) (.slice a8 n8 c8) (.slice ac1 T.R.cs.length cc1) (.slice ah1 T.R.h.length ch1))) hBx hkx); have HA5 := Lib.hid (C.kept HA4.out hkx (fun i hi e9 => C.not HA4.out HS4.out.x (by decide) (e9 ▸ hi))); have HD5 := Lib.hid (HD4.out.keptB HS4.out.x (by decide) (by decide) (by decide) hkx); clear hBx hkx; go_frame))
  clear HS4 HA4 HD4
  refine wp_region_held (S := fun w' => Blk w' (w.heap.size) 30 (d8A (dd7 O.d) (.slice a8 n8 c8) (.slice ac1 T.R.cs.length cc1) (.slice ah1 T.R.h.length ch1)) ∧ Blk w' (w.heap.size + 1) 39 (op8A o)) (by kernel_rfl) ?_
  change wpAnyH _ _ _ _ _ _ _ _ (World.drew _)
  have hS : Blk w5.drew (w.heap.size) 30 (d8A (dd7 O.d) (.slice a8 n8 c8) (.slice ac1 T.R.cs.length cc1) (.slice ah1 T.R.h.length ch1)) ∧ Blk w5.drew (w.heap.size + 1) 39 (op8A o) := ⟨HS5.out.x, HS5.out.y⟩
  refine takeH hS (i := 0) (d := 141) (v := .agg (d8A (dd7 O.d) (.slice a8 n8 c8) (.slice ac1 T.R.cs.length cc1) (.slice ah1 T.R.h.length ch1))) rfl rfl (by kernel_rfl) (by kernel_rfl) (by kernel_rfl) (fun _ _ _ h => h) (Or.inl ⟨by kernel_rfl, fun w' hw' => by exact exec_load _ rfl (w.heap.size) rfl hw'.1 Try.underlying30 rfl Try.info8D⟩) ?_
  refine takeH hS (i := 1) (d := 142) (v := .pointer (some ⟨X, 0, none⟩)) rfl rfl (by kernel_rfl) (by kernel_rfl) (by kernel_rfl) (fun _ _ _ h => h) (Or.inl ⟨by kernel_rfl, fun w' hw' => by kernel_rfl⟩) ?_
  refine takeH hS (i := 3) (d := 144) (v := .int .i64 O.e) rfl rfl (by kernel_rfl) (by kernel_rfl) (by kernel_rfl) (fun _ _ _ h => h) (Or.inl ⟨by kernel_rfl, fun w' hw' => by kernel_rfl⟩) ?_
  try go_frame
  try go_frame
  have hbd : Below w5.heap.size w5 w5.drew := (Below.refl _ _).drew
  have HA6 := Lib.hid (C.below HA5.out hbd)
  have HS6 := Lib.hid (HS5.out.below hbd)
  have HD6 := Lib.hid (HD5.out.below hbd)
  clear hbd HA5 HS5 HD5
  refine nextH (i := 2) rfl (by kernel_rfl) (by kernel_rfl) (fun K' hK => ?_)
  go_wp2_with fail
  refine (C.fl HA6.out Hf.out).mono ?_
  rw [HOo.out]
  rintro en w7 ⟨rfl, hT⟩
  have hT' : DrTo C lo w5.drew X F (S.fl) w7 := hT
  have hS7 : Blk w7 (w.heap.size) 30 (d8A (dd7 O.d) (.slice a8 n8 c8) (.slice ac1 T.R.cs.length cc1) (.slice ah1 T.R.h.length ch1)) ∧ Blk w7 (w.heap.size + 1) 39 (op8A o) := ⟨hT'.blk HA6.out hS.1 (by decide), hT'.blk HA6.out hS.2 (by decide)⟩
  have HN := Lib.hid (HS6.out.cmd8 HA6.out hT')
  have HDN := Lib.hid (HD6.out.cmd HA6.out hT')
  refine hK.out _ _ ⟨hS7, ?_⟩
  clear hK K' hS hT hT' HA6 HS6 HD6
  try go_frame
  refine takeH hS7 (i := 4) (d := 145) (v := .bool true) rfl rfl (by kernel_rfl) (by kernel_rfl) (by kernel_rfl) (fun _ _ _ h => h) (Or.inl ⟨by kernel_rfl, fun w' hw' => by exact exec_eql _ _ rfl O.e O.e rfl rfl true (decide_eq_true rfl) rfl⟩) ?_
  try go_frame
  refine nextH (i := 5) rfl (by kernel_rfl) (by kernel_rfl) (fun K' hK => ?_)
  refine wpo_store _ _ rfl (w.heap.size + 2) (d8A (dd7 O.d) (.slice a8 n8 c8) (.slice ac1 T.R.cs.length cc1) (.slice ah1 T.R.h.length ch1)) rfl rfl _ _ HN.out.g (Try.info8D) rfl (d8A_one _ _ _ _ _ _ _ _ _ _) ?_
  intro w9 hSg hKg
  have HF := Lib.hid (HN.out.out hSg hKg)
  have HDF := Lib.hid (HDN.out.keptB HN.out.g (by decide) (by decide) (by decide) hKg)
  have hS8 : Blk w9 (w.heap.size) 30 (d8A (dd7 O.d) (.slice a8 n8 c8) (.slice ac1 T.R.cs.length cc1) (.slice ah1 T.R.h.length ch1)) ∧ Blk w9 (w.heap.size + 1) 39 (op8A o) := ⟨hS7.1.kept hKg (by omega), hS7.2.kept hKg (by omega)⟩
  refine hK.out _ _ ⟨hS8, ?_⟩
  clear hK K' hSg hKg hS7
  try go_frame
  refine takeH hS8 (i := 6) (d := 7) (v := .bool true) rfl rfl (by kernel_rfl) (by kernel_rfl) (by kernel_rfl) (fun _ _ _ h => h) (Or.inl ⟨by kernel_rfl, fun w' hw' => by kernel_rfl⟩) ?_
  try go_frame
  refine wpAnyH_done (by kernel_rfl) ?_ _
  go_wp2_with fail
  exact bodyPost_ret (v := .tuple #[.agg (d8A (dd7 O.d) (.slice a8 n8 c8) (.slice ac1 T.R.cs.length cc1) (.slice ah1 T.R.h.length ch1)), .bool true]) (results_cell_slot Try.results10 _ _ (w.heap.size + 2) 30 _ _ _ rfl rfl HF.out.g Try.underlying30 rfl Try.info8D) rfl (by unfold STo8; rw [HR.out]; exact ⟨_, _, _, _, _, _, _, rfl, HDF.out, HF.out.dr⟩)
end Go.Proofs.Ytajkajgnjcnolaa

