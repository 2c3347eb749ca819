import Derived.Test.YtajkajgnjcnolaaMp22
namespace Go.Proofs.Ytajkajgnjcnolaa
open Go.RowKit
set_option linter.unusedVariables false
set_option linter.unnecessarySimpa false
set_option linter.unusedSimpArgs false
theorem due_any {S : St8} (z : Int) : (S.due z true).R = (S.due 0 true).R := by
  unfold St8.due dueD; simp
section
variable {P : Program} {w : World} {o : Oper} {a : Act}
theorem exec_load_v (ty : TypeId) (x : Operand) (ho : o.op = .load ty x) (b i : Nat) (hx : a.eval x = .pointer (some ⟨b, i, none⟩)) (cs : Array Value) (d : TypeDesc) (hc : w.rangeAt b i cs.toList)
    (hu : P.underlying ty = some d) (hd : d.isRow = true) (hi : (P.info? ty).map (·.size) = some cs.size) : (execOp a.eval o).run P w = .ok (.value (.agg cs)) w := by
  unfold execOp
  simp only [ho, hx, Instr.loadAt, Instr.sureAddr, Sem.run_bind, Sem.run_pure, Result.andThen_ok, run_loadVar_mid w b i ty cs.toList d hc hu hd (by rw [hi, Array.length_toList])]
end
set_option maxRecDepth 100000 in
set_option maxHeartbeats 8000000 in
theorem st8_1 {C : Drv} {lo X : Nat} {w wA : World} {S : St8} {F : Nat → Prop} {az ac ah : Option Addr} {nz cz cc ch : Nat} (o : Op8) (ho : Op8Ok wA o) (hbA : Below wA.heap.size wA w) (hloA : wA.heap.size ≤ lo) (hA : C.At lo w X S F) (hf : Fine S) (hD : Dc lo w (.slice az nz cz) (.slice ac S.R.cs.length cc) (.slice ah S.R.h.length ch) S.R) (hlo : lo ≤ w.heap.size) (hk : o.k = 1) :
    Calls Try.prog 10 #[.pointer (some ⟨X, 0, none⟩), .agg (d8A (dd7 S.R.d) (.slice az nz cz) (.slice ac S.R.cs.length cc) (.slice ah S.R.h.length ch)), .agg (op8A o)] w (STo8 C lo w X F (S.ap o.z o.s)) := by
  have HS : Hid (Trio7 30 39 30 w (d8A (dd7 S.R.d) (.slice az nz cz) (.slice ac S.R.cs.length cc) (.slice ah S.R.h.length ch)) (op8A o) d8Z (((w.alloc (Obj.cells (d8A (dd7 S.R.d) (.slice az nz cz) (.slice ac S.R.cs.length cc) (.slice ah S.R.h.length ch)) 30)).alloc (Obj.cells (op8A o) 39)).alloc (Obj.cells #[.slice none 0 0, .int .i64 0, .int .i64 0, .int .i64 0, .bool false, .slice none 0 0, .slice none 0 0] 30))) := Lib.hid Trio7.start
  have HA := Lib.hid (C.below hA HS.out.b)
  have HD := Lib.hid (hD.below HS.out.b)
  have Hsn := Lib.hid (C.sane hA)
  have Hlo := Lib.hid hlo
  have Ho := Lib.hid ho
  have Hf := Lib.hid hf
  have HbA := Lib.hid hbA
  have HloA := Lib.hid hloA
  clear hA hD ho hf hbA hloA hlo
  go_enter Try.func10, Try.ntmps10
  go_upto_region 1 with fail
  generalize (((w.alloc (Obj.cells (d8A (dd7 S.R.d) (.slice az nz cz) (.slice ac S.R.cs.length cc) (.slice ah S.R.h.length ch)) 30)).alloc (Obj.cells (op8A o) 39)).alloc (Obj.cells #[.slice none 0 0, .int .i64 0, .int .i64 0, .int .i64 0, .bool false, .slice none 0 0, .slice none 0 0] 30)) = w0 at *
  have c0 : w0.cell? ⟨w.heap.size + 1, 0, none⟩ = some (.int .i64 1) := (HS.out.y.cell 0).trans ((op8_0 o).trans (by rw [hk]))
  have c1 : w0.cell? ⟨w.heap.size + 1, 1, none⟩ = some (.int .i64 o.z) := (HS.out.y.cell 1).trans (op8_1 o)
  have c2 : w0.cell? ⟨w.heap.size + 1, 2, none⟩ = some (.int .i64 o.off) := (HS.out.y.cell 2).trans (op8_2 o)
  go_wp2_with (first | (refine wpl_load rfl _ rfl (w.heap.size) rfl _ _ _ (HS.out.x) Try.underlying30 rfl Try.info8D ?_; go_frame))
  have hdue : Calls Try.prog 27 #[.agg (d8A (dd7 S.R.d) (.slice az nz cz) (.slice ac S.R.cs.length cc) (.slice ah S.R.h.length ch)), .int .i64 o.z, .bool false] w0 (DuTo lo w0 (S.due o.z false).R) := g8due o.z az nz cz ac cc ah ch false HD.out.zs Hsn.out HD.out.cs HD.out.h (by have := Hf.out.h; have := Hf.out.cs; omega) (by have := HS.out.g.lt; have := Hlo.out; omega)
  refine hdue.mono ?_
  have hfa := due_facts o.z false HD.out.cs.ok Hsn.out
  obtain ⟨T, hTe⟩ : ∃ T, S.due o.z false = T := ⟨_, rfl⟩
  have HTe := Lib.hid hTe
  rw [hTe] at hfa ⊢
  have HsnT := Lib.hid hfa.1
  have HnT : Hid (0 ≤ T.R.d.count ∧ T.R.d.count ≤ 1000000) := Lib.hid ⟨by rw [hfa.2.1]; exact Hf.out.n0, by rw [hfa.2.1]; have := Hf.out.n1; omega⟩
  clear hTe hfa hdue
  rintro e w1 ⟨az1, nz1, cz1, ac1, cc1, ah1, ch1, rfl, hz1, hc1, hh1, hb1⟩
  have HS1 := Lib.hid (HS.out.below hb1)
  have HA1 := Lib.hid (C.below HA.out hb1)
  have HD1 : Hid (Dc lo w1 (.slice az1 nz1 cz1) (.slice ac1 T.R.cs.length cc1) (.slice ah1 T.R.h.length ch1) T.R) := Lib.hid ⟨hz1, hc1, hh1⟩
  clear hz1 hc1 hh1 hb1 HS HA HD Hsn c0 c1 c2
  go_upto_region 3 with (first | (refine wpl_store rfl _ _ rfl (w.heap.size) (d8A (dd7 T.R.d) (.slice az1 nz1 cz1) (.slice ac1 T.R.cs.length cc1) (.slice ah1 T.R.h.length ch1)) rfl rfl _ _ HS1.out.x Try.info8D rfl (d8A_one _ _ _ _ _ _ _ _ _ _) ?_; intro w2 hX2 hK2; have HS2 := Lib.hid (HS1.out.inx hX2 hK2); have HA2 := Lib.hid (C.kept HA1.out hK2 (fun i hi e9 => C.not HA1.out HS1.out.x (by decide) (e9 ▸ hi))); have HD2 := Lib.hid (HD1.out.keptB HS1.out.x (by decide) (by decide) (by decide) hK2); clear hX2 hK2; go_frame))
  clear HS1 HA1 HD1
  have c0 : w2.cell? ⟨w.heap.size + 1, 0, none⟩ = some (.int .i64 1) := (HS2.out.y.cell 0).trans ((op8_0 o).trans (by rw [hk]))
  have c1 : w2.cell? ⟨w.heap.size + 1, 1, none⟩ = some (.int .i64 o.z) := (HS2.out.y.cell 1).trans (op8_1 o)
  have c2 : w2.cell? ⟨w.heap.size + 1, 2, none⟩ = some (.int .i64 o.off) := (HS2.out.y.cell 2).trans (op8_2 o)
  clear hk
  go_wp2_with (first | (refine wpl_load_mid (by rfl) 34 _ rfl (w.heap.size + 1) 3 rfl o.s _ (op8_range HS2.out.y) Try.underlying34 rfl (by rw [bvals_length]; exact (info_sec Ho.out.len).trans (by rw [bA_size])) ?_; go_frame))
  refine (C.ap o.z o.s Ho.out.len Ho.out.lt HA2.out Hf.out).mono ?_
  obtain ⟨O, hO⟩ : ∃ O, S.apO o.z o.s = O := ⟨_, rfl⟩
  have HR : Hid ((S.ap o.z o.s).R = ⟨O.d, O.zs, T.R.cs, T.R.h⟩) := Lib.hid (by simp only [St8.ap, St8.rd, St8.rs, St8.fn, St8.fl, St8.put, hO, HTe.out])
  have HO : Hid (apSp T.R.d T.R.zs o.z o.s = O) := Lib.hid (by rw [← hO, ← HTe.out]; rfl)
  rw [hO]
  clear hO
  rintro e w3 ⟨rfl, hT⟩
  have hT' : DrTo C lo w2 X F (S.ap o.z o.s) w3 := hT
  have HN := Lib.hid (HS2.out.cmd8 HA2.out hT')
  have HD3 := Lib.hid (HD2.out.cmd HA2.out hT')
  clear hT hT' c0 c1 c2 HS2 HA2 HD2
  have c1 : w3.cell? ⟨w.heap.size + 1, 1, none⟩ = some (.int .i64 o.z) := (HN.out.y.cell 1).trans (op8_1 o)
  have hl3 : lo ≤ w3.heap.size := by have := HN.out.g.lt; have := Hlo.out; omega
  go_wp2_with (first | (refine wpl_load_at (by rfl) 27 _ rfl (w.heap.size) 0 rfl (d7A (dd7 T.R.d) (.slice az1 nz1 cz1)) _ (d8_dev HN.out.x) Try.underlying27 rfl Try.info7D ?_; go_frame) | (refine wpl_load_mid (by rfl) 34 _ rfl (w.heap.size + 1) 3 rfl o.s _ (op8_range HN.out.y) Try.underlying34 rfl (by rw [bvals_length]; exact (info_sec Ho.out.len).trans (by rw [bA_size])) ?_; go_frame))
  refine (gap7 o.z o.s Ho.out.len HD3.out.zs HsnT.out HnT.out hl3).mono ?_
  rw [HO.out]
  rintro e w4 ⟨v8, rfl, hd8, hb⟩
  obtain ⟨a8, n8, c8, rfl⟩ := hd8.slice
  have HN4 := Lib.hid (HN.out.below hb)
  have HD4 : Hid (Dc lo w4 (.slice a8 n8 c8) (.slice ac1 T.R.cs.length cc1) (.slice ah1 T.R.h.length ch1) ⟨O.d, O.zs, T.R.cs, T.R.h⟩) := Lib.hid ⟨hd8, HD3.out.cs.below hb, HD3.out.h.below hb⟩
  clear hd8 hb hl3 c1 HN HD3
  go_upto_region 9 with (first | (refine wpl_store_at rfl 27 _ _ rfl (w.heap.size) 0 (d7A (dd7 O.d) (.slice a8 n8 c8)) rfl rfl 30 (d8L (dd7 T.R.d) (.slice az1 nz1 cz1) (.slice ac1 T.R.cs.length cc1) (.slice ah1 T.R.h.length ch1)) HN4.out.x (show 0 + 5 ≤ 7 by decide) Try.info7D (d7A_one _ _ _ _) ?_; intro w5 hBx hkx; have HN5 := Lib.hid (HN4.out.inx (x := (d8A (dd7 O.d) (.slice a8 n8 c8) (.slice ac1 T.R.cs.length cc1) (.slice ah1 T.R.h.length ch1))) hBx hkx); have HD5 := Lib.hid (HD4.out.keptB HN4.out.x (by decide) (by decide) (by decide) hkx); clear hBx hkx; go_frame))
  clear HN4 HD4
  go_wp2_with (first | (refine wpl_load rfl _ rfl (w.heap.size) rfl _ _ _ (HN5.out.x) Try.underlying30 rfl Try.info8D ?_; go_frame) | (refine wpl_store rfl _ _ rfl (w.heap.size + 2) (d8A (dd7 O.d) (.slice a8 n8 c8) (.slice ac1 T.R.cs.length cc1) (.slice ah1 T.R.h.length ch1)) rfl rfl _ _ HN5.out.g Try.info8D rfl (d8A_one _ _ _ _ _ _ _ _ _ _) ?_; intro w9 hSg hKg; have HF := Lib.hid (HN5.out.out hSg hKg); have HDF := Lib.hid (HD5.out.keptB HN5.out.g (by decide) (by decide) (by decide) hKg); clear hSg hKg; go_frame))
  exact bodyPost_ret (v := .tuple #[.agg (d8A (dd7 O.d) (.slice a8 n8 c8) (.slice ac1 T.R.cs.length cc1) (.slice ah1 T.R.h.length ch1)), .bool true]) (results_cell_slot Try.results10 _ _ (w.heap.size + 2) 30 _ _ _ rfl rfl HF.out.g Try.underlying30 rfl Try.info8D) rfl (by unfold STo8; rw [HR.out]; exact ⟨_, _, _, _, _, _, _, rfl, HDF.out, HF.out.dr⟩)
set_option maxRecDepth 100000 in
set_option maxHeartbeats 8000000 in
theorem st8_6 {C : Drv} {lo X : Nat} {w wA : World} {S : St8} {F : Nat → Prop} {az ac ah : Option Addr} {nz cz cc ch : Nat} (o : Op8) (ho : Op8Ok wA o) (hbA : Below wA.heap.size wA w) (hloA : wA.heap.size ≤ lo) (hA : C.At lo w X S F) (hf : Fine S) (hD : Dc lo w (.slice az nz cz) (.slice ac S.R.cs.length cc) (.slice ah S.R.h.length ch) S.R) (hlo : lo ≤ w.heap.size) (hk : o.k = 6) :
    Calls Try.prog 10 #[.pointer (some ⟨X, 0, none⟩), .agg (d8A (dd7 S.R.d) (.slice az nz cz) (.slice ac S.R.cs.length cc) (.slice ah S.R.h.length ch)), .agg (op8A o)] w (STo8 C lo w X F (S.rv o.ks)) := by
  have HS : Hid (Trio7 30 39 30 w (d8A (dd7 S.R.d) (.slice az nz cz) (.slice ac S.R.cs.length cc) (.slice ah S.R.h.length ch)) (op8A o) d8Z (((w.alloc (Obj.cells (d8A (dd7 S.R.d) (.slice az nz cz) (.slice ac S.R.cs.length cc) (.slice ah S.R.h.length ch)) 30)).alloc (Obj.cells (op8A o) 39)).alloc (Obj.cells #[.slice none 0 0, .int .i64 0, .int .i64 0, .int .i64 0, .bool false, .slice none 0 0, .slice none 0 0] 30))) := Lib.hid Trio7.start
  have HA := Lib.hid (C.below hA HS.out.b)
  have HD := Lib.hid (hD.below HS.out.b)
  have Hsn := Lib.hid (C.sane hA)
  have Hlo := Lib.hid hlo
  have Ho := Lib.hid ho
  have Hf := Lib.hid hf
  have HbA := Lib.hid hbA
  have HloA := Lib.hid hloA
  clear hA hD ho hf hbA hloA hlo
  go_enter Try.func10, Try.ntmps10
  go_upto_region 1 with fail
  generalize (((w.alloc (Obj.cells (d8A (dd7 S.R.d) (.slice az nz cz) (.slice ac S.R.cs.length cc) (.slice ah S.R.h.length ch)) 30)).alloc (Obj.cells (op8A o) 39)).alloc (Obj.cells #[.slice none 0 0, .int .i64 0, .int .i64 0, .int .i64 0, .bool false, .slice none 0 0, .slice none 0 0] 30)) = w0 at *
  have c0 : w0.cell? ⟨w.heap.size + 1, 0, none⟩ = some (.int .i64 6) := (HS.out.y.cell 0).trans ((op8_0 o).trans (by rw [hk]))
  have c1 : w0.cell? ⟨w.heap.size + 1, 1, none⟩ = some (.int .i64 o.z) := (HS.out.y.cell 1).trans (op8_1 o)
  have c2 : w0.cell? ⟨w.heap.size + 1, 2, none⟩ = some (.int .i64 o.off) := (HS.out.y.cell 2).trans (op8_2 o)
  clear hk
  have c67 : w0.cell? ⟨w.heap.size + 1, 67, none⟩ = some (.slice o.ka o.kl o.kc) := (HS.out.y.cell 67).trans (op8_67 Ho.out.len)
  have Hb0 : Hid (Below wA.heap.size wA w0) := Lib.hid (HbA.out.trans (HS.out.b.mono HbA.out.size))
  go_wp2_with fail
  refine (C.rv HA.out ⟨wA, Ho.out.row, Hb0.out, HloA.out⟩ Hf.out).mono ?_
  obtain ⟨O, hO⟩ : ∃ O, S.rvO o.ks = O := ⟨_, rfl⟩
  have HR : Hid ((S.rv o.ks).R = ⟨O.d, O.zs, S.R.cs, S.R.h⟩) := Lib.hid (by simp only [St8.rv, St8.put, hO])
  have HO : Hid (rvSp S.R.d S.R.zs o.ks = O) := Lib.hid hO
  clear hO
  rintro e w1 ⟨rfl, hT⟩
  have hT' : DrTo C lo w0 X F (S.rv o.ks) w1 := hT
  have HN := Lib.hid (HS.out.cmd8 HA.out hT')
  have HD1 := Lib.hid (HD.out.cmd HA.out hT')
  have Hb1 : Hid (Below wA.heap.size wA w1) := Lib.hid (by
    obtain ⟨F', _, k2, _⟩ := hT
    exact bkept Hb0.out (Nat.le_refl _) k2 (fun i hi e9 => by have := C.lov HA.out e9; have := HloA.out; omega))
  clear hT hT' c0 c1 c2 c67 HS HA HD
  have c67 : w1.cell? ⟨w.heap.size + 1, 67, none⟩ = some (.slice o.ka o.kl o.kc) := (HN.out.y.cell 67).trans (op8_67 Ho.out.len)
  have hl1 : lo ≤ w1.heap.size := by have := HN.out.g.lt; have := Hlo.out; omega
  go_wp2_with (first | (refine wpl_load_at (by rfl) 27 _ rfl (w.heap.size) 0 rfl (d7A (dd7 S.R.d) (.slice az nz cz)) _ (d8_dev HN.out.x) Try.underlying27 rfl Try.info7D ?_; go_frame))
  refine (grv7 HD1.out.zs Hsn.out (Ho.out.row.below Hb1.out) hl1).mono ?_
  rw [HO.out]
  rintro e w2 ⟨v8, rfl, hd8, hb⟩
  obtain ⟨a8, n8, c8, rfl⟩ := hd8.slice
  have HN4 := Lib.hid (HN.out.below hb)
  have HD4 : Hid (Dc lo w2 (.slice a8 n8 c8) (.slice ac S.R.cs.length cc) (.slice ah S.R.h.length ch) ⟨O.d, O.zs, S.R.cs, S.R.h⟩) := Lib.hid ⟨hd8, HD1.out.cs.below hb, HD1.out.h.below hb⟩
  clear hd8 hb hl1 c67 HN HD1
  go_wp2_with (first | (refine wpl_store_at rfl 27 _ _ rfl (w.heap.size) 0 (d7A (dd7 O.d) (.slice a8 n8 c8)) rfl rfl 30 (d8L (dd7 S.R.d) (.slice az nz cz) (.slice ac S.R.cs.length cc) (.slice ah S.R.h.length ch)) HN4.out.x (show 0 + 5 ≤ 7 by decide) Try.info7D (d7A_one _ _ _ _) ?_; intro w5 hBx hkx; have HN5 := Lib.hid (HN4.out.inx (x := (d8A (dd7 O.d) (.slice a8 n8 c8) (.slice ac S.R.cs.length cc) (.slice ah S.R.h.length ch))) hBx hkx); have HD5 := Lib.hid (HD4.out.keptB HN4.out.x (by decide) (by decide) (by decide) hkx); clear hBx hkx; go_frame) | (refine wpl_load rfl _ rfl (w.heap.size) rfl _ _ _ (HN5.out.x) Try.underlying30 rfl Try.info8D ?_; go_frame) | (refine wpl_store rfl _ _ rfl (w.heap.size + 2) (d8A (dd7 O.d) (.slice a8 n8 c8) (.slice ac S.R.cs.length cc) (.slice ah S.R.h.length ch)) rfl rfl _ _ HN5.out.g Try.info8D rfl (d8A_one _ _ _ _ _ _ _ _ _ _) ?_; intro w9 hSg hKg; have HF := Lib.hid (HN5.out.out hSg hKg); have HDF := Lib.hid (HD5.out.keptB HN5.out.g (by decide) (by decide) (by decide) hKg); clear hSg hKg; go_frame))
  exact bodyPost_ret (v := .tuple #[.agg (d8A (dd7 O.d) (.slice a8 n8 c8) (.slice ac S.R.cs.length cc) (.slice ah S.R.h.length ch)), .bool true]) (results_cell_slot Try.results10 _ _ (w.heap.size + 2) 30 _ _ _ rfl rfl HF.out.g Try.underlying30 rfl Try.info8D) rfl (by unfold STo8; rw [HR.out]; exact ⟨_, _, _, _, _, _, _, rfl, HDF.out, HF.out.dr⟩)
set_option maxRecDepth 100000 in
set_option maxHeartbeats 8000000 in
theorem st8_xa {C : Drv} {lo X : Nat} {w wA : World} {S : St8} {F : Nat → Prop} {az ac ah : Option Addr} {nz cz cc ch : Nat} (o : Op8) (ho : Op8Ok wA o) (hbA : Below wA.heap.size wA w) (hloA : wA.heap.size ≤ lo) (hA : C.At lo w X S F) (hf : Fine S) (hD : Dc lo w (.slice az nz cz) (.slice ac S.R.cs.length cc) (.slice ah S.R.h.length ch) S.R) (hlo : lo ≤ w.heap.size) (hk : o.k < 1) :
    Calls Try.prog 10 #[.pointer (some ⟨X, 0, none⟩), .agg (d8A (dd7 S.R.d) (.slice az nz cz) (.slice ac S.R.cs.length cc) (.slice ah S.R.h.length ch)), .agg (op8A o)] w (STo8 C lo w X F (S)) := by
  have HS : Hid (Trio7 30 39 30 w (d8A (dd7 S.R.d) (.slice az nz cz) (.slice ac S.R.cs.length cc) (.slice ah S.R.h.length ch)) (op8A o) d8Z (((w.alloc (Obj.cells (d8A (dd7 S.R.d) (.slice az nz cz) (.slice ac S.R.cs.length cc) (.slice ah S.R.h.length ch)) 30)).alloc (Obj.cells (op8A o) 39)).alloc (Obj.cells #[.slice none 0 0, .int .i64 0, .int .i64 0, .int .i64 0, .bool false, .slice none 0 0, .slice none 0 0] 30))) := Lib.hid Trio7.start
  have HA := Lib.hid (C.below hA HS.out.b)
  have HD := Lib.hid (hD.below HS.out.b)
  have Hsn := Lib.hid (C.sane hA)
  have Hlo := Lib.hid hlo
  have Ho := Lib.hid ho
  have Hf := Lib.hid hf
  have HbA := Lib.hid hbA
  have HloA := Lib.hid hloA
  clear hA hD ho hf hbA hloA hlo
  go_enter Try.func10, Try.ntmps10
  go_upto_region 1 with fail
  generalize (((w.alloc (Obj.cells (d8A (dd7 S.R.d) (.slice az nz cz) (.slice ac S.R.cs.length cc) (.slice ah S.R.h.length ch)) 30)).alloc (Obj.cells (op8A o) 39)).alloc (Obj.cells #[.slice none 0 0, .int .i64 0, .int .i64 0, .int .i64 0, .bool false, .slice none 0 0, .slice none 0 0] 30)) = w0 at *
  have e1 : (o.k == 1) = false := by simp; omega
  have e2 : (o.k == 2) = false := by simp; omega
  have e3 : (o.k == 3) = false := by simp; omega
  have e4 : (o.k == 4) = false := by simp; omega
  have e5 : (o.k == 5) = false := by simp; omega
  have e6 : (o.k == 6) = false := by simp; omega
  have e7 : (o.k == 7) = false := by simp; omega
  have e8 : (o.k == 8) = false := by simp; omega
  have da : decide (1 ≤ o.k) = false := decide_eq_false (by omega)
  clear hk
  have c0 : w0.cell? ⟨w.heap.size + 1, 0, none⟩ = some (.int .i64 o.k) := (HS.out.y.cell 0).trans (op8_0 o)
  have HR : Hid (S.R = S.R) := Lib.hid rfl
  have HN := Lib.hid (HS.out.cmd8 HA.out (DrTo.same HA.out (Below.refl _ _)))
  have HD1 := HD
  go_wp2_with (first | (refine wpl_load rfl _ rfl (w.heap.size) rfl _ _ _ (HN.out.x) Try.underlying30 rfl Try.info8D ?_; go_frame) | (refine wpl_store rfl _ _ rfl (w.heap.size + 2) (d8A (dd7 S.R.d) (.slice az nz cz) (.slice ac S.R.cs.length cc) (.slice ah S.R.h.length ch)) rfl rfl _ _ HN.out.g Try.info8D rfl (d8A_one _ _ _ _ _ _ _ _ _ _) ?_; intro w9 hSg hKg; have HF := Lib.hid (HN.out.out hSg hKg); have HDF := Lib.hid (HD1.out.keptB HN.out.g (by decide) (by decide) (by decide) hKg); clear hSg hKg; go_frame))
  exact bodyPost_ret (v := .tuple #[.agg (d8A (dd7 S.R.d) (.slice az nz cz) (.slice ac S.R.cs.length cc) (.slice ah S.R.h.length ch)), .bool true]) (results_cell_slot Try.results10 _ _ (w.heap.size + 2) 30 _ _ _ rfl rfl HF.out.g Try.underlying30 rfl Try.info8D) rfl (by unfold STo8; exact ⟨_, _, _, _, _, _, _, rfl, HDF.out, HF.out.dr⟩)
set_option maxRecDepth 100000 in
set_option maxHeartbeats 8000000 in
theorem st8_xb {C : Drv} {lo X : Nat} {w wA : World} {S : St8} {F : Nat → Prop} {az ac ah : Option Addr} {nz cz cc ch : Nat} (o : Op8) (ho : Op8Ok wA o) (hbA : Below wA.heap.size wA w) (hloA : wA.heap.size ≤ lo) (hA : C.At lo w X S F) (hf : Fine S) (hD : Dc lo w (.slice az nz cz) (.slice ac S.R.cs.length cc) (.slice ah S.R.h.length ch) S.R) (hlo : lo ≤ w.heap.size) (hk : 8 < o.k) :
    Calls Try.prog 10 #[.pointer (some ⟨X, 0, none⟩), .agg (d8A (dd7 S.R.d) (.slice az nz cz) (.slice ac S.R.cs.length cc) (.slice ah S.R.h.length ch)), .agg (op8A o)] w (STo8 C lo w X F (S)) := by
  have HS : Hid (Trio7 30 39 30 w (d8A (dd7 S.R.d) (.slice az nz cz) (.slice ac S.R.cs.length cc) (.slice ah S.R.h.length ch)) (op8A o) d8Z (((w.alloc (Obj.cells (d8A (dd7 S.R.d) (.slice az nz cz) (.slice ac S.R.cs.length cc) (.slice ah S.R.h.length ch)) 30)).alloc (Obj.cells (op8A o) 39)).alloc (Obj.cells #[.slice none 0 0, .int .i64 0, .int .i64 0, .int .i64 0, .bool false, .slice none 0 0, .slice none 0 0] 30))) := Lib.hid Trio7.start
  have HA := Lib.hid (C.below hA HS.out.b)
  have HD := Lib.hid (hD.below HS.out.b)
  have Hsn := Lib.hid (C.sane hA)
  have Hlo := Lib.hid hlo
  have Ho := Lib.hid ho
  have Hf := Lib.hid hf
  have HbA := Lib.hid hbA
  have HloA := Lib.hid hloA
  clear hA hD ho hf hbA hloA hlo
  go_enter Try.func10, Try.ntmps10
  go_upto_region 1 with fail
  generalize (((w.alloc (Obj.cells (d8A (dd7 S.R.d) (.slice az nz cz) (.slice ac S.R.cs.length cc) (.slice ah S.R.h.length ch)) 30)).alloc (Obj.cells (op8A o) 39)).alloc (Obj.cells #[.slice none 0 0, .int .i64 0, .int .i64 0, .int .i64 0, .bool false, .slice none 0 0, .slice none 0 0] 30)) = w0 at *
  have e1 : (o.k == 1) = false := by simp; omega
  have e2 : (o.k == 2) = false := by simp; omega
  have e3 : (o.k == 3) = false := by simp; omega
  have e4 : (o.k == 4) = false := by simp; omega
  have e5 : (o.k == 5) = false := by simp; omega
  have e6 : (o.k == 6) = false := by simp; omega
  have e7 : (o.k == 7) = false := by simp; omega
  have e8 : (o.k == 8) = false := by simp; omega
  have da : decide (1 ≤ o.k) = true := decide_eq_true (by omega)
  have db : decide (o.k ≤ 5) = false := decide_eq_false (by omega)
  clear hk
  have c0 : w0.cell? ⟨w.heap.size + 1, 0, none⟩ = some (.int .i64 o.k) := (HS.out.y.cell 0).trans (op8_0 o)
  have HR : Hid (S.R = S.R) := Lib.hid rfl
  have HN := Lib.hid (HS.out.cmd8 HA.out (DrTo.same HA.out (Below.refl _ _)))
  have HD1 := HD
  go_wp2_with (first | (refine wpl_load rfl _ rfl (w.heap.size) rfl _ _ _ (HN.out.x) Try.underlying30 rfl Try.info8D ?_; go_frame) | (refine wpl_store rfl _ _ rfl (w.heap.size + 2) (d8A (dd7 S.R.d) (.slice az nz cz) (.slice ac S.R.cs.length cc) (.slice ah S.R.h.length ch)) rfl rfl _ _ HN.out.g Try.info8D rfl (d8A_one _ _ _ _ _ _ _ _ _ _) ?_; intro w9 hSg hKg; have HF := Lib.hid (HN.out.out hSg hKg); have HDF := Lib.hid (HD1.out.keptB HN.out.g (by decide) (by decide) (by decide) hKg); clear hSg hKg; go_frame))
  exact bodyPost_ret (v := .tuple #[.agg (d8A (dd7 S.R.d) (.slice az nz cz) (.slice ac S.R.cs.length cc) (.slice ah S.R.h.length ch)), .bool true]) (results_cell_slot Try.results10 _ _ (w.heap.size + 2) 30 _ _ _ rfl rfl HF.out.g Try.underlying30 rfl Try.info8D) rfl (by unfold STo8; exact ⟨_, _, _, _, _, _, _, rfl, HDF.out, HF.out.dr⟩)
end Go.Proofs.Ytajkajgnjcnolaa

