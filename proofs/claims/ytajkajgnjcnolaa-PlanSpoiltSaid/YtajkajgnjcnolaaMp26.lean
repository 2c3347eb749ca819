import Derived.Test.YtajkajgnjcnolaaMp25
import Derived.Test.YtajkajgnjcnolaaMp24
import Derived.Test.YtajkajgnjcnolaaMp17
import Derived.Test.YtajkajgnjcnolaaMp22
namespace Go.Proofs.Ytajkajgnjcnolaa
open Go.RowKit
set_option linter.unusedVariables false
set_option linter.unnecessarySimpa false
set_option linter.unusedSimpArgs false
theorem plL_len {e : EvR} {es : List EvR} (h : es.length ≤ 256) : (plL e es).length ≤ 256 := by
  unfold plL
  split
  · rename_i h0
    have h1 : es.length < 256 := by
      unfold plE at h0
      split at h0
      · exact absurd h0 (by decide)
      · split at h0
        · exact absurd h0 (by decide)
        · omega
    unfold plI
    obtain ⟨h2, h3⟩ := plS_len e es
    split
    · omega
    · rename_i h4
      have := h3 (by simpa using h4)
      rw [List.length_append]; simp; omega
  · exact h
theorem DrTo.step {C : Drv} {lo X : Nat} {w w1 w2 : World} {S2 : St8} {F F1 : Nat → Prop} (hk : Kept F w w1) (hn : ∀ i, F1 i → F i ∨ w.heap.size ≤ i) (h : DrTo C lo w1 X F1 S2 w2) : DrTo C lo w X F S2 w2 := by
  obtain ⟨F2, k1, k2, k3⟩ := h
  refine ⟨F2, k1, hk.andThen k2 (fun _ _ h => h) (fun i hi hz => ?_), fun i hi => ?_⟩
  · rcases hn i hz with h | h
    · exact h
    · omega
  · rcases k3 i hi with h | h
    · exact hn i h
    · exact .inr (Nat.le_trans hk.size h)
set_option maxRecDepth 100000 in
set_option maxHeartbeats 8000000 in
theorem st8_8 {C : Drv} {lo X : Nat} {w wA : World} {S : St8} {F : Nat → Prop} {az ac ah : Option Addr} {nz cz cc ch : Nat} (o : Op8) (ho : Op8Ok wA o) (hbA : Below wA.heap.size wA w) (hloA : wA.heap.size ≤ lo) (hA : C.At lo w X S F) (hf : Fine S) (hD : Dc lo w (.slice az nz cz) (.slice ac S.R.cs.length cc) (.slice ah S.R.h.length ch) S.R) (hlo : lo ≤ w.heap.size) (hk : o.k = 8) :
    Calls Try.prog 10 #[.pointer (some ⟨X, 0, none⟩), .agg (d8A (dd7 S.R.d) (.slice az nz cz) (.slice ac S.R.cs.length cc) (.slice ah S.R.h.length ch)), .agg (op8A o)] w (STo8 C lo w X F (S.plN o.e (max (min o.off 300) 0).toNat)) := by
  have HS : Hid (Trio7 30 39 30 w (d8A (dd7 S.R.d) (.slice az nz cz) (.slice ac S.R.cs.length cc) (.slice ah S.R.h.length ch)) (op8A o) d8Z (((w.alloc (Obj.cells (d8A (dd7 S.R.d) (.slice az nz cz) (.slice ac S.R.cs.length cc) (.slice ah S.R.h.length ch)) 30)).alloc (Obj.cells (op8A o) 39)).alloc (Obj.cells #[.slice none 0 0, .int .i64 0, .int .i64 0, .int .i64 0, .bool false, .slice none 0 0, .slice none 0 0] 30))) := Lib.hid Trio7.start
  have HA := Lib.hid (C.below hA HS.out.b)
  have HD := Lib.hid (hD.below HS.out.b)
  have Hsn := Lib.hid (C.sane hA)
  have Hlo := Lib.hid hlo
  have Ho := Lib.hid ho
  have Hf := Lib.hid hf
  have HbA := Lib.hid hbA
  have HloA := Lib.hid hloA
  clear hA hD ho hf hbA hloA hlo
  go_enter Try.func10, Try.ntmps10
  go_upto_region 1 with fail
  generalize (((w.alloc (Obj.cells (d8A (dd7 S.R.d) (.slice az nz cz) (.slice ac S.R.cs.length cc) (.slice ah S.R.h.length ch)) 30)).alloc (Obj.cells (op8A o) 39)).alloc (Obj.cells #[.slice none 0 0, .int .i64 0, .int .i64 0, .int .i64 0, .bool false, .slice none 0 0, .slice none 0 0] 30)) = w0 at *
  have c0 : w0.cell? ⟨w.heap.size + 1, 0, none⟩ = some (.int .i64 8) := (HS.out.y.cell 0).trans ((op8_0 o).trans (by rw [hk]))
  have c1 : w0.cell? ⟨w.heap.size + 1, 1, none⟩ = some (.int .i64 o.z) := (HS.out.y.cell 1).trans (op8_1 o)
  have c2 : w0.cell? ⟨w.heap.size + 1, 2, none⟩ = some (.int .i64 o.off) := (HS.out.y.cell 2).trans (op8_2 o)
  clear hk
  obtain ⟨N, hN, hN3⟩ : ∃ N : Nat, (max (min o.off 300) 0).toNat = N ∧ N ≤ 300 := ⟨_, rfl, by omega⟩
  have HN : Hid (max (min o.off 300) 0 = (N : Int)) := Lib.hid (by omega)
  have HNn := Lib.hid hN
  clear hN
  go_upto_region 32 with (first | (refine wpl_run (by rfl) (.int .i64 (min o.off 300)) (exec_min _ _ _ rfl o.off 300 _ rfl rfl rfl) ?_; go_frame) | (refine wpl_run (by rfl) (.int .i64 (N : Nat)) (exec_max _ _ _ rfl (min o.off 300) 0 _ rfl rfl HN.out) ?_; go_frame))
  clear c0 c1 c2 HN
  have HI0 : Hid (Aft8 C lo X w F (S.plN o.e 0) (d8A (dd7 S.R.d) (.slice az nz cz) (.slice ac S.R.cs.length cc) (.slice ah S.R.h.length ch)) (op8A o) d8Z w0) := Lib.hid (HS.out.cmd8 HA.out (DrTo.same HA.out (Below.refl _ _)))
  have HD0 := HD
  clear HS HA HD
  go_loopw [181] (fun i wr => ∃ (j : Nat) (csj : List EvR) (aj : Option Addr) (cj : Nat), j ≤ N ∧ i = .int .i64 (j : Nat) ∧ (S.plN o.e j).R = (⟨S.R.d, S.R.zs, csj, S.R.h⟩ : DuR) ∧ csj.length ≤ 256 ∧ Aft8 C lo X w F (S.plN o.e j) (d8A (dd7 S.R.d) (.slice az nz cz) (.slice aj csj.length cj) (.slice ah S.R.h.length ch)) (op8A o) d8Z wr ∧ Dc lo wr (.slice az nz cz) (.slice aj csj.length cj) (.slice ah S.R.h.length ch) (⟨S.R.d, S.R.zs, csj, S.R.h⟩ : DuR)) (fun i _ => N - (intOf i).toNat)
  case atStart => exact ⟨0, S.R.cs, ac, cc, Nat.zero_le _, rfl, rfl, Hf.out.cs, HI0.out, HD0.out⟩
  case round =>
    obtain ⟨j, csj, aj, cj, hj, rfl, hRj, hcj, hI, hD⟩ := hrel
    have HS := Lib.hid hI
    have HD := Lib.hid hD
    have HRj := Lib.hid hRj
    have Hcj := Lib.hid hcj
    clear hI hD hRj hcj HI0 HD0
    by_cases hlt : j < N
    case neg =>
      have hje : j = N := by omega
      subst hje
      have HR := HRj
      clear Hcj
      go_wp2_with (first | (refine wpl_load rfl _ rfl (w.heap.size) rfl _ _ _ (HS.out.x) Try.underlying30 rfl Try.info8D ?_; go_frame) | (refine wpl_store rfl _ _ rfl (w.heap.size + 2) (d8A (dd7 S.R.d) (.slice az nz cz) (.slice aj csj.length cj) (.slice ah S.R.h.length ch)) rfl rfl _ _ HS.out.g Try.info8D rfl (d8A_one _ _ _ _ _ _ _ _ _ _) ?_; intro w9 hSg hKg; have HF := Lib.hid (HS.out.out hSg hKg); have HDF := Lib.hid (HD.out.keptB HS.out.g (by decide) (by decide) (by decide) hKg); clear hSg hKg; go_frame))
      exact bodyPost_ret (v := .tuple #[.agg (d8A (dd7 S.R.d) (.slice az nz cz) (.slice aj csj.length cj) (.slice ah S.R.h.length ch)), .bool true]) (results_cell_slot Try.results10 _ _ (w.heap.size + 2) 30 _ _ _ rfl rfl HF.out.g Try.underlying30 rfl Try.info8D) rfl (by unfold STo8; rw [HNn.out, HR.out]; exact ⟨_, _, _, _, _, _, _, rfl, HDF.out, HF.out.dr⟩)
    obtain ⟨F0, hA0, -, -⟩ := HS.out.dr
    have HA := Lib.hid hA0
    clear hA0
    go_upto_region 33 with fail
    refine wp_regionM (S := fun w' => Blk w' (w.heap.size) 30 (d8A (dd7 S.R.d) (.slice az nz cz) (.slice aj csj.length cj) (.slice ah S.R.h.length ch)) ∧ Blk w' (w.heap.size + 1) 39 (op8A o)) 8 (by kernel_rfl) ?_
    have hS : Blk wr.drew (w.heap.size) 30 (d8A (dd7 S.R.d) (.slice az nz cz) (.slice aj csj.length cj) (.slice ah S.R.h.length ch)) ∧ Blk wr.drew (w.heap.size + 1) 39 (op8A o) := ⟨HS.out.x, HS.out.y⟩
    refine takeM [4, 5, 6, 8] hS (i := 0) (d := 184) (v := .agg (d8A (dd7 S.R.d) (.slice az nz cz) (.slice aj csj.length cj) (.slice ah S.R.h.length ch))) rfl rfl (by kernel_rfl) (by kernel_rfl) (by kernel_rfl) (by kernel_rfl) (fun _ _ _ h => h) (Or.inl ⟨by kernel_rfl, fun w' hw' => by exact exec_load _ rfl (w.heap.size) rfl hw'.1 Try.underlying30 rfl Try.info8D⟩) ?_
    refine takeM [2, 3, 4, 5, 6, 8] hS (i := 1) (d := 185) (v := .pointer (some ⟨w.heap.size + 1, 68, none⟩)) rfl rfl (by kernel_rfl) (by kernel_rfl) (by kernel_rfl) (by kernel_rfl) (fun _ _ _ h => h) (Or.inl ⟨by kernel_rfl, fun w' hw' => by kernel_rfl⟩) ?_
    refine takeM [3, 4, 5, 6, 8] hS (i := 2) (d := 186) (v := .agg (evA o.e)) rfl rfl (by kernel_rfl) (by kernel_rfl) (by kernel_rfl) (by kernel_rfl) (fun _ _ _ h => h) (Or.inl ⟨by kernel_rfl, fun w' hw' => by exact exec_load_v _ _ rfl (w.heap.size + 1) 68 rfl (evA o.e) _ (op8_ev hw'.2 Ho.out.len) Try.underlying37 rfl (info_evA Ho.out.ev.len)⟩) ?_
    try go_frame
    have hbd : Below wr.heap.size wr wr.drew := (Below.refl _ _).drew
    have HA2 := Lib.hid (C.below HA.out hbd)
    have HS2 := Lib.hid (HS.out.below hbd)
    have HD2 := Lib.hid (HD.out.below hbd)
    clear hbd HA HS HD
    refine nextM (i := 3) rfl (by kernel_rfl) (by kernel_rfl) (fun K' hK => ?_)
    go_wp2_with fail
    refine (of8 o.e _ Ho.out.ev.len).mono ?_
    rintro en w3 ⟨rfl, hb⟩
    have HA3 := Lib.hid (C.below HA2.out hb)
    have HS3 := Lib.hid (HS2.out.below hb)
    have HD3 := Lib.hid (HD2.out.below hb)
    have hS3 : Blk w3 (w.heap.size) 30 (d8A (dd7 S.R.d) (.slice az nz cz) (.slice aj csj.length cj) (.slice ah S.R.h.length ch)) ∧ Blk w3 (w.heap.size + 1) 39 (op8A o) := ⟨HS3.out.x, HS3.out.y⟩
    refine hK.out _ _ ⟨fun _ => hS3, ?_⟩
    clear hK K' hb hS HA2 HS2 HD2
    try go_frame
    refine nextM (i := 4) rfl (by kernel_rfl) (by kernel_rfl) (fun K' hK => ?_)
    go_wp2_with fail
    refine (g8plan (lo := lo) (dd7 S.R.d) az nz cz aj cj ah S.R.h.length ch HD3.out.cs Ho.out.ev (by have := HS3.out.g.lt; have := Hlo.out; omega)).mono ?_
    rintro en w4 ⟨vc', rfl, hc', hb⟩
    obtain ⟨a8, c8, rfl, -, -⟩ := hc'.slice
    have HA4 := Lib.hid (C.below HA3.out hb)
    have HS4 := Lib.hid (HS3.out.below hb)
    have HD4 : Hid (Dc lo w4 (.slice az nz cz) (.slice a8 (plL o.e csj).length c8) (.slice ah S.R.h.length ch) ⟨S.R.d, S.R.zs, (plL o.e csj), S.R.h⟩) := Lib.hid ⟨HD3.out.zs.below hb, hc', HD3.out.h.below hb⟩
    have hS4 : Blk w4 (w.heap.size) 30 (d8A (dd7 S.R.d) (.slice az nz cz) (.slice aj csj.length cj) (.slice ah S.R.h.length ch)) ∧ Blk w4 (w.heap.size + 1) 39 (op8A o) := ⟨HS4.out.x, HS4.out.y⟩
    refine hK.out _ _ ⟨fun _ => hS4, ?_⟩
    clear hK K' hb hc' hS3 HA3 HS3 HD3
    try go_frame
    refine takeM [6, 8] hS4 (i := 5) (d := 183) (v := .tuple #[.agg (d8A (dd7 S.R.d) (.slice az nz cz) (.slice a8 (plL o.e csj).length c8) (.slice ah S.R.h.length ch)), .int .i64 (plE o.e csj)]) rfl rfl (by kernel_rfl) (by kernel_rfl) (by kernel_rfl) (by kernel_rfl) (fun _ _ _ h => h) (Or.inl ⟨by kernel_rfl, fun w' hw' => by kernel_rfl⟩) ?_
    refine takeM [8] hS4 (i := 6) (d := 189) (v := .agg (d8A (dd7 S.R.d) (.slice az nz cz) (.slice a8 (plL o.e csj).length c8) (.slice ah S.R.h.length ch))) rfl rfl (by kernel_rfl) (by kernel_rfl) (by kernel_rfl) (by kernel_rfl) (fun _ _ _ h => h) (Or.inl ⟨by kernel_rfl, fun w' hw' => by kernel_rfl⟩) ?_
    refine takeP (i := 7) (d := 190) (v := .int .i64 (plE o.e csj)) rfl rfl (by kernel_rfl) (by kernel_rfl) (by kernel_rfl) (by decide) (.inr hS4) (fun _ _ _ h => h) (Or.inl ⟨by kernel_rfl, fun w' _ => by kernel_rfl⟩) ?_
    try go_frame
    refine nextM (i := 8) rfl (by kernel_rfl) (by kernel_rfl) (fun K' hK => ?_)
    refine wpo_store _ _ rfl (w.heap.size) (d8A (dd7 S.R.d) (.slice az nz cz) (.slice a8 (plL o.e csj).length c8) (.slice ah S.R.h.length ch)) rfl rfl _ _ HS4.out.x (Try.info8D) rfl (d8A_one _ _ _ _ _ _ _ _ _ _) ?_
    intro w7 hX7 hK7
    have HS7 := Lib.hid (HS4.out.inx hX7 hK7)
    have HA7 := Lib.hid (C.kept HA4.out hK7 (fun i hi e9 => C.not HA4.out HS4.out.x (by decide) (e9 ▸ hi)))
    have HD7 := Lib.hid (HD4.out.keptB HS4.out.x (by decide) (by decide) (by decide) hK7)
    refine hK.out _ _ ⟨fun h9 => absurd rfl h9.1, ?_⟩
    clear hK K' hX7 hK7 hS4 HS4 HA4 HD4
    try go_frame
    refine takeP (i := 9) (d := 8) (v := .int .i64 (plE o.e csj)) rfl rfl (by kernel_rfl) (by kernel_rfl) (by kernel_rfl) (by decide) (.inl (by kernel_rfl)) (fun _ _ _ h => h) (Or.inl ⟨by kernel_rfl, fun w' _ => by kernel_rfl⟩) ?_
    try go_frame
    refine wpAnyM_done (by kernel_rfl) ?_ _
    obtain ⟨F7, hA7, hk7, hn7⟩ := HS7.out.dr
    have HA8 := Lib.hid hA7
    have Hk8 := Lib.hid hk7
    have Hn8 := Lib.hid hn7
    clear hA7 hk7 hn7 HA7
    have hcs : (S.plN o.e j).R.cs = csj := by rw [HRj.out]
    have Hcs := Lib.hid hcs
    have HF7 : Hid (Fine (S.plN o.e j)) := Lib.hid ⟨by rw [HRj.out]; exact Hf.out.n0, by rw [HRj.out]; exact Hf.out.n1, by rw [HRj.out]; exact Hcj.out, by rw [HRj.out]; exact Hf.out.h⟩
    clear hcs
    go_wp2_with (first | (refine wpl_load_ev (by rfl) _ _ rfl (w.heap.size + 1) 68 rfl o.e _ (op8_ev HS7.out.y Ho.out.len) Try.underlying37 rfl (info_evL Ho.out.ev.len) ?_; go_frame))
    refine (C.pl o.e Ho.out.ev HA8.out HF7.out).mono ?_
    rw [Hcs.out]
    rintro en w8 ⟨rfl, hT⟩
    have hT' : DrTo C lo w7 X F7 (S.plN o.e (j + 1)) w8 := hT
    have HI8 : Hid (Aft8 C lo X w F (S.plN o.e (j + 1)) (d8A (dd7 S.R.d) (.slice az nz cz) (.slice a8 (plL o.e csj).length c8) (.slice ah S.R.h.length ch)) (op8A o) d8Z w8) := Lib.hid ⟨hT'.blk HA8.out HS7.out.x (by decide), hT'.blk HA8.out HS7.out.y (by decide), hT'.blk HA8.out HS7.out.g (by decide), DrTo.step Hk8.out Hn8.out hT'⟩
    have HD8 := Lib.hid (HD7.out.cmd HA8.out hT')
    have HR8 : Hid ((S.plN o.e (j + 1)).R = ⟨S.R.d, S.R.zs, (plL o.e csj), S.R.h⟩) := Lib.hid (by show (⟨(S.plN o.e j).R.d, (S.plN o.e j).R.zs, plL o.e (S.plN o.e j).R.cs, (S.plN o.e j).R.h⟩ : DuR) = _; rw [HRj.out])
    have Hc8 : Hid ((plL o.e csj).length ≤ 256) := Lib.hid (plL_len Hcj.out)
    clear hT hT' HS7 HD7 HA8 Hk8 Hn8 HF7 Hcs HRj Hcj
    go_wp2_with fail
    go_roundw
    case rel => exact ⟨j + 1, (plL o.e csj), a8, c8, by omega, by go_num, HR8.out, Hc8.out, HI8.out, HD8.out⟩
    case measure => simp [intOf]; omega
end Go.Proofs.Ytajkajgnjcnolaa

namespace Go.Proofs.Ytajkajgnjcnolaa
open Go.RowKit
set_option linter.unusedVariables false
set_option linter.unnecessarySimpa false
set_option linter.unusedSimpArgs false
theorem st8_all {C : Drv} {lo X : Nat} {w wA : World} {S : St8} {F : Nat → Prop} {az ac ah : Option Addr} {nz cz cc ch : Nat} (o : Op8) (ho : Op8Ok wA o) (hbA : Below wA.heap.size wA w) (hloA : wA.heap.size ≤ lo) (hA : C.At lo w X S F) (hf : Fine S) (hD : Dc lo w (.slice az nz cz) (.slice ac S.R.cs.length cc) (.slice ah S.R.h.length ch) S.R) (hlo : lo ≤ w.heap.size) :
    Calls Try.prog 10 #[.pointer (some ⟨X, 0, none⟩), .agg (d8A (dd7 S.R.d) (.slice az nz cz) (.slice ac S.R.cs.length cc) (.slice ah S.R.h.length ch)), .agg (op8A o)] w (STo8 C lo w X F (st8 S o)) := by
  unfold st8
  by_cases k1 : o.k = 1
  · rw [if_pos k1]; exact st8_1 o ho hbA hloA hA hf hD hlo k1
  · by_cases k2 : o.k = 2
    · rw [if_neg k1, if_pos k2]; exact st8_2 o ho hbA hloA hA hf hD hlo k2
    · by_cases k3 : o.k = 3
      · rw [if_neg k1, if_neg k2, if_pos k3]; exact st8_3 o ho hbA hloA hA hf hD hlo k3
      · by_cases k4 : o.k = 4
        · rw [if_neg k1, if_neg k2, if_neg k3, if_pos k4]; exact st8_4 o ho hbA hloA hA hf hD hlo k4
        · by_cases k5 : o.k = 5
          · rw [if_neg k1, if_neg k2, if_neg k3, if_neg k4, if_pos k5]; exact st8_5 o ho hbA hloA hA hf hD hlo k5
          · by_cases k6 : o.k = 6
            · rw [if_neg k1, if_neg k2, if_neg k3, if_neg k4, if_neg k5, if_pos k6]; exact st8_6 o ho hbA hloA hA hf hD hlo k6
            · by_cases k7 : o.k = 7
              · rw [if_neg k1, if_neg k2, if_neg k3, if_neg k4, if_neg k5, if_neg k6, if_pos k7]; exact st8_7 o ho hbA hloA hA hf hD hlo k7
              · by_cases k8 : o.k = 8
                · rw [if_neg k1, if_neg k2, if_neg k3, if_neg k4, if_neg k5, if_neg k6, if_neg k7, if_pos k8]; exact st8_8 o ho hbA hloA hA hf hD hlo k8
                · rw [if_neg k1, if_neg k2, if_neg k3, if_neg k4, if_neg k5, if_neg k6, if_neg k7, if_neg k8]
                  rcases Int.lt_or_le o.k 1 with h1 | h1
                  · exact st8_xa o ho hbA hloA hA hf hD hlo h1
                  · exact st8_xb o ho hbA hloA hA hf hD hlo (by omega)
end Go.Proofs.Ytajkajgnjcnolaa

namespace Go.Proofs.Ytajkajgnjcnolaa
open Go.RowKit
set_option linter.unusedVariables false
set_option linter.unnecessarySimpa false
set_option linter.unusedSimpArgs false
theorem doc_start8 {lo : Nat} {w : World} {v : Value} {n : Nat} {size : Int} (h : 1 ≤ size ∧ size ≤ 64) (hr : Row7 lo w v (l70 n)) : Doc lo w v (List.replicate n (zs0 size)) := ⟨l70 n, hr, by unfold l70; rw [List.map_replicate, List.map_replicate, rz_zero h]⟩
theorem d8Z_one : d8Z.all (·.oneCell') = true := d8A_one ⟨0, 0, 0, false⟩ none none none 0 0 0 0 0 0
theorem results3 {P : Program} {fn : Func} {p q r : Tmp} {ty : TypeId} (h : fn.results = #[.tmp q, .cell p ty, .tmp r]) (tmps : Array Value) (w : World) (g : Nat) (t : TypeId) (cs : Array Value) (v u : Value) (d : TypeDesc)
    (hp : tmps.getD p undef = .pointer (some ⟨g, 0, none⟩)) (hq : tmps.getD q undef = v) (hr : tmps.getD r undef = u) (hg : Blk w g t cs)
    (hu : P.underlying ty = some d) (hd : (match d with | .struct _ | .array _ _ => true | _ => false) = true) (hi : (P.info? ty).map (·.size) = some cs.size) :
    (results fn tmps).run P w = .ok (.tuple #[v, .agg cs, u]) w := by
  have hp' : tmps[p]?.getD undef = .pointer (some ⟨g, 0, none⟩) := by simpa using hp
  have hq' : tmps[q]?.getD undef = v := by simpa using hq
  have hr' : tmps[r]?.getD undef = u := by simpa using hr
  simp [results, h, hp', hq', hr', asAddr, run_loadVar_row w g t ty cs (0, 0) d hg hu hd hi]
set_option maxRecDepth 100000 in
set_option maxHeartbeats 4000000 in
theorem started_no (C : Drv) (z s o : Int) (w : World) (h : ¬ ((1 ≤ z ∧ z ≤ 512) ∧ (1 ≤ s ∧ s ≤ 64) ∧ 1 ≤ o ∧ o ≤ 64)) : Calls Try.prog 9 #[.int .i64 z, .int .i64 s, .int .i64 o] w fun e w' => e = .returned (.tuple #[.pointer none, .agg d8Z, .bool false]) ∧ Below w.heap.size w w' := by
  have H := Lib.hid h
  have HB := Lib.hid (below_alloc w (Obj.cells #[.slice none 0 0, .int .i64 0, .int .i64 0, .int .i64 0, .bool false, .slice none 0 0, .slice none 0 0] 30))
  have HX : Hid (Blk (w.alloc (Obj.cells #[.slice none 0 0, .int .i64 0, .int .i64 0, .int .i64 0, .bool false, .slice none 0 0, .slice none 0 0] 30)) w.heap.size 30 d8Z) := Lib.hid (Blk.new w 30 d8Z)
  clear h
  go_enter Try.func9, Try.ntmps9
  go_upto_region 1 with fail
  generalize (w.alloc (Obj.cells #[.slice none 0 0, .int .i64 0, .int .i64 0, .int .i64 0, .bool false, .slice none 0 0, .slice none 0 0] 30)) = w0 at *
  go_wp2_with fail
  refine (C.neuNo z s o H.out).mono ?_
  rintro e w1 ⟨rfl, hb⟩
  have HX1 := Lib.hid (HX.out.below hb HX.out.lt)
  have HB1 := Lib.hid (bthen' HB.out hb)
  clear hb
  go_wp2_with (first | (refine wpl_build (by rfl) _ _ rfl (.agg d8Z) (fun w => by kernel_rfl) ?_; go_frame) | (refine wpl_store rfl _ _ rfl (w.heap.size) d8Z rfl rfl _ _ HX1.out Try.info8D rfl d8Z_one ?_; intro w9 hSg hKg; have HSg := Lib.hid hSg; have HKg := Lib.hid hKg; clear hSg hKg; go_frame))
  exact bodyPost_ret (v := .tuple #[.pointer none, .agg d8Z, .bool false]) (results3 Try.results9 _ _ (w.heap.size) 30 _ _ _ _ rfl rfl rfl HSg.out Try.underlying30 rfl Try.info8D) rfl ⟨rfl, bkept HB1.out (Nat.le_refl _) HKg.out (fun i hi h => by omega)⟩
set_option maxRecDepth 100000 in
set_option maxHeartbeats 4000000 in
theorem started_big (C : Drv) (n : Nat) (s o : Int) (w : World) (h1 : 1 ≤ n ∧ n ≤ 512) (h2 : 1 ≤ o ∧ o ≤ 64) (h3 : 1 ≤ s ∧ s ≤ 64) (hb : 40 < n) : Calls Try.prog 9 #[.int .i64 (n : Nat), .int .i64 s, .int .i64 o] w fun e w' => e = .returned (.tuple #[.pointer none, .agg d8Z, .bool false]) ∧ Below w.heap.size w w' := by
  have da : decide ((40 : Int) < (n : Int)) = true := decide_eq_true (by omega)
  have HB := Lib.hid (below_alloc w (Obj.cells #[.slice none 0 0, .int .i64 0, .int .i64 0, .int .i64 0, .bool false, .slice none 0 0, .slice none 0 0] 30))
  have HX : Hid (Blk (w.alloc (Obj.cells #[.slice none 0 0, .int .i64 0, .int .i64 0, .int .i64 0, .bool false, .slice none 0 0, .slice none 0 0] 30)) w.heap.size 30 d8Z) := Lib.hid (Blk.new w 30 d8Z)
  go_enter Try.func9, Try.ntmps9
  go_upto_region 1 with fail
  generalize (w.alloc (Obj.cells #[.slice none 0 0, .int .i64 0, .int .i64 0, .int .i64 0, .bool false, .slice none 0 0, .slice none 0 0] 30)) = w0 at *
  go_wp2_with fail
  refine (C.neu (lo := w.heap.size) n s o h1 h2 h3 HB.out.size).mono ?_
  rintro e w1 ⟨X, F, rfl, hA, hb⟩
  have HX1 := Lib.hid (HX.out.below hb HX.out.lt)
  have HB1 := Lib.hid (bthen' HB.out hb)
  clear hb hA
  go_wp2_with (first | (refine wpl_build (by rfl) _ _ rfl (.agg d8Z) (fun w => by kernel_rfl) ?_; go_frame) | (refine wpl_store rfl _ _ rfl (w.heap.size) d8Z rfl rfl _ _ HX1.out Try.info8D rfl d8Z_one ?_; intro w9 hSg hKg; have HSg := Lib.hid hSg; have HKg := Lib.hid hKg; clear hSg hKg; go_frame))
  exact bodyPost_ret (v := .tuple #[.pointer none, .agg d8Z, .bool false]) (results3 Try.results9 _ _ (w.heap.size) 30 _ _ _ _ rfl rfl rfl HSg.out Try.underlying30 rfl Try.info8D) rfl ⟨rfl, bkept HB1.out (Nat.le_refl _) HKg.out (fun i hi h => by omega)⟩
set_option maxRecDepth 100000 in
set_option maxHeartbeats 4000000 in
theorem started_ok (C : Drv) {lo : Nat} (n : Nat) (s o : Int) (w : World) (h1 : 1 ≤ n ∧ n ≤ 40) (h2 : 1 ≤ o ∧ o ≤ 64) (h3 : 1 ≤ s ∧ s ≤ 64) (hlo : lo ≤ w.heap.size) : Calls Try.prog 9 #[.int .i64 (n : Nat), .int .i64 s, .int .i64 o] w fun e w' => ∃ X F az nz cz, e = .returned (.tuple #[.pointer (some ⟨X, 0, none⟩), .agg (d8A (d70 s o) (.slice az nz cz) (.slice none 0 0) (.slice none 0 0)), .bool true]) ∧ C.At lo w' X (st80 n s o) F ∧ Dc lo w' (.slice az nz cz) (.slice none 0 0) (.slice none 0 0) (st80 n s o).R ∧ Below w.heap.size w w' := by
  have da : decide ((40 : Int) < (n : Int)) = false := decide_eq_false (by omega)
  have HB := Lib.hid (below_alloc w (Obj.cells #[.slice none 0 0, .int .i64 0, .int .i64 0, .int .i64 0, .bool false, .slice none 0 0, .slice none 0 0] 30))
  have HX : Hid (Blk (w.alloc (Obj.cells #[.slice none 0 0, .int .i64 0, .int .i64 0, .int .i64 0, .bool false, .slice none 0 0, .slice none 0 0] 30)) w.heap.size 30 d8Z) := Lib.hid (Blk.new w 30 d8Z)
  have Hlo := Lib.hid hlo
  clear hlo
  go_enter Try.func9, Try.ntmps9
  go_upto_region 1 with fail
  generalize (w.alloc (Obj.cells #[.slice none 0 0, .int .i64 0, .int .i64 0, .int .i64 0, .bool false, .slice none 0 0, .slice none 0 0] 30)) = w0 at *
  go_wp2_with fail
  refine (C.neu (lo := lo) n s o ⟨by omega, by omega⟩ h2 h3 (by have := HB.out.size; have := Hlo.out; omega)).mono ?_
  rintro e w1 ⟨X, F, rfl, hA, hb⟩
  have HX1 := Lib.hid (HX.out.below hb HX.out.lt)
  have HB1 := Lib.hid (bthen' HB.out hb)
  have HA1 := Lib.hid hA
  clear hb hA
  go_wp2_with fail
  refine (nw7 (lo := lo) n s o (by omega) (by have := HB1.out.size; have := Hlo.out; omega)).mono ?_
  rintro e w2 ⟨v7, rfl, hr, hb⟩
  obtain ⟨az, cz, rfl⟩ := own_slice hr.own
  have HD2 := Lib.hid (doc_start8 (n := n) h3 hr)
  have HX2 := Lib.hid (HX1.out.below hb HX1.out.lt)
  have HB2 := Lib.hid (bthen' HB1.out hb)
  have HA2 := Lib.hid (C.below HA1.out hb)
  have HXl : Hid (w.heap.size < w0.heap.size) := Lib.hid HX.out.lt
  clear hr hb
  generalize (l70 n).length = nz at *
  go_wp2_with (first | (refine wpl_build (by rfl) _ _ rfl (.agg (d8A (d70 s o) (.slice az nz cz) (.slice none 0 0) (.slice none 0 0))) (fun w => by kernel_rfl) ?_; go_frame) | (refine wpl_store rfl _ _ rfl (w.heap.size) (d8A (d70 s o) (.slice az nz cz) (.slice none 0 0) (.slice none 0 0)) rfl rfl _ _ HX2.out Try.info8D rfl (d8A_one _ _ _ _ _ _ _ _ _ _) ?_; intro w9 hSg hKg; have HSg := Lib.hid hSg; have HKg := Lib.hid hKg; clear hSg hKg; go_frame))
  have HDc : Hid (Dc lo w2 (.slice az nz cz) (.slice none 0 0) (.slice none 0 0) (st80 n s o).R) := Lib.hid ⟨HD2.out, RdE.nil _ _ _, RowE.nil _ _ _⟩
  exact bodyPost_ret (v := .tuple #[.pointer (some ⟨X, 0, none⟩), .agg (d8A (d70 s o) (.slice az nz cz) (.slice none 0 0) (.slice none 0 0)), .bool true]) (results3 Try.results9 _ _ (w.heap.size) 30 _ _ _ _ rfl rfl rfl HSg.out Try.underlying30 rfl Try.info8D) rfl ⟨X, F, az, nz, cz, rfl, C.kept HA2.out HKg.out (fun i hi e9 => C.not HA2.out HX2.out (by decide) (e9 ▸ hi)), HDc.out.keptB HX2.out (by decide) (by decide) (by decide) HKg.out, bkept HB2.out (Nat.le_refl _) HKg.out (fun i hi h => by omega)⟩
end Go.Proofs.Ytajkajgnjcnolaa

namespace Go.Proofs.Ytajkajgnjcnolaa
open Go.RowKit
set_option linter.unusedVariables false
set_option linter.unnecessarySimpa false
set_option linter.unusedSimpArgs false
def an0 : St8 := st80 1 4 1
def anE : EvR := ⟨1, 4, 0, 0, zeros 64⟩
def anS : List Nat := 1 :: zeros 63
def an1 : St8 := an0.pl anE
def an2 : St8 := an1.ap 0 anS
def an3 : St8 := an2.ap 0 anS
theorem anE_ok : EvOk anE := ⟨zeros_length 64, fun c hc => by have := List.eq_of_mem_replicate (show c ∈ List.replicate 64 0 from hc); omega, by intro z hz; simp [evZ, anE] at hz; rcases hz with rfl | rfl | rfl <;> decide⟩
theorem anS_len : anS.length = 64 := rfl
theorem anS_lt : ∀ b ∈ anS, b < 256 := by
  intro b hb
  rcases List.mem_cons.1 hb with rfl | hb
  · decide
  · have := List.eq_of_mem_replicate (show b ∈ List.replicate 63 0 from hb); omega
theorem an_f0 : Fine an0 := ⟨by decide, by decide, by decide, by decide⟩
theorem an_f1 : Fine an1 := ⟨by decide, by decide, by decide, by decide⟩
theorem an_f2 : Fine an2 := ⟨by decide, by decide, by decide, by decide⟩
theorem an_e0 : plE anE an0.R.cs = 0 := by decide
theorem an_e1 : (an1.apO 0 anS).e = 0 := by decide
theorem an_e2 : (an2.apO 0 anS).e = 34 := by decide
theorem an_l : lnD an3.R.zs 0 = 1 := by decide
theorem DrTo.bel {C : Drv} {lo X B : Nat} {wA w w' : World} {S S' : St8} {F : Nat → Prop} (h : DrTo C lo w X F S' w') (hA : C.At lo w X S F) (hB : Below B wA w) (hBA : B ≤ wA.heap.size) (hBl : B ≤ lo) : Below B wA w' := by
  obtain ⟨F', k1, k2, k3⟩ := h
  exact bkept hB hBA k2 (fun i hi e9 => by have := C.lov hA e9; omega)
set_option maxRecDepth 100000 in
set_option maxHeartbeats 4000000 in
theorem anchor8_any (C : Drv) (w : World) : Calls Try.prog 8 #[] w fun e w' => e = .returned (.bool true) ∧ Below w.heap.size w w' := by
  go_enter Try.func8, Try.ntmps8
  go_wp2_with fail
  refine (C.neu (lo := w.heap.size) 1 4 1 (by decide) (by decide) (by decide) (Nat.le_refl _)).mono ?_
  rintro e w1 ⟨X, F, rfl, hA, hb⟩
  have HA : Hid (C.At w.heap.size w1 X an0 F) := Lib.hid hA
  have HB := Lib.hid hb
  clear hA hb
  go_wp2_with (first | (refine wpl_build (by rfl) 37 _ rfl (.agg (evA anE)) (fun _ => by kernel_rfl) ?_; go_frame))
  refine (C.pl anE anE_ok HA.out an_f0).mono ?_
  rw [an_e0]
  rintro e w2 ⟨rfl, F2, hA2, hk2, hn2⟩
  have HB2 := Lib.hid (DrTo.bel (⟨F2, hA2, hk2, hn2⟩ : DrTo C _ w1 X F an1 w2) HA.out HB.out (Nat.le_refl _) (Nat.le_refl _))
  have HA2 : Hid (C.At w.heap.size w2 X an1 F2) := Lib.hid hA2
  clear hA2 hk2 hn2 HA HB
  go_wp2_with (first | (refine wpl_build (by rfl) 34 _ rfl (.agg (bA anS)) (fun _ => by kernel_rfl) ?_; go_frame))
  refine (C.ap 0 anS anS_len anS_lt HA2.out an_f1).mono ?_
  rw [an_e1]
  rintro e w3 ⟨rfl, F3, hA3, hk3, hn3⟩
  have HB3 := Lib.hid (DrTo.bel (⟨F3, hA3, hk3, hn3⟩ : DrTo C _ w2 X F2 an2 w3) HA2.out HB2.out (Nat.le_refl _) (Nat.le_refl _))
  have HA3 : Hid (C.At w.heap.size w3 X an2 F3) := Lib.hid hA3
  clear hA3 hk3 hn3 HA2 HB2
  generalize (an1.apO 0 anS).o = o1 at *
  go_wp2_with (first | (refine wpl_build (by rfl) 34 _ rfl (.agg (bA anS)) (fun _ => by kernel_rfl) ?_; go_frame))
  refine (C.ap 0 anS anS_len anS_lt HA3.out an_f2).mono ?_
  rw [an_e2]
  rintro e w4 ⟨rfl, F4, hA4, hk4, hn4⟩
  have HB4 := Lib.hid (DrTo.bel (⟨F4, hA4, hk4, hn4⟩ : DrTo C _ w3 X F3 an3 w4) HA3.out HB3.out (Nat.le_refl _) (Nat.le_refl _))
  have HA4 : Hid (C.At w.heap.size w4 X an3 F4) := Lib.hid hA4
  clear hA4 hk4 hn4 HA3 HB3
  generalize (an2.apO 0 anS).o = o2 at *
  go_wp2_with fail
  refine (C.dev HA4.out).mono ?_
  rintro e w5 ⟨D, vz, l, rfl, rfl, hdv, hl⟩
  have Hdv := Lib.hid hdv
  have Hl := Lib.hid hl
  clear hdv hl
  go_wp2_with fail
  refine (cln7 0 Hdv.out).mono ?_
  rw [Hl.out, an_l]
  rintro e w6 ⟨rfl, rfl⟩
  go_wp2_with fail
  go_ret
  exact ⟨rfl, HB4.out⟩
end Go.Proofs.Ytajkajgnjcnolaa

namespace Go.Proofs.Ytajkajgnjcnolaa
open Go.RowKit
set_option linter.unusedVariables false
set_option linter.unnecessarySimpa false
set_option linter.unusedSimpArgs false
end Go.Proofs.Ytajkajgnjcnolaa

namespace Go.Proofs.Ytajkajgnjcnolaa
open Go.RowKit
set_option linter.unusedVariables false
set_option linter.unnecessarySimpa false
set_option linter.unusedSimpArgs false
end Go.Proofs.Ytajkajgnjcnolaa

namespace Go.Proofs.Ytajkajgnjcnolaa
open Go.RowKit
set_option linter.unusedVariables false
set_option linter.unnecessarySimpa false
set_option linter.unusedSimpArgs false
end Go.Proofs.Ytajkajgnjcnolaa

namespace Go.Proofs.Ytajkajgnjcnolaa
open Go.RowKit
set_option linter.unusedVariables false
set_option linter.unnecessarySimpa false
set_option linter.unusedSimpArgs false
end Go.Proofs.Ytajkajgnjcnolaa

namespace Go.Proofs.Ytajkajgnjcnolaa
open Go.RowKit
set_option linter.unusedVariables false
set_option linter.unnecessarySimpa false
set_option linter.unusedSimpArgs false
end Go.Proofs.Ytajkajgnjcnolaa

namespace Go.Proofs.Ytajkajgnjcnolaa
open Go.RowKit
set_option linter.unusedVariables false
set_option linter.unnecessarySimpa false
set_option linter.unusedSimpArgs false
end Go.Proofs.Ytajkajgnjcnolaa

namespace Go.Proofs.Ytajkajgnjcnolaa
open Go.RowKit
set_option linter.unusedVariables false
set_option linter.unnecessarySimpa false
set_option linter.unusedSimpArgs false
end Go.Proofs.Ytajkajgnjcnolaa

namespace Go.Proofs.Ytajkajgnjcnolaa
open Go.RowKit
set_option linter.unusedVariables false
set_option linter.unnecessarySimpa false
set_option linter.unusedSimpArgs false
section
variable {d : DvR} {zs : List ZsR} {o : Op7}
theorem stSp_keeps : (stSp d zs o).zs.length = zs.length ∧ (stSp d zs o).d.size = d.size ∧ (stSp d zs o).d.opn = d.opn ∧ d.count ≤ (stSp d zs o).d.count ∧ (stSp d zs o).d.count ≤ d.count + 1 := by
  have e0 : ∀ (d : DvR) (zs : List ZsR), zs.length = zs.length ∧ d.size = d.size ∧ d.opn = d.opn ∧ d.count ≤ d.count ∧ d.count ≤ d.count + 1 := fun d zs => ⟨rfl, rfl, rfl, Int.le_refl _, by omega⟩
  unfold stSp
  split
  · unfold apSp
    split
    · exact e0 d zs
    · split
      · exact ⟨rfl, rfl, rfl, by show d.count ≤ d.count + 1; omega, Int.le_refl _⟩
      · exact ⟨List.length_set .., rfl, rfl, by show d.count ≤ d.count + 1; omega, Int.le_refl _⟩
  split
  · unfold rdSp
    split
    · exact e0 d zs
    · exact ⟨rfl, rfl, rfl, by show d.count ≤ d.count + 1; omega, Int.le_refl _⟩
  split
  · unfold rsSp
    split
    · exact e0 d zs
    · exact ⟨List.length_set .., rfl, rfl, by show d.count ≤ d.count + 1; omega, Int.le_refl _⟩
  split
  · unfold fnSp
    split
    · exact e0 d zs
    · exact ⟨List.length_set .., rfl, rfl, by show d.count ≤ d.count + 1; omega, Int.le_refl _⟩
  split
  · unfold flSp
    split
    · exact e0 d zs
    · exact ⟨List.length_mapIdx, rfl, rfl, by show d.count ≤ d.count + 1; omega, Int.le_refl _⟩
  split
  · exact ⟨rfl, rfl, rfl, Int.le_refl _, by show d.count ≤ d.count + 1; omega⟩
  split
  · unfold rvSp
    split
    · exact ⟨List.length_mapIdx, rfl, rfl, Int.le_refl _, by show d.count ≤ d.count + 1; omega⟩
    · exact e0 d zs
  split
  · unfold faSp
    split
    · exact ⟨List.length_set .., rfl, rfl, Int.le_refl _, by show d.count ≤ d.count + 1; omega⟩
    · exact e0 d zs
  split
  · unfold spSp
    split
    · exact ⟨List.length_set .., rfl, rfl, Int.le_refl _, by show d.count ≤ d.count + 1; omega⟩
    · exact e0 d zs
  exact e0 d zs
end
def s1 : List Nat := 1 :: zeros 63
structure LvI (w : World) (D X : Nat) (vz v7 : Value) (d : DvR) (l : List ZcR) (W : World) : Prop where
  dv : DvAt w.heap.size W D vz d l
  doc : Doc w.heap.size W v7 (l.map ZcR.z)
  bX : Blk W X 27 (d7A (dd7 d) v7)
  B : Below w.heap.size w W
  loX : w.heap.size ≤ X
section
variable {w W W' W1 W2 W3 : World} {D X : Nat} {vz v7 v8 : Value} {d : DvR} {l : List ZcR} {R : OutR}
theorem LvI.below (h : LvI w D X vz v7 d l W) (hb : Below W.heap.size W W') : LvI w D X vz v7 d l W' := ⟨h.dv.below hb, h.doc.below hb, h.bX.below hb h.bX.lt, h.B.trans (hb.mono h.B.size), h.loX⟩
theorem LvI.next (h : LvI w D X vz v7 d l W) (hd : Doc w.heap.size W' v8 R.zs) (hT : DvTo w.heap.size W D vz l R.d R.zs W') (hX : Blk W3 X 27 (d7A (dd7 R.d) v8)) (hk : Kept (· = X) W' W3) : ∃ l', LvI w D X vz v8 R.d l' W3 ∧ l'.map ZcR.z = R.zs := by
  have hbX := hT.blk h.dv h.bX (by decide) (by decide) (by decide) (by decide)
  have hB := hT.bel h.dv h.B (Nat.le_refl _)
  obtain ⟨l', k1, k2, k3, k4⟩ := hT
  rw [← k2] at hd
  exact ⟨l', ⟨k1.kept hk (fun i hi e => k1.notblk hbX (by decide) (by decide) (by decide) (by decide) (e ▸ hi)), hd.keptB hbX (by decide) (by decide) hk, hX, bkept hB (Nat.le_refl _) hk (fun i hi e => by have := h.loX; omega), h.loX⟩, k2⟩
theorem LvI.slice (h : LvI w D X vz v7 d l W) : ∃ a n c, v7 = .slice a n c := by
  obtain ⟨l7, r, _⟩ := h.doc
  obtain ⟨a, c, e⟩ := own_slice r.own
  exact ⟨a, _, c, e⟩
theorem LvI.other (h : LvI w D X vz v7 d l W) {g : Nat} {t : TypeId} {cs : Array Value} (hT : DvTo w.heap.size W D vz l R.d R.zs W') (hk : Kept (· = X) W' W3) (hg : Blk W g t cs) (h1 : t ≠ 96) (h2 : t ≠ 93) (h3 : t ≠ 114) (h4 : t ≠ 34) (hgX : g ≠ X) : Blk W3 g t cs := (hT.blk h.dv hg h1 h2 h3 h4).kept hk (fun e => hgX e)
end
end Go.Proofs.Ytajkajgnjcnolaa

namespace Go.Proofs.Ytajkajgnjcnolaa
open Go.RowKit
set_option linter.unusedVariables false
set_option linter.unnecessarySimpa false
set_option linter.unusedSimpArgs false
def Keep7 (d : DvR) (zs : List ZsR) (O : OutR) : Prop := O.zs.length = zs.length ∧ d.count ≤ O.d.count ∧ O.d.count ≤ d.count + 1
section
variable (d : DvR) (zs : List ZsR)
theorem keep7_of {O : OutR} (o : Op7) (h : stSp d zs o = O) : Keep7 d zs O := by
  subst h
  obtain ⟨h1, _, _, h2, h3⟩ := stSp_keeps (d := d) (zs := zs) (o := o)
  exact ⟨h1, h2, h3⟩
theorem apK (i : Int) (s : List Nat) : Keep7 d zs (apSp d zs i s) := keep7_of d zs ⟨1, i, 0, s, none, 0, 0, []⟩ (by unfold stSp; rw [if_pos rfl])
theorem rdK (i off : Int) : Keep7 d zs (rdSp d zs i off) := keep7_of d zs ⟨2, i, off, [], none, 0, 0, []⟩ (by unfold stSp; rw [if_neg (by simp), if_pos rfl])
theorem rsK (i : Int) : Keep7 d zs (rsSp d zs i) := keep7_of d zs ⟨3, i, 0, [], none, 0, 0, []⟩ (by unfold stSp; rw [if_neg (by simp), if_neg (by simp), if_pos rfl])
theorem fnK (i : Int) : Keep7 d zs (fnSp d zs i) := keep7_of d zs ⟨4, i, 0, [], none, 0, 0, []⟩ (by unfold stSp; rw [if_neg (by simp), if_neg (by simp), if_neg (by simp), if_pos rfl])
theorem flK : Keep7 d zs (flSp d zs) := keep7_of d zs ⟨5, 0, 0, [], none, 0, 0, []⟩ (by unfold stSp; rw [if_neg (by simp), if_neg (by simp), if_neg (by simp), if_neg (by simp), if_pos rfl])
theorem rvK (ks : List Int) : Keep7 d zs (rvSp d zs ks) := keep7_of d zs ⟨7, 0, 0, [], none, 0, 0, ks⟩ (by unfold stSp; rw [if_neg (by simp), if_neg (by simp), if_neg (by simp), if_neg (by simp), if_neg (by simp), if_neg (by simp), if_pos rfl])
end
structure Bd (S : St8) (n j : Nat) : Prop where
  n0 : 0 ≤ S.R.d.count
  n1 : S.R.d.count ≤ (j : Int)
  cs : S.R.cs.length ≤ 256
  h : S.R.h.length + S.R.cs.length ≤ 300 * j
  len : S.R.zs.length = n
theorem Bd.fine {S : St8} {n j : Nat} (h : Bd S n j) (hj : j ≤ 60) : Fine S := ⟨h.n0, by have := h.n1; omega, h.cs, by have := h.h; omega⟩
theorem due_full {S : St8} (z : Int) (fl : Bool) (hok : ∀ e ∈ S.R.cs, EvOk e) (sn : Sane S.R.d S.R.zs) : (S.due z fl).R.cs.length ≤ S.R.cs.length ∧ (S.due z fl).R.h.length + (S.due z fl).R.cs.length = S.R.h.length + S.R.cs.length := by
  unfold St8.due dueD
  dsimp only
  split
  · obtain ⟨_, _, _, h4, h5⟩ := dueF_facts S.R.cs S.R.d S.R.zs S.R.h hok sn
    exact ⟨h4, h5⟩
  · exact ⟨Nat.le_refl _, rfl⟩
theorem bd_cmd {S : St8} {n j : Nat} (h : Bd S n j) (z : Int) (fl : Bool) (hok : ∀ e ∈ S.R.cs, EvOk e) (sn : Sane S.R.d S.R.zs) {O : OutR} (hO : Keep7 (S.due z fl).R.d (S.due z fl).R.zs O) (M : Mk) : Bd ((S.due z fl).put O M) n (j + 1) := by
  obtain ⟨f1, f2, f3⟩ := due_facts z fl hok sn
  obtain ⟨f4, f5⟩ := due_full z fl hok sn
  obtain ⟨k1, k2, k3⟩ := hO
  have := h.n0; have := h.n1; have := h.cs; have := h.h
  exact ⟨by show 0 ≤ O.d.count; omega, by show O.d.count ≤ _; omega, by show (S.due z fl).R.cs.length ≤ 256; omega, by show (S.due z fl).R.h.length + (S.due z fl).R.cs.length ≤ _; omega, by show O.zs.length = n; rw [k1, f3]; exact h.len⟩
theorem plL_grow (e : EvR) (es : List EvR) : (plL e es).length ≤ es.length + 1 := by
  unfold plL
  split
  · unfold plI
    obtain ⟨h2, h3⟩ := plS_len e es
    split
    · exact h2
    · rename_i h4
      have := h3 (by simpa using h4)
      rw [List.length_append]; simp; omega
  · omega
theorem bd_pl {S : St8} {n j m : Nat} (h : Bd S n j) (e : EvR) (k : Nat) (hk : k ≤ 300) : 0 ≤ (S.plN e k).R.d.count ∧ (S.plN e k).R.d.count = S.R.d.count ∧ (S.plN e k).R.cs.length ≤ 256 ∧ (S.plN e k).R.h.length + (S.plN e k).R.cs.length ≤ 300 * j + k ∧ (S.plN e k).R.zs = S.R.zs := by
  induction k with
  | zero => exact ⟨h.n0, rfl, h.cs, h.h, rfl⟩
  | succ k ih =>
    obtain ⟨i1, i2, i3, i4, i5⟩ := ih (by omega)
    have hg := plL_grow e (S.plN e k).R.cs
    refine ⟨i1, i2, plL_len i3, ?_, i5⟩
    show (S.plN e k).R.h.length + (plL e (S.plN e k).R.cs).length ≤ _
    omega
theorem Bd.next {S : St8} {n j : Nat} (h : Bd S n j) (o : Op8) (hok : ∀ e ∈ S.R.cs, EvOk e) (sn : Sane S.R.d S.R.zs) : Bd (st8 S o) n (j + 1) := by
  have up : Bd S n (j + 1) := ⟨h.n0, by have := h.n1; omega, h.cs, by have := h.h; omega, h.len⟩
  unfold st8
  split
  · exact bd_cmd h _ _ hok sn (apK _ _ _ _) _
  · split
    · exact bd_cmd h _ _ hok sn (rdK _ _ _ _) _
    · split
      · exact bd_cmd h _ _ hok sn (rsK _ _ _) _
      · split
        · exact bd_cmd h _ _ hok sn (fnK _ _ _) _
        · split
          · exact bd_cmd h _ _ hok sn (flK _ _) _
          · split
            · obtain ⟨k1, k2, k3⟩ := rvK S.R.d S.R.zs o.ks
              have := h.n0; have := h.n1; have := h.h
              exact ⟨by show 0 ≤ (rvSp S.R.d S.R.zs o.ks).d.count; omega, by show (rvSp S.R.d S.R.zs o.ks).d.count ≤ _; omega, h.cs, by show S.R.h.length + S.R.cs.length ≤ _; omega, by show (rvSp S.R.d S.R.zs o.ks).zs.length = n; rw [k1]; exact h.len⟩
            · split
              · obtain ⟨i1, i2, i3, i4, i5⟩ := bd_pl (m := 0) h o.e 1 (by omega)
                have := h.n1
                exact ⟨i1, by show (S.plN o.e 1).R.d.count ≤ _; rw [i2]; omega, i3, by show (S.plN o.e 1).R.h.length + (S.plN o.e 1).R.cs.length ≤ _; omega, by show (S.plN o.e 1).R.zs.length = n; rw [i5]; exact h.len⟩
              · split
                · obtain ⟨i1, i2, i3, i4, i5⟩ := bd_pl (m := 0) h o.e (max (min o.off 300) 0).toNat (by omega)
                  have := h.n1
                  exact ⟨i1, by rw [i2]; omega, i3, by omega, by rw [i5]; exact h.len⟩
                · exact up
structure FM (zs zs' : List ZsR) : Prop where
  each : ∀ (i : Nat) z, zs[i]? = some z → ∃ z', zs'[i]? = some z' ∧ (z.failed ≤ 0 ∨ z.failed ≤ z'.failed)
theorem FM.refl (zs : List ZsR) : FM zs zs := ⟨fun i z h => ⟨z, h, .inr (Int.le_refl _)⟩⟩
theorem FM.trans {a b c : List ZsR} (h : FM a b) (k : FM b c) : FM a c := ⟨fun i z hz => by
  obtain ⟨z1, h1, h2⟩ := h.each i z hz
  obtain ⟨z2, h3, h4⟩ := k.each i z1 h1
  exact ⟨z2, h3, by omega⟩⟩
theorem FM.set {zs : List ZsR} (k : Nat) {z' : ZsR} (h : ∀ z, zs[k]? = some z → z.failed ≤ 0 ∨ z.failed ≤ z'.failed) : FM zs (zs.set k z') := ⟨fun i z hz => by
  by_cases e : k = i
  · subst e
    exact ⟨z', List.getElem?_set_self (List.getElem?_eq_some_iff.1 hz).1, h z hz⟩
  · exact ⟨z, by rw [List.getElem?_set_ne e]; exact hz, .inr (Int.le_refl _)⟩⟩
theorem FM.idx {zs : List ZsR} (f : Nat → ZsR → ZsR) (h : ∀ i z, (f i z).failed = z.failed) : FM zs (zs.mapIdx f) := ⟨fun i z hz => ⟨f i z, by rw [List.getElem?_mapIdx, hz]; rfl, .inr (by rw [h]; exact Int.le_refl _)⟩⟩
section
variable {d : DvR} {zs : List ZsR}
theorem zsatN {i : Int} {z : ZsR} (hz : zs[i.toNat]? = some z) : zsat zs i = z := by unfold zsat; rw [List.getD_eq_getElem?_getD, hz]; rfl
theorem fm_ap (i : Int) (s : List Nat) : FM zs (apSp d zs i s).zs := by
  unfold apSp
  split
  · exact FM.refl _
  · split
    · exact FM.refl _
    · refine FM.set _ (fun z hz => .inr ?_)
      rw [zsatN hz]
      unfold apSS; split <;> exact Int.le_refl _
theorem fm_rd (i off : Int) : FM zs (rdSp d zs i off).zs := by rw [rdSp_zs]; exact FM.refl _
theorem fm_rs (i : Int) (sn : Sane d zs) : FM zs (rsSp d zs i).zs := by
  unfold rsSp
  split
  · exact FM.refl _
  · refine FM.set _ (fun z hz => ?_)
    rw [zsatN hz]
    unfold rsS
    split
    · rename_i h
      have := (refS_zero (sane_at sn hz).1).1 h
      exact .inl (by omega)
    · exact .inr (Int.le_refl _)
theorem fm_fn (i : Int) : FM zs (fnSp d zs i).zs := by
  unfold fnSp
  split
  · exact FM.refl _
  · refine FM.set _ (fun z hz => .inr ?_)
    rw [zsatN hz]
    unfold fnS; split <;> exact Int.le_refl _
theorem fm_fl : FM zs (flSp d zs).zs := by
  unfold flSp
  split
  · exact FM.refl _
  · exact FM.idx _ (fun _ _ => rfl)
theorem fm_rv (ks : List Int) : FM zs (rvSp d zs ks).zs := by
  unfold rvSp
  split
  · exact FM.idx _ (fun _ _ => rfl)
  · exact FM.refl _
theorem fm_fa (i st : Int) (sn : Sane d zs) : FM zs (faSp d zs i st).zs := by
  unfold faSp
  split
  · refine FM.set _ (fun z hz => ?_)
    rw [zsatN hz]
    have hf := (sane_at sn hz).1.failed
    unfold faS
    split
    · rename_i h
      right
      show z.failed ≤ st
      omega
    · exact .inr (Int.le_refl _)
  · exact FM.refl _
theorem fm_sp (i off : Int) (p : List Nat) : FM zs (spSp d zs i off p).zs := by
  unfold spSp
  split
  · refine FM.set _ (fun z hz => .inr ?_)
    rw [zsatN hz]
    unfold chS7; split <;> exact Int.le_refl _
  · exact FM.refl _
theorem fm_hap (e : EvR) (sn : Sane d zs) : FM zs (hapSp d zs e).zs := by
  unfold hapSp
  split
  · exact fm_sp _ _ _
  · split
    · exact fm_fa _ _ sn
    · split
      · exact fm_fa _ _ sn
      · split <;> exact FM.refl _
end
theorem fm_due : ∀ (cs : List EvR) (d : DvR) (zs : List ZsR) (h : List EvR), (∀ e ∈ cs, EvOk e) → Sane d zs → FM zs (dueF d zs cs h).zs
  | [], _, _, _, _, _ => FM.refl _
  | e :: cs, d, zs, h, hok, sn => by
    by_cases hg : d.down = false ∧ e.at_ ≤ d.count
    · rw [dueF_go hg.1 hg.2]
      exact (fm_hap e sn).trans (fm_due cs _ _ _ (fun x hx => hok x (by simp [hx])) (hapSp_sane sn (hok e (by simp))))
    · have hE : dueF d zs (e :: cs) h = ⟨d, zs, e :: cs, h⟩ := by rw [dueF, if_neg hg]
      rw [hE]
      exact FM.refl _
theorem fm_dueD {S : St8} (z : Int) (fl : Bool) (hok : ∀ e ∈ S.R.cs, EvOk e) (sn : Sane S.R.d S.R.zs) : FM S.R.zs (S.due z fl).R.zs := by
  unfold St8.due dueD
  dsimp only
  split
  · exact fm_due _ _ _ _ hok sn
  · exact FM.refl _
theorem plN_zs (S : St8) (e : EvR) (k : Nat) : (S.plN e k).R.zs = S.R.zs := by
  induction k with
  | zero => rfl
  | succ k ih => exact ih
theorem FM.step {S : St8} (o : Op8) (hok : ∀ e ∈ S.R.cs, EvOk e) (sn : Sane S.R.d S.R.zs) : FM S.R.zs (st8 S o).R.zs := by
  have hd := fun z fl => fm_dueD (S := S) z fl hok sn
  have hs := fun z fl => (due_facts (S := S) z fl hok sn).1
  unfold st8
  split
  · exact (hd _ _).trans (fm_ap _ _)
  · split
    · exact (hd _ _).trans (fm_rd _ _)
    · split
      · exact (hd _ _).trans (fm_rs _ (hs _ _))
      · split
        · exact (hd _ _).trans (fm_fn _)
        · split
          · exact (hd _ _).trans fm_fl
          · split
            · exact fm_rv _
            · split
              · exact FM.refl _
              · split
                · rw [plN_zs]; exact FM.refl _
                · exact FM.refl _
theorem FM.state {zs zs' : List ZsR} (h : FM zs zs') {i : Nat} {z z' : ZsR} (hz : zs[i]? = some z) (hz' : zs'[i]? = some z') (hok : ZsOk z) (h3 : 3 ≤ stS z) : stS z ≤ stS z' := by
  obtain ⟨z2, h1, h2⟩ := h.each i z hz
  rw [hz'] at h1
  injection h1 with h1
  subst h1
  rcases stS_cases hok with ⟨a, b, _⟩ | ⟨a, b⟩ | ⟨a, b⟩
  · omega
  · have : z'.failed ≠ 0 := by omega
    rw [stS_yes this, b]; omega
  · have : z'.failed ≠ 0 := by omega
    rw [stS_yes this, b]; omega
end Go.Proofs.Ytajkajgnjcnolaa

