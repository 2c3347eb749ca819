import Derived.Test.YtajkajgnjcnolaaMp23
import Derived.Test.YtajkajgnjcnolaaMp22
import Derived.Test.YtajkajgnjcnolaaMp10
namespace Go.Proofs.Ytajkajgnjcnolaa
open Go.RowKit
set_option linter.unusedVariables false
set_option linter.unnecessarySimpa false
set_option linter.unusedSimpArgs false
theorem grd8 {lo : Nat} {w : World} {v : Value} {zs : List ZsR} {d : DvR} (i off : Int) (hd : Doc lo w v zs) (sn : Sane d zs) (hn : 0 ≤ d.count ∧ d.count ≤ 1000000) (hlo : lo ≤ w.heap.size) :
    Calls Try.prog 30 #[.agg (d7A (dd7 d) v), .int .i64 i, .int .i64 off] w fun e w' => e = .returned (.tuple #[.agg (d7A (dd7 (rdSp d zs i off).d) v), .agg (bA (rdV7 d zs i off)), .int .i64 (rdSp d zs i off).e]) ∧ Below w.heap.size w w' := by
  obtain ⟨l, hr, hm⟩ := hd
  have hl := doc7_len hm
  refine (rd7 (dd7 d) i off hn (by rw [hl]; exact sn.len) (fun p hp => ⟨(doc_z7 sn hm p hp).len, (doc_z7 sn hm p hp).w64⟩) hr hlo).mono ?_
  rintro e w' ⟨rfl, hb⟩
  by_cases h1 : cmdE d zs.length i = 0
  · obtain ⟨k, rfl, hk, hdn⟩ := cmd_in h1
    obtain ⟨z, hz⟩ : ∃ z, zs[k]? = some z := ⟨_, List.getElem?_eq_getElem hk⟩
    obtain ⟨u, hp⟩ := doc_at hm hz
    obtain ⟨hok, hsz⟩ := sane_at sn hz
    have hzz : zat l (k : Int) = rz z := by unfold zat; rw [Int.toNat_natCast, List.getD_eq_getElem?_getD, hp]; rfl
    have hE : rd7E (dd7 d) l (k : Int) off = rdES z off := by
      unfold rd7E
      rw [if_neg (by rw [doc_cmd, hl]; exact fun h => h h1), hzz]
      unfold rd7Z rdES holS
      show (if stS z = 4 then (32 : Int) else if off < 0 ∨ (z.ss.length : Int) ≤ off then 31 else 0) = _
      by_cases e : z.failed = 4
      · rw [if_pos e, if_pos ((rz_four hok).1 e)]
      · rw [if_neg e, if_neg (fun e' => e ((rz_four hok).2 e'))]
        by_cases e2 : off < 0 ∨ (z.ss.length : Int) ≤ off
        · rw [if_pos e2, if_neg (by simp; omega)]
        · rw [if_neg e2, if_pos (by simp; omega)]
    have hR : rdSp d zs (k : Int) off = ⟨0, rdES z off, up1 d, zs⟩ := by unfold rdSp; rw [if_neg (fun h => h h1), zsat_of hz]
    have hV : rdV7 d zs (k : Int) off = rd7V (dd7 d) l (k : Int) off := by
      unfold rdV7 rd7V rdVS
      rw [if_neg (fun h => h h1), zsat_of hz, hE, hzz]
      rfl
    rw [hR, hV, hE]
    exact ⟨by rw [hl, doc_R h1], hb⟩
  · have hR : rdSp d zs i off = ⟨0, cmdE d zs.length i, d, zs⟩ := by unfold rdSp; rw [if_pos h1]
    have hE : rd7E (dd7 d) l i off = cmdE d zs.length i := by unfold rd7E; rw [if_pos (by rw [doc_cmd, hl]; exact h1), doc_cmd, hl]
    have hV : rdV7 d zs i off = rd7V (dd7 d) l i off := by unfold rdV7 rd7V; rw [if_pos h1, hE, if_neg h1]
    rw [hR, hV, hE]
    exact ⟨by rw [hl, doc_N h1], hb⟩
theorem rdSp_zs (d : DvR) (zs : List ZsR) (i off : Int) : (rdSp d zs i off).zs = zs := by unfold rdSp; split <;> rfl
theorem rdV7_64 {d : DvR} {zs : List ZsR} (sn : Sane d zs) (i off : Int) : (rdV7 d zs i off).length = 64 := by
  unfold rdV7
  by_cases h1 : cmdE d zs.length i = 0
  · rw [if_neg (fun h => h h1)]
    obtain ⟨k, rfl, hk2, _⟩ := cmd_in h1
    obtain ⟨z, hz⟩ : ∃ z, zs[k]? = some z := ⟨_, List.getElem?_eq_getElem hk2⟩
    rw [zsat_of hz]
    exact rdVS_64 (sane_at sn hz).1 _
  · rw [if_pos h1]; exact zeros_length 64
theorem Aft8.far {C : Drv} {lo X : Nat} {w w' w0 : World} {S' : St8} {F : Nat → Prop} {c c' q cs : Array Value} {U : TypeId} {g : Nat} (h : Aft8 C lo X w0 F S' c c' q w) (hg : Blk w g U cs) (hl : w0.heap.size + 2 < g) (h1 : docT U = true) (hk : Kept (· = g) w w') : Aft8 C lo X w0 F S' c c' q w' :=
  ⟨h.x.kept hk (by omega), h.y.kept hk (by omega), h.g.kept hk (by omega), h.dr.keptB hg (by omega) h1 hk⟩
set_option maxRecDepth 100000 in
set_option maxHeartbeats 8000000 in
theorem st8_2 {C : Drv} {lo X : Nat} {w wA : World} {S : St8} {F : Nat → Prop} {az ac ah : Option Addr} {nz cz cc ch : Nat} (o : Op8) (ho : Op8Ok wA o) (hbA : Below wA.heap.size wA w) (hloA : wA.heap.size ≤ lo) (hA : C.At lo w X S F) (hf : Fine S) (hD : Dc lo w (.slice az nz cz) (.slice ac S.R.cs.length cc) (.slice ah S.R.h.length ch) S.R) (hlo : lo ≤ w.heap.size) (hk : o.k = 2) :
    Calls Try.prog 10 #[.pointer (some ⟨X, 0, none⟩), .agg (d8A (dd7 S.R.d) (.slice az nz cz) (.slice ac S.R.cs.length cc) (.slice ah S.R.h.length ch)), .agg (op8A o)] w (STo8 C lo w X F (S.rd o.z o.off)) := by
  have HS : Hid (Trio7 30 39 30 w (d8A (dd7 S.R.d) (.slice az nz cz) (.slice ac S.R.cs.length cc) (.slice ah S.R.h.length ch)) (op8A o) d8Z (((w.alloc (Obj.cells (d8A (dd7 S.R.d) (.slice az nz cz) (.slice ac S.R.cs.length cc) (.slice ah S.R.h.length ch)) 30)).alloc (Obj.cells (op8A o) 39)).alloc (Obj.cells #[.slice none 0 0, .int .i64 0, .int .i64 0, .int .i64 0, .bool false, .slice none 0 0, .slice none 0 0] 30))) := Lib.hid Trio7.start
  have HA := Lib.hid (C.below hA HS.out.b)
  have HD := Lib.hid (hD.below HS.out.b)
  have Hsn := Lib.hid (C.sane hA)
  have Hlo := Lib.hid hlo
  have Ho := Lib.hid ho
  have Hf := Lib.hid hf
  have HbA := Lib.hid hbA
  have HloA := Lib.hid hloA
  clear hA hD ho hf hbA hloA hlo
  go_enter Try.func10, Try.ntmps10
  go_upto_region 1 with fail
  generalize (((w.alloc (Obj.cells (d8A (dd7 S.R.d) (.slice az nz cz) (.slice ac S.R.cs.length cc) (.slice ah S.R.h.length ch)) 30)).alloc (Obj.cells (op8A o) 39)).alloc (Obj.cells #[.slice none 0 0, .int .i64 0, .int .i64 0, .int .i64 0, .bool false, .slice none 0 0, .slice none 0 0] 30)) = w0 at *
  have c0 : w0.cell? ⟨w.heap.size + 1, 0, none⟩ = some (.int .i64 2) := (HS.out.y.cell 0).trans ((op8_0 o).trans (by rw [hk]))
  have c1 : w0.cell? ⟨w.heap.size + 1, 1, none⟩ = some (.int .i64 o.z) := (HS.out.y.cell 1).trans (op8_1 o)
  have c2 : w0.cell? ⟨w.heap.size + 1, 2, none⟩ = some (.int .i64 o.off) := (HS.out.y.cell 2).trans (op8_2 o)
  go_wp2_with (first | (refine wpl_load rfl _ rfl (w.heap.size) rfl _ _ _ (HS.out.x) Try.underlying30 rfl Try.info8D ?_; go_frame))
  have hdue : Calls Try.prog 27 #[.agg (d8A (dd7 S.R.d) (.slice az nz cz) (.slice ac S.R.cs.length cc) (.slice ah S.R.h.length ch)), .int .i64 o.z, .bool false] w0 (DuTo lo w0 (S.due o.z false).R) := g8due o.z az nz cz ac cc ah ch false HD.out.zs Hsn.out HD.out.cs HD.out.h (by have := Hf.out.h; have := Hf.out.cs; omega) (by have := HS.out.g.lt; have := Hlo.out; omega)
  refine hdue.mono ?_
  have hfa := due_facts o.z false HD.out.cs.ok Hsn.out
  obtain ⟨T, hTe⟩ : ∃ T, S.due o.z false = T := ⟨_, rfl⟩
  have HTe := Lib.hid hTe
  rw [hTe] at hfa ⊢
  have HsnT := Lib.hid hfa.1
  have HnT : Hid (0 ≤ T.R.d.count ∧ T.R.d.count ≤ 1000000) := Lib.hid ⟨by rw [hfa.2.1]; exact Hf.out.n0, by rw [hfa.2.1]; have := Hf.out.n1; omega⟩
  clear hTe hfa hdue
  rintro e w1 ⟨az1, nz1, cz1, ac1, cc1, ah1, ch1, rfl, hz1, hc1, hh1, hb1⟩
  have HS1 := Lib.hid (HS.out.below hb1)
  have HA1 := Lib.hid (C.below HA.out hb1)
  have HD1 : Hid (Dc lo w1 (.slice az1 nz1 cz1) (.slice ac1 T.R.cs.length cc1) (.slice ah1 T.R.h.length ch1) T.R) := Lib.hid ⟨hz1, hc1, hh1⟩
  clear hz1 hc1 hh1 hb1 HS HA HD Hsn c0 c1 c2
  go_upto_region 3 with (first | (refine wpl_store rfl _ _ rfl (w.heap.size) (d8A (dd7 T.R.d) (.slice az1 nz1 cz1) (.slice ac1 T.R.cs.length cc1) (.slice ah1 T.R.h.length ch1)) rfl rfl _ _ HS1.out.x Try.info8D rfl (d8A_one _ _ _ _ _ _ _ _ _ _) ?_; intro w2 hX2 hK2; have HS2 := Lib.hid (HS1.out.inx hX2 hK2); have HA2 := Lib.hid (C.kept HA1.out hK2 (fun i hi e9 => C.not HA1.out HS1.out.x (by decide) (e9 ▸ hi))); have HD2 := Lib.hid (HD1.out.keptB HS1.out.x (by decide) (by decide) (by decide) hK2); clear hX2 hK2; go_frame))
  clear HS1 HA1 HD1
  have c0 : w2.cell? ⟨w.heap.size + 1, 0, none⟩ = some (.int .i64 2) := (HS2.out.y.cell 0).trans ((op8_0 o).trans (by rw [hk]))
  have c1 : w2.cell? ⟨w.heap.size + 1, 1, none⟩ = some (.int .i64 o.z) := (HS2.out.y.cell 1).trans (op8_1 o)
  have c2 : w2.cell? ⟨w.heap.size + 1, 2, none⟩ = some (.int .i64 o.off) := (HS2.out.y.cell 2).trans (op8_2 o)
  clear hk
  have hz64 := zero_secF
  have hz65 := zero_s64
  go_wp2_with fail
  refine (C.rd o.z o.off HA2.out Hf.out).mono ?_
  obtain ⟨O, hO⟩ : ∃ O, S.rdO o.z o.off = O := ⟨_, rfl⟩
  have HR : Hid ((S.rd o.z o.off).R = ⟨O.d, O.zs, T.R.cs, T.R.h⟩) := Lib.hid (by simp only [St8.ap, St8.rd, St8.rs, St8.fn, St8.fl, St8.put, hO, HTe.out])
  have HO : Hid (rdSp T.R.d T.R.zs o.z o.off = O) := Lib.hid (by rw [← hO, ← HTe.out]; rfl)
  obtain ⟨V, hV⟩ : ∃ V, S.rdV o.z o.off = V := ⟨_, rfl⟩
  have HV : Hid (rdV7 T.R.d T.R.zs o.z o.off = V) := Lib.hid (by rw [← hV, ← HTe.out]; rfl)
  have HV64 : Hid (V.length = 64) := Lib.hid (by rw [← HV.out]; exact rdV7_64 HsnT.out _ _)
  have Hzs : Hid (O.zs = T.R.zs) := Lib.hid (by rw [← HO.out]; exact rdSp_zs _ _ _ _)
  rw [hO, hV]
  clear hO hV
  rintro e w3 ⟨rfl, hT⟩
  have hT' : DrTo C lo w2 X F (S.rd o.z o.off) w3 := hT
  have HN := Lib.hid (HS2.out.cmd8 HA2.out hT')
  have HD3 := Lib.hid (HD2.out.cmd HA2.out hT')
  clear hT hT' c0 c1 c2 HS2 HA2 HD2
  go_upto_region 12 with (first | (refine wpl_store_new rfl _ _ rfl (bA V) w3 34 (bA (zeros 64)) rfl rfl rfl (info_sec HV64.out) (by rw [bA_size, bA_size, zeros_length, HV64.out]) (bA_one _) ?_; go_frame))
  have hbs := below_alloc w3 (Obj.cells (bA V) 34)
  have HN4 := Lib.hid (HN.out.below hbs)
  have HD4 := Lib.hid (HD3.out.below hbs)
  have HYs4 := Lib.hid (Blk.new w3 34 (bA V))
  have HYsl : Hid (w.heap.size + 2 < w3.heap.size) := Lib.hid HN.out.g.lt
  clear hbs HN HD3 hz64
  generalize w3.alloc (Obj.cells (bA V) 34) = w4 at *
  generalize w3.heap.size = Ys at *
  go_upto_region 13 with fail
  have hb45 := below_alloc w4 (Obj.cells (bA (zeros 64)) 33)
  have HN5 := Lib.hid (HN4.out.below hb45)
  have HYs5 := Lib.hid (HYs4.out.below hb45 HYs4.out.lt)
  have HYd5 := Lib.hid (Blk.new w4 33 (bA (zeros 64)))
  have HYdl : Hid (w.heap.size + 2 < w4.heap.size ∧ Ys < w4.heap.size) := Lib.hid ⟨HN4.out.g.lt, HYs4.out.lt⟩
  have Hb45 := Lib.hid hb45
  have Hx4 : Hid (Blk w4 w.heap.size 30 (d8A (dd7 T.R.d) (.slice az1 nz1 cz1) (.slice ac1 T.R.cs.length cc1) (.slice ah1 T.R.h.length ch1))) := Lib.hid HN4.out.x
  clear hb45 HN4 HYs4 hz65
  generalize w4.alloc (Obj.cells (bA (zeros 64)) 33) = w5 at *
  obtain ⟨Yd, hYd⟩ : ∃ Yd, w4.heap.size = Yd := ⟨_, rfl⟩
  rw [hYd] at HYd5 HYdl ⊢
  have HYd := Lib.hid hYd
  clear hYd
  have c1 : w5.cell? ⟨w.heap.size + 1, 1, none⟩ = some (.int .i64 o.z) := (HN5.out.y.cell 1).trans (op8_1 o)
  have c2 : w5.cell? ⟨w.heap.size + 1, 2, none⟩ = some (.int .i64 o.off) := (HN5.out.y.cell 2).trans (op8_2 o)
  have hl5 : lo ≤ w5.heap.size := by have := HN5.out.g.lt; have := Hlo.out; omega
  go_wp2_with (first | (refine wpl_load_at (by rfl) 27 _ rfl (w.heap.size) 0 rfl (d7A (dd7 T.R.d) (.slice az1 nz1 cz1)) _ (d8_dev HN5.out.x) Try.underlying27 rfl Try.info7D ?_; go_frame))
  refine (grd8 o.z o.off (HD4.out.zs.below Hb45.out) HsnT.out HnT.out hl5).mono ?_
  rw [HO.out, HV.out]
  rintro e w6 ⟨rfl, hb⟩
  have HN6 := Lib.hid (HN5.out.below hb)
  have HYs6 := Lib.hid (HYs5.out.below hb HYs5.out.lt)
  have HYd6 := Lib.hid (HYd5.out.below hb HYd5.out.lt)
  have Hk46 : Hid (Kept (· = w.heap.size) w4 w6) := Lib.hid (kept_next (Kept.of_below Hb45.out) hb)
  clear hb hl5 c1 c2 HN5 HYs5 HYd5
  go_upto_region 14 with (first | (refine wpl_store_at rfl 27 _ _ rfl (w.heap.size) 0 (d7A (dd7 O.d) (.slice az1 nz1 cz1)) rfl rfl 30 (d8L (dd7 T.R.d) (.slice az1 nz1 cz1) (.slice ac1 T.R.cs.length cc1) (.slice ah1 T.R.h.length ch1)) HN6.out.x (show 0 + 5 ≤ 7 by decide) Try.info7D (d7A_one _ _ _ _) ?_; intro w7 hBx hkx; have HN7 := Lib.hid (HN6.out.inx (x := (d8A (dd7 O.d) (.slice az1 nz1 cz1) (.slice ac1 T.R.cs.length cc1) (.slice ah1 T.R.h.length ch1))) hBx hkx); have HYs7 := Lib.hid (HYs6.out.kept hkx (by have := HYsl.out; omega)); have HYd7 := Lib.hid (HYd6.out.kept hkx (by have := HYdl.out; omega)); have Hk47 := Lib.hid (Hk46.out.trans (hkx.mono (fun _ _ h => h))); clear hBx hkx; go_frame) | (refine wpl_store rfl _ _ rfl Yd (bA V) rfl rfl _ _ HYd7.out (info_64 HV64.out) (by rw [bA_size, bA_size, zeros_length, HV64.out]) (bA_one _) ?_; intro w8 hBd hkd; have HN8 := Lib.hid (HN7.out.far HYd7.out HYdl.out.1 (by decide) hkd); have HYs8 := Lib.hid (HYs7.out.kept hkd (by have := HYdl.out; omega)); have HYd8 := Lib.hid hBd; have Hk48 : Hid (Kept (· = w.heap.size) w4 w8) := Lib.hid (Hk47.out.andThen hkd (fun _ _ h => h) (fun i hi e9 => by have := HYd.out; omega)); clear hBd hkd; go_frame))
  have HD8 : Hid (Dc lo w8 (.slice az1 nz1 cz1) (.slice ac1 T.R.cs.length cc1) (.slice ah1 T.R.h.length ch1) ⟨O.d, O.zs, T.R.cs, T.R.h⟩) := Lib.hid (by
    have h := HD4.out.keptB Hx4.out (by decide) (by decide) (by decide) Hk48.out
    exact ⟨by show Doc lo w8 _ O.zs; rw [Hzs.out]; exact h.zs, h.cs, h.h⟩)
  clear HN6 HYs6 HYd6 HN7 HYs7 HYd7 Hk46 Hk47 Hk48 HD4 Hx4 Hb45
  refine wp_region_held (S := fun w' => Blk w' (w.heap.size) 30 (d8A (dd7 O.d) (.slice az1 nz1 cz1) (.slice ac1 T.R.cs.length cc1) (.slice ah1 T.R.h.length ch1)) ∧ Blk w' Ys 34 (bA V) ∧ Blk w' Yd 33 (bA V)) (by kernel_rfl) ?_
  change wpAnyH _ _ _ _ _ _ _ _ (World.drew _)
  have hS : Blk w8.drew (w.heap.size) 30 (d8A (dd7 O.d) (.slice az1 nz1 cz1) (.slice ac1 T.R.cs.length cc1) (.slice ah1 T.R.h.length ch1)) ∧ Blk w8.drew Ys 34 (bA V) ∧ Blk w8.drew Yd 33 (bA V) := ⟨HN8.out.x, HYs8.out, HYd8.out⟩
  refine takeH hS (i := 0) (d := 87) (v := .agg (d8A (dd7 O.d) (.slice az1 nz1 cz1) (.slice ac1 T.R.cs.length cc1) (.slice ah1 T.R.h.length ch1))) rfl rfl (by kernel_rfl) (by kernel_rfl) (by kernel_rfl) (fun _ _ _ h => h) (Or.inl ⟨by kernel_rfl, fun w' hw' => by exact exec_load _ rfl (w.heap.size) rfl hw'.1 Try.underlying30 rfl Try.info8D⟩) ?_
  refine takeH hS (i := 1) (d := 88) (v := .agg (bA V)) rfl rfl (by kernel_rfl) (by kernel_rfl) (by kernel_rfl) (fun _ _ _ h => h) (Or.inl ⟨by kernel_rfl, fun w' hw' => by exact exec_load _ rfl Ys rfl hw'.2.1 Try.underlying34 rfl (info_sec HV64.out)⟩) ?_
  refine takeH hS (i := 2) (d := 89) (v := .agg (bA V)) rfl rfl (by kernel_rfl) (by kernel_rfl) (by kernel_rfl) (fun _ _ _ h => h) (Or.inl ⟨by kernel_rfl, fun w' hw' => by exact exec_load _ rfl Yd rfl hw'.2.2 Try.underlying33 rfl (info_64 HV64.out)⟩) ?_
  refine takeH hS (i := 3) (d := 90) (v := .bool true) rfl rfl (by kernel_rfl) (by kernel_rfl) (by kernel_rfl) (fun _ _ _ h => h) (Or.inl ⟨by kernel_rfl, fun w' hw' => by exact exec_eqlS ty64 _ _ _ rfl V V rfl rfl HV64.out HV64.out true (decide_eq_true rfl)⟩) ?_
  try go_frame
  refine takeH hS (i := 4) (d := 91) (v := .bool true) rfl rfl (by kernel_rfl) (by kernel_rfl) (by kernel_rfl) (fun _ _ _ h => h) (Or.inl ⟨by kernel_rfl, fun w' hw' => by kernel_rfl⟩) ?_
  refine takeH hS (i := 5) (d := 92) (v := .int .i64 O.e) rfl rfl (by kernel_rfl) (by kernel_rfl) (by kernel_rfl) (fun _ _ _ h => h) (Or.inl ⟨by kernel_rfl, fun w' hw' => by kernel_rfl⟩) ?_
  refine takeH hS (i := 6) (d := 93) (v := .int .i64 O.e) rfl rfl (by kernel_rfl) (by kernel_rfl) (by kernel_rfl) (fun _ _ _ h => h) (Or.inl ⟨by kernel_rfl, fun w' hw' => by kernel_rfl⟩) ?_
  refine takeH hS (i := 7) (d := 94) (v := .bool true) rfl rfl (by kernel_rfl) (by kernel_rfl) (by kernel_rfl) (fun _ _ _ h => h) (Or.inl ⟨by kernel_rfl, fun w' hw' => by exact exec_eql _ _ rfl O.e O.e rfl rfl true (decide_eq_true rfl) rfl⟩) ?_
  try go_frame
  refine takeH hS (i := 8) (d := 95) (v := .bool true) rfl rfl (by kernel_rfl) (by kernel_rfl) (by kernel_rfl) (fun _ _ _ h => h) (Or.inl ⟨by kernel_rfl, fun w' hw' => by kernel_rfl⟩) ?_
  try go_frame
  have hbd : Below w8.heap.size w8 w8.drew := (Below.refl _ w8).drew
  have HN9 := Lib.hid (HN8.out.below hbd)
  have HD9 := Lib.hid (HD8.out.below hbd)
  clear hbd HN8 HD8
  refine nextH (i := 9) rfl (by kernel_rfl) (by kernel_rfl) (fun K' hK => ?_)
  refine wpo_store _ _ rfl (w.heap.size + 2) (d8A (dd7 O.d) (.slice az1 nz1 cz1) (.slice ac1 T.R.cs.length cc1) (.slice ah1 T.R.h.length ch1)) rfl rfl _ _ HN9.out.g (Try.info8D) rfl (d8A_one _ _ _ _ _ _ _ _ _ _) ?_
  intro w9 hSg hKg
  have HF := Lib.hid (HN9.out.out hSg hKg)
  have HDF := Lib.hid (HD9.out.keptB HN9.out.g (by decide) (by decide) (by decide) hKg)
  have hS2 : Blk w9 (w.heap.size) 30 (d8A (dd7 O.d) (.slice az1 nz1 cz1) (.slice ac1 T.R.cs.length cc1) (.slice ah1 T.R.h.length ch1)) ∧ Blk w9 Ys 34 (bA V) ∧ Blk w9 Yd 33 (bA V) := ⟨hS.1.kept hKg (by omega), hS.2.1.kept hKg (by have := HYsl.out; omega), hS.2.2.kept hKg (by have := HYdl.out; omega)⟩
  refine hK.out _ _ ⟨hS2, ?_⟩
  clear hK K' hSg hKg hS
  try go_frame
  refine takeH hS2 (i := 10) (d := 7) (v := .bool true) rfl rfl (by kernel_rfl) (by kernel_rfl) (by kernel_rfl) (fun _ _ _ h => h) (Or.inl ⟨by kernel_rfl, fun w' hw' => by kernel_rfl⟩) ?_
  try go_frame
  refine wpAnyH_done (by kernel_rfl) ?_ _
  go_wp2_with fail
  exact bodyPost_ret (v := .tuple #[.agg (d8A (dd7 O.d) (.slice az1 nz1 cz1) (.slice ac1 T.R.cs.length cc1) (.slice ah1 T.R.h.length ch1)), .bool true]) (results_cell_slot Try.results10 _ _ (w.heap.size + 2) 30 _ _ _ rfl rfl HF.out.g Try.underlying30 rfl Try.info8D) rfl (by unfold STo8; rw [HR.out]; exact ⟨_, _, _, _, _, _, _, rfl, HDF.out, HF.out.dr⟩)
end Go.Proofs.Ytajkajgnjcnolaa

namespace Go.Proofs.Ytajkajgnjcnolaa
open Go.RowKit
set_option linter.unusedVariables false
section
variable {P : Program} {md : Region.Mode} {ops : Array Oper} {Q : Exit → Act → World → Prop} {S : World → Prop} {L : Nat}
def wpAnyM (P : Program) (md : Region.Mode) (ops : Array Oper) (Q : Exit → Act → World → Prop) (S : World → Prop) (L : Nat) : Nat → Array Bool → Act → World → Prop
  | 0, listed, a, w => Region.ready md ops listed = [] ∧ Q .normal a w
  | fuel + 1, listed, a, w =>
    (Region.ready md ops listed = [] → Q .normal a w) ∧
    ∀ i ∈ Region.ready md ops listed, wpOp P ops Q i (fun a' w' => ((i ≠ L ∧ listed.getD L false = false) → S w') ∧ wpAnyM P md ops Q S L fuel (listed.setIfInBounds i true) a' w') a w
theorem wpAny_of_M : ∀ (fuel : Nat) (listed : Array Bool) (a : Act) (w : World), wpAnyM P md ops Q S L fuel listed a w → wpAny P md ops Q fuel listed a w
  | 0, _, _, _, h => h
  | fuel + 1, _, _, _, h => ⟨h.1, fun i hi => wpOp_mono (fun a' w' h' => wpAny_of_M fuel _ a' w' h'.2) (h.2 i hi)⟩
theorem wpAnyM_first {i : Nat} {oi : Oper} {v : Value} {cs : List Nat} (hi : ops[i]? = some oi) (hsel : ∀ (j : Nat) (o : Oper) ks b, ops[j]? = some o → o.op ≠ .select ks b)
    (hQ : ∀ c a w, Q (.panic c) (a.put oi.dst v) w → Q (.panic c) a w) (hL : L ∈ cs) (hLi : i ≠ L) (hch : waits md ops i cs = true) (hii : i ∉ cs) :
    ∀ (fuel : Nat) (listed : Array Bool) (a : Act) (w : World), (∀ c ∈ i :: cs, listed.getD c false = false) →
      (∀ j oj, ops[j]? = some oj → j ≠ i → listed.getD j true = false → (∀ e ∈ oj.after, Region.binds md e = true → e.on ≠ i) → oi.apart ops oj = true) →
      i ∈ Region.ready md ops listed → YieldsIf P ops S oi v a → S w →
      wpAnyM P md ops Q S L fuel (listed.setIfInBounds i true) (a.put oi.dst v) w → wpAnyM P md ops Q S L (fuel + 1) listed a w := by
  intro fuel
  induction fuel with
  | zero =>
    intro listed a w _ _ hr hy hS H
    refine ⟨fun h => absurd hr (by rw [h]; simp), fun j hj => ?_⟩
    by_cases e : j = i
    · subst e
      exact hy.wpOp hi hS ⟨fun _ => hS, H⟩
    · have := ready_mono hj e
      rw [H.1] at this
      cases this
  | succ fuel ih =>
    intro listed a w hu hfree hr hy hS H
    refine ⟨fun h => absurd hr (by rw [h]; simp), fun j hj => ?_⟩
    by_cases e : j = i
    · subst e
      exact hy.wpOp hi hS ⟨fun _ => hS, H⟩
    · have hjc : j ∉ cs := waits_not hch hu hj
      have hjL : j ≠ L := fun h => hjc (h ▸ hL)
      obtain ⟨hjun, oj, hoj, hall⟩ := mem_ready.1 hj
      have hno : ∀ d ∈ oj.after, Region.binds md d = true → d.on ≠ i := fun d hd hb heq => by
        have h1 := hall d hd hb
        rw [heq, hu i (by simp)] at h1
        cases h1
      have h2 := wpOp_putIf hoj (hfree j oj hoj e hjun hno) (fun ks b => hsel i oi ks b hi) (fun ks b => hsel j oj ks b hoj) hQ hy (H.2 j (ready_mono hj e))
      have hLi2 : (listed.setIfInBounds i true).getD L false = listed.getD L false := getD_set_ne false hLi
      refine wpOp_mono (fun a' w' h3 => ⟨fun hc => h3.2.1 ⟨hc.1, by rw [hLi2]; exact hc.2⟩, ih (listed.setIfInBounds j true) a' w' (fun c hc => ?_) (fun k ok hk hki hun hn => ?_) (ready_mono hr (Ne.symm e)) h3.1 (h3.2.1 ⟨hjL, by rw [hLi2]; exact hu L (List.mem_cons_of_mem _ hL)⟩) ?_⟩) h2
      · have hcj : j ≠ c := fun h => by
          subst h
          rcases List.mem_cons.1 hc with h | h
          · exact e h
          · exact hjc h
        rw [getD_set_ne false hcj]
        exact hu c hc
      · refine hfree k ok hk hki ?_ hn
        by_cases hjk : j = k
        · subst hjk; exact hjun
        · rw [getD_set_ne true hjk] at hun; exact hun
      · rw [Array.setIfInBounds_comm _ _ e]
        exact h3.2.2
theorem takeM {i d : Nat} {oi : Oper} {v : Value} {fuel : Nat} {listed : Array Bool} {a : Act} {w : World} (cs : List Nat) (hS : S w) (hi : ops[i]? = some oi) (hd : oi.dst = some d)
    (hs : Region.noSelect ops = true) (hf : Region.free md ops listed i = true) (hr : (Region.ready md ops listed).contains i = true)
    (hc : (cs.contains L && (i != L) && waits md ops i cs && !(cs.contains i) && ((i :: cs).all fun c => !(listed.getD c false))) = true)
    (hQ : ∀ c a w, Q (.panic c) (a.put oi.dst v) w → Q (.panic c) a w) (hy : YieldsIf P ops S oi v a)
    (h : wpAnyM P md ops Q S L fuel (listed.setIfInBounds i true) (a.put (some d) v) w) : wpAnyM P md ops Q S L (fuel + 1) listed a w := by
  simp only [Bool.and_eq_true, List.contains_iff_mem, bne_iff_ne, Bool.not_eq_true', List.all_eq_true] at hc
  obtain ⟨⟨⟨⟨h1, h2⟩, h3⟩, h4⟩, h5⟩ := hc
  refine wpAnyM_first hi (Region.noSelect_spec hs) hQ h1 h2 h3 (fun h => ?_) fuel listed a w h5 (Region.free_spec hi hf) (by simpa using hr) hy hS (by rw [hd]; exact h)
  rw [List.contains_iff_mem.2 h] at h4
  cases h4
theorem takeP {i d : Nat} {oi : Oper} {v : Value} {fuel : Nat} {listed : Array Bool} {a : Act} {w : World} (hi : ops[i]? = some oi) (hd : oi.dst = some d)
    (hs : Region.noSelect ops = true) (hf : Region.free md ops listed i = true) (hr : (Region.ready md ops listed).contains i = true) (hiL : i ≠ L) (hSp : listed.getD L false = true ∨ S w)
    (hQ : ∀ c a w, Q (.panic c) (a.put oi.dst v) w → Q (.panic c) a w) (hy : YieldsIf P ops (fun _ => True) oi v a)
    (h : wpAnyM P md ops Q S L fuel (listed.setIfInBounds i true) (a.put (some d) v) w) : wpAnyM P md ops Q S L (fuel + 1) listed a w := by
  have hsel := Region.noSelect_spec hs
  have key : ∀ (fuel : Nat) (listed : Array Bool) (a : Act) (w : World),
      (∀ j oj, ops[j]? = some oj → j ≠ i → listed.getD j true = false → (∀ e ∈ oj.after, Region.binds md e = true → e.on ≠ i) → oi.apart ops oj = true) →
      listed.getD i false = false → i ∈ Region.ready md ops listed → YieldsIf P ops (fun _ => True) oi v a → (listed.getD L false = false → S w) →
      wpAnyM P md ops Q S L fuel (listed.setIfInBounds i true) (a.put oi.dst v) w → wpAnyM P md ops Q S L (fuel + 1) listed a w := by
    intro fuel
    induction fuel with
    | zero =>
      intro listed a w _ _ hr hy hSp H
      refine ⟨fun h => absurd hr (by rw [h]; simp), fun j hj => ?_⟩
      by_cases e : j = i
      · subst e
        exact hy.wpOp hi trivial ⟨fun hc => hSp hc.2, H⟩
      · have := ready_mono hj e
        rw [H.1] at this
        cases this
    | succ fuel ih =>
      intro listed a w hfree hli hr hy hSp H
      refine ⟨fun h => absurd hr (by rw [h]; simp), fun j hj => ?_⟩
      by_cases e : j = i
      · subst e
        exact hy.wpOp hi trivial ⟨fun hc => hSp hc.2, H⟩
      · obtain ⟨hjun, oj, hoj, hall⟩ := mem_ready.1 hj
        have hno : ∀ d ∈ oj.after, Region.binds md d = true → d.on ≠ i := fun d hd hb heq => by
          have h1 := hall d hd hb
          rw [heq, hli] at h1
          cases h1
        have h2 := wpOp_putIf hoj (hfree j oj hoj e hjun hno) (fun ks b => hsel i oi ks b hi) (fun ks b => hsel j oj ks b hoj) hQ hy (H.2 j (ready_mono hj e))
        have hLi : (listed.setIfInBounds i true).getD L false = listed.getD L false := getD_set_ne false hiL
        refine wpOp_mono (fun a' w' h3 => ⟨fun hc => h3.2.1 ⟨hc.1, by rw [hLi]; exact hc.2⟩, ih (listed.setIfInBounds j true) a' w' (fun k ok hk hki hun hn => ?_) ?_ (ready_mono hr (Ne.symm e)) h3.1 (fun hl => ?_) ?_⟩) h2
        · refine hfree k ok hk hki ?_ hn
          by_cases hjk : j = k
          · subst hjk; exact hjun
          · rw [getD_set_ne true hjk] at hun; exact hun
        · rw [getD_set_ne false e]; exact hli
        · by_cases hjL : j = L
          · subst hjL
            have hlj : j < listed.size := by
              rcases Nat.lt_or_ge j listed.size with h9 | h9
              · exact h9
              · rw [Array.getD_eq_getD_getElem?, Array.getElem?_eq_none h9] at hjun; cases hjun
            rw [Array.getD_eq_getD_getElem?, Array.getElem?_setIfInBounds_self_of_lt hlj] at hl
            cases hl
          · rw [getD_set_ne false hjL] at hl
            exact h3.2.1 ⟨hjL, by rw [hLi]; exact hl⟩
        · rw [Array.setIfInBounds_comm _ _ e]
          exact h3.2.2
  have hr' : i ∈ Region.ready md ops listed := by simpa using hr
  have hli : listed.getD i false = false := by
    obtain ⟨h1, _⟩ := mem_ready.1 hr'
    rw [Array.getD_eq_getD_getElem?] at h1 ⊢
    rcases h2 : listed[i]? with _ | b
    · rfl
    · rw [h2] at h1; exact h1
  exact key fuel listed a w (Region.free_spec hi hf) hli hr' hy (fun h9 => by
    rcases hSp with h | h
    · rw [h] at h9; cases h9
    · exact h) (by rw [hd]; exact h)
theorem nextM {i : Nat} {o : Oper} {fuel : Nat} {listed : Array Bool} {a : Act} {w : World} (ho : ops[i]? = some o)
    (hr : Region.ready md ops listed = [i]) (hw : Region.wanted o (yielded ops a.tmps) = true)
    (h : ∀ K' : Act → World → Prop, Shut (∀ a w, ((i ≠ L ∧ listed.getD L false = false) → S w) ∧ wpAnyM P md ops Q S L fuel (listed.setIfInBounds i true) a w → K' a w) → Oper.wp P o a w K' Q) : wpAnyM P md ops Q S L (fuel + 1) listed a w :=
  ⟨fun h0 => absurd (hr ▸ h0) (by simp), fun j hj => by
    obtain rfl : j = i := by rw [hr] at hj; simpa using hj
    exact wpOp_of ho hw h⟩
theorem wpAnyM_done {listed : Array Bool} {a : Act} {w : World} (hr : Region.ready md ops listed = []) (h : Q .normal a w) : ∀ fuel, wpAnyM P md ops Q S L fuel listed a w
  | 0 => ⟨hr, h⟩
  | _ + 1 => ⟨fun _ => h, by rw [hr]; simp⟩
theorem wp_regionM {id : Nat} {a : Act} {w : World} (L : Nat) (hm : P.follows .mixedOrders = true) (h : wpAnyM P .any ops Q S L ops.size (Array.replicate ops.size false) a w.drew) : (Code.region id ops true).wp P Q a w :=
  wp_region_any hm (wpAny_of_M _ _ _ _ h)
end
end Go.Proofs.Ytajkajgnjcnolaa

namespace Go.Proofs.Ytajkajgnjcnolaa
open Go.RowKit
set_option linter.unusedVariables false
set_option linter.unnecessarySimpa false
set_option linter.unusedSimpArgs false
set_option maxRecDepth 100000 in
set_option maxHeartbeats 8000000 in
theorem st8_7 {C : Drv} {lo X : Nat} {w wA : World} {S : St8} {F : Nat → Prop} {az ac ah : Option Addr} {nz cz cc ch : Nat} (o : Op8) (ho : Op8Ok wA o) (hbA : Below wA.heap.size wA w) (hloA : wA.heap.size ≤ lo) (hA : C.At lo w X S F) (hf : Fine S) (hD : Dc lo w (.slice az nz cz) (.slice ac S.R.cs.length cc) (.slice ah S.R.h.length ch) S.R) (hlo : lo ≤ w.heap.size) (hk : o.k = 7) :
    Calls Try.prog 10 #[.pointer (some ⟨X, 0, none⟩), .agg (d8A (dd7 S.R.d) (.slice az nz cz) (.slice ac S.R.cs.length cc) (.slice ah S.R.h.length ch)), .agg (op8A o)] w (STo8 C lo w X F (S.pl o.e)) := by
  have HS : Hid (Trio7 30 39 30 w (d8A (dd7 S.R.d) (.slice az nz cz) (.slice ac S.R.cs.length cc) (.slice ah S.R.h.length ch)) (op8A o) d8Z (((w.alloc (Obj.cells (d8A (dd7 S.R.d) (.slice az nz cz) (.slice ac S.R.cs.length cc) (.slice ah S.R.h.length ch)) 30)).alloc (Obj.cells (op8A o) 39)).alloc (Obj.cells #[.slice none 0 0, .int .i64 0, .int .i64 0, .int .i64 0, .bool false, .slice none 0 0, .slice none 0 0] 30))) := Lib.hid Trio7.start
  have HA := Lib.hid (C.below hA HS.out.b)
  have HD := Lib.hid (hD.below HS.out.b)
  have Hsn := Lib.hid (C.sane hA)
  have Hlo := Lib.hid hlo
  have Ho := Lib.hid ho
  have Hf := Lib.hid hf
  have HbA := Lib.hid hbA
  have HloA := Lib.hid hloA
  clear hA hD ho hf hbA hloA hlo
  go_enter Try.func10, Try.ntmps10
  go_upto_region 1 with fail
  generalize (((w.alloc (Obj.cells (d8A (dd7 S.R.d) (.slice az nz cz) (.slice ac S.R.cs.length cc) (.slice ah S.R.h.length ch)) 30)).alloc (Obj.cells (op8A o) 39)).alloc (Obj.cells #[.slice none 0 0, .int .i64 0, .int .i64 0, .int .i64 0, .bool false, .slice none 0 0, .slice none 0 0] 30)) = w0 at *
  have c0 : w0.cell? ⟨w.heap.size + 1, 0, none⟩ = some (.int .i64 7) := (HS.out.y.cell 0).trans ((op8_0 o).trans (by rw [hk]))
  have c1 : w0.cell? ⟨w.heap.size + 1, 1, none⟩ = some (.int .i64 o.z) := (HS.out.y.cell 1).trans (op8_1 o)
  have c2 : w0.cell? ⟨w.heap.size + 1, 2, none⟩ = some (.int .i64 o.off) := (HS.out.y.cell 2).trans (op8_2 o)
  clear hk
  have HR : Hid ((S.pl o.e).R = ⟨S.R.d, S.R.zs, (plL o.e S.R.cs), S.R.h⟩) := Lib.hid rfl
  go_upto_region 28 with fail
  clear c0 c1 c2
  refine wp_regionM (S := fun w' => Blk w' (w.heap.size) 30 (d8A (dd7 S.R.d) (.slice az nz cz) (.slice ac S.R.cs.length cc) (.slice ah S.R.h.length ch)) ∧ Blk w' (w.heap.size + 1) 39 (op8A o)) 8 (by kernel_rfl) ?_
  have hS : Blk w0.drew (w.heap.size) 30 (d8A (dd7 S.R.d) (.slice az nz cz) (.slice ac S.R.cs.length cc) (.slice ah S.R.h.length ch)) ∧ Blk w0.drew (w.heap.size + 1) 39 (op8A o) := ⟨HS.out.x, HS.out.y⟩
  refine takeM [4, 5, 6, 8] hS (i := 0) (d := 161) (v := .agg (d8A (dd7 S.R.d) (.slice az nz cz) (.slice ac S.R.cs.length cc) (.slice ah S.R.h.length ch))) rfl rfl (by kernel_rfl) (by kernel_rfl) (by kernel_rfl) (by kernel_rfl) (fun _ _ _ h => h) (Or.inl ⟨by kernel_rfl, fun w' hw' => by exact exec_load _ rfl (w.heap.size) rfl hw'.1 Try.underlying30 rfl Try.info8D⟩) ?_
  refine takeM [2, 3, 4, 5, 6, 8] hS (i := 1) (d := 162) (v := .pointer (some ⟨w.heap.size + 1, 68, none⟩)) rfl rfl (by kernel_rfl) (by kernel_rfl) (by kernel_rfl) (by kernel_rfl) (fun _ _ _ h => h) (Or.inl ⟨by kernel_rfl, fun w' hw' => by kernel_rfl⟩) ?_
  refine takeM [3, 4, 5, 6, 8] hS (i := 2) (d := 163) (v := .agg (evA o.e)) rfl rfl (by kernel_rfl) (by kernel_rfl) (by kernel_rfl) (by kernel_rfl) (fun _ _ _ h => h) (Or.inl ⟨by kernel_rfl, fun w' hw' => by exact exec_load_v _ _ rfl (w.heap.size + 1) 68 rfl (evA o.e) _ (op8_ev hw'.2 Ho.out.len) Try.underlying37 rfl (info_evA Ho.out.ev.len)⟩) ?_
  try go_frame
  have hbd : Below w0.heap.size w0 w0.drew := (Below.refl _ _).drew
  have HA2 := Lib.hid (C.below HA.out hbd)
  have HS2 := Lib.hid (HS.out.below hbd)
  have HD2 := Lib.hid (HD.out.below hbd)
  clear hbd HA HS HD
  refine nextM (i := 3) rfl (by kernel_rfl) (by kernel_rfl) (fun K' hK => ?_)
  go_wp2_with fail
  refine (of8 o.e _ Ho.out.ev.len).mono ?_
  rintro en w3 ⟨rfl, hb⟩
  have HA3 := Lib.hid (C.below HA2.out hb)
  have HS3 := Lib.hid (HS2.out.below hb)
  have HD3 := Lib.hid (HD2.out.below hb)
  have hS3 : Blk w3 (w.heap.size) 30 (d8A (dd7 S.R.d) (.slice az nz cz) (.slice ac S.R.cs.length cc) (.slice ah S.R.h.length ch)) ∧ Blk w3 (w.heap.size + 1) 39 (op8A o) := ⟨HS3.out.x, HS3.out.y⟩
  refine hK.out _ _ ⟨fun _ => hS3, ?_⟩
  clear hK K' hb hS HA2 HS2 HD2
  try go_frame
  refine nextM (i := 4) rfl (by kernel_rfl) (by kernel_rfl) (fun K' hK => ?_)
  go_wp2_with fail
  refine (g8plan (lo := lo) (dd7 S.R.d) az nz cz ac cc ah S.R.h.length ch HD3.out.cs Ho.out.ev (by have := HS3.out.g.lt; have := Hlo.out; omega)).mono ?_
  rintro en w4 ⟨vc', rfl, hc', hb⟩
  obtain ⟨a8, c8, rfl, -, -⟩ := hc'.slice
  have HA4 := Lib.hid (C.below HA3.out hb)
  have HS4 := Lib.hid (HS3.out.below hb)
  have HD4 : Hid (Dc lo w4 (.slice az nz cz) (.slice a8 (plL o.e S.R.cs).length c8) (.slice ah S.R.h.length ch) ⟨S.R.d, S.R.zs, (plL o.e S.R.cs), S.R.h⟩) := Lib.hid ⟨HD3.out.zs.below hb, hc', HD3.out.h.below hb⟩
  have hS4 : Blk w4 (w.heap.size) 30 (d8A (dd7 S.R.d) (.slice az nz cz) (.slice ac S.R.cs.length cc) (.slice ah S.R.h.length ch)) ∧ Blk w4 (w.heap.size + 1) 39 (op8A o) := ⟨HS4.out.x, HS4.out.y⟩
  refine hK.out _ _ ⟨fun _ => hS4, ?_⟩
  clear hK K' hb hc' hS3 HA3 HS3 HD3
  try go_frame
  refine takeM [6, 8] hS4 (i := 5) (d := 160) (v := .tuple #[.agg (d8A (dd7 S.R.d) (.slice az nz cz) (.slice a8 (plL o.e S.R.cs).length c8) (.slice ah S.R.h.length ch)), .int .i64 (plE o.e S.R.cs)]) rfl rfl (by kernel_rfl) (by kernel_rfl) (by kernel_rfl) (by kernel_rfl) (fun _ _ _ h => h) (Or.inl ⟨by kernel_rfl, fun w' hw' => by kernel_rfl⟩) ?_
  refine takeM [8] hS4 (i := 6) (d := 166) (v := .agg (d8A (dd7 S.R.d) (.slice az nz cz) (.slice a8 (plL o.e S.R.cs).length c8) (.slice ah S.R.h.length ch))) rfl rfl (by kernel_rfl) (by kernel_rfl) (by kernel_rfl) (by kernel_rfl) (fun _ _ _ h => h) (Or.inl ⟨by kernel_rfl, fun w' hw' => by kernel_rfl⟩) ?_
  refine takeP (i := 7) (d := 167) (v := .int .i64 (plE o.e S.R.cs)) rfl rfl (by kernel_rfl) (by kernel_rfl) (by kernel_rfl) (by decide) (.inr hS4) (fun _ _ _ h => h) (Or.inl ⟨by kernel_rfl, fun w' _ => by kernel_rfl⟩) ?_
  try go_frame
  refine nextM (i := 8) rfl (by kernel_rfl) (by kernel_rfl) (fun K' hK => ?_)
  refine wpo_store _ _ rfl (w.heap.size) (d8A (dd7 S.R.d) (.slice az nz cz) (.slice a8 (plL o.e S.R.cs).length c8) (.slice ah S.R.h.length ch)) rfl rfl _ _ HS4.out.x (Try.info8D) rfl (d8A_one _ _ _ _ _ _ _ _ _ _) ?_
  intro w7 hX7 hK7
  have HS7 := Lib.hid (HS4.out.inx hX7 hK7)
  have HA7 := Lib.hid (C.kept HA4.out hK7 (fun i hi e9 => C.not HA4.out HS4.out.x (by decide) (e9 ▸ hi)))
  have HD7 := Lib.hid (HD4.out.keptB HS4.out.x (by decide) (by decide) (by decide) hK7)
  refine hK.out _ _ ⟨fun h9 => absurd rfl h9.1, ?_⟩
  clear hK K' hX7 hK7 hS4 HS4 HA4 HD4
  try go_frame
  refine takeP (i := 9) (d := 8) (v := .int .i64 (plE o.e S.R.cs)) rfl rfl (by kernel_rfl) (by kernel_rfl) (by kernel_rfl) (by decide) (.inl (by kernel_rfl)) (fun _ _ _ h => h) (Or.inl ⟨by kernel_rfl, fun w' _ => by kernel_rfl⟩) ?_
  try go_frame
  refine wpAnyM_done (by kernel_rfl) ?_ _
  go_upto_region 29 with fail
  refine wp_region_held (S := fun w' => Blk w' (w.heap.size) 30 (d8A (dd7 S.R.d) (.slice az nz cz) (.slice a8 (plL o.e S.R.cs).length c8) (.slice ah S.R.h.length ch)) ∧ Blk w' (w.heap.size + 1) 39 (op8A o)) (by kernel_rfl) ?_
  change wpAnyH _ _ _ _ _ _ _ _ (World.drew _)
  have hS : Blk w7.drew (w.heap.size) 30 (d8A (dd7 S.R.d) (.slice az nz cz) (.slice a8 (plL o.e S.R.cs).length c8) (.slice ah S.R.h.length ch)) ∧ Blk w7.drew (w.heap.size + 1) 39 (op8A o) := ⟨HS7.out.x, HS7.out.y⟩
  refine takeH hS (i := 0) (d := 168) (v := .agg (d8A (dd7 S.R.d) (.slice az nz cz) (.slice a8 (plL o.e S.R.cs).length c8) (.slice ah S.R.h.length ch))) rfl rfl (by kernel_rfl) (by kernel_rfl) (by kernel_rfl) (fun _ _ _ h => h) (Or.inl ⟨by kernel_rfl, fun w' hw' => by exact exec_load _ rfl (w.heap.size) rfl hw'.1 Try.underlying30 rfl Try.info8D⟩) ?_
  refine takeH hS (i := 1) (d := 169) (v := .pointer (some ⟨X, 0, none⟩)) rfl rfl (by kernel_rfl) (by kernel_rfl) (by kernel_rfl) (fun _ _ _ h => h) (Or.inl ⟨by kernel_rfl, fun w' hw' => by kernel_rfl⟩) ?_
  refine takeH hS (i := 2) (d := 170) (v := .pointer (some ⟨w.heap.size + 1, 68, none⟩)) rfl rfl (by kernel_rfl) (by kernel_rfl) (by kernel_rfl) (fun _ _ _ h => h) (Or.inl ⟨by kernel_rfl, fun w' hw' => by kernel_rfl⟩) ?_
  try go_frame
  refine takeH hS (i := 3) (d := 171) (v := .agg (evA o.e)) rfl rfl (by kernel_rfl) (by kernel_rfl) (by kernel_rfl) (fun _ _ _ h => h) (Or.inl ⟨by kernel_rfl, fun w' hw' => by exact exec_load_v _ _ rfl (w.heap.size + 1) 68 rfl (evA o.e) _ (op8_ev hw'.2 Ho.out.len) Try.underlying37 rfl (info_evA Ho.out.ev.len)⟩) ?_
  refine takeH hS (i := 5) (d := 173) (v := .int .i64 (plE o.e S.R.cs)) rfl rfl (by kernel_rfl) (by kernel_rfl) (by kernel_rfl) (fun _ _ _ h => h) (Or.inl ⟨by kernel_rfl, fun w' hw' => by kernel_rfl⟩) ?_
  try go_frame
  have hbd : Below w7.heap.size w7 w7.drew := (Below.refl _ _).drew
  have HA6 := Lib.hid (C.below HA7.out hbd)
  have HS6 := Lib.hid (HS7.out.below hbd)
  have HD6 := Lib.hid (HD7.out.below hbd)
  clear hbd HA7 HS7 HD7
  refine nextH (i := 4) rfl (by kernel_rfl) (by kernel_rfl) (fun K' hK => ?_)
  go_wp2_with fail
  refine (C.pl o.e Ho.out.ev HA6.out Hf.out).mono ?_
  rintro en w8 ⟨rfl, hT⟩
  have hT' : DrTo C lo w7.drew X F (S.pl o.e) w8 := hT
  have hS7 : Blk w8 (w.heap.size) 30 (d8A (dd7 S.R.d) (.slice az nz cz) (.slice a8 (plL o.e S.R.cs).length c8) (.slice ah S.R.h.length ch)) ∧ Blk w8 (w.heap.size + 1) 39 (op8A o) := ⟨hT'.blk HA6.out hS.1 (by decide), hT'.blk HA6.out hS.2 (by decide)⟩
  have HN := Lib.hid (HS6.out.cmd8 HA6.out hT')
  have HDN := Lib.hid (HD6.out.cmd HA6.out hT')
  refine hK.out _ _ ⟨hS7, ?_⟩
  clear hK K' hS hT hT' HA6 HS6 HD6
  try go_frame
  refine takeH hS7 (i := 6) (d := 174) (v := .bool true) rfl rfl (by kernel_rfl) (by kernel_rfl) (by kernel_rfl) (fun _ _ _ h => h) (Or.inl ⟨by kernel_rfl, fun w' hw' => by exact exec_eql _ _ rfl (plE o.e S.R.cs) (plE o.e S.R.cs) rfl rfl true (decide_eq_true rfl) rfl⟩) ?_
  try go_frame
  refine nextH (i := 7) rfl (by kernel_rfl) (by kernel_rfl) (fun K' hK => ?_)
  refine wpo_store _ _ rfl (w.heap.size + 2) (d8A (dd7 S.R.d) (.slice az nz cz) (.slice a8 (plL o.e S.R.cs).length c8) (.slice ah S.R.h.length ch)) rfl rfl _ _ HN.out.g (Try.info8D) rfl (d8A_one _ _ _ _ _ _ _ _ _ _) ?_
  intro w9 hSg hKg
  have HF := Lib.hid (HN.out.out hSg hKg)
  have HDF := Lib.hid (HDN.out.keptB HN.out.g (by decide) (by decide) (by decide) hKg)
  have hS8 : Blk w9 (w.heap.size) 30 (d8A (dd7 S.R.d) (.slice az nz cz) (.slice a8 (plL o.e S.R.cs).length c8) (.slice ah S.R.h.length ch)) ∧ Blk w9 (w.heap.size + 1) 39 (op8A o) := ⟨hS7.1.kept hKg (by omega), hS7.2.kept hKg (by omega)⟩
  refine hK.out _ _ ⟨hS8, ?_⟩
  clear hK K' hSg hKg hS7
  try go_frame
  refine takeH hS8 (i := 8) (d := 7) (v := .bool true) rfl rfl (by kernel_rfl) (by kernel_rfl) (by kernel_rfl) (fun _ _ _ h => h) (Or.inl ⟨by kernel_rfl, fun w' hw' => by kernel_rfl⟩) ?_
  try go_frame
  refine wpAnyH_done (by kernel_rfl) ?_ _
  go_wp2_with fail
  exact bodyPost_ret (v := .tuple #[.agg (d8A (dd7 S.R.d) (.slice az nz cz) (.slice a8 (plL o.e S.R.cs).length c8) (.slice ah S.R.h.length ch)), .bool true]) (results_cell_slot Try.results10 _ _ (w.heap.size + 2) 30 _ _ _ rfl rfl HF.out.g Try.underlying30 rfl Try.info8D) rfl (by unfold STo8; rw [HR.out]; exact ⟨_, _, _, _, _, _, _, rfl, HDF.out, HF.out.dr⟩)
end Go.Proofs.Ytajkajgnjcnolaa

