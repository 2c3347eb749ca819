import Derived.Test.YtajkajgnjcnolaaMg30
/-
  Layer 8 (plan): PlanFailed, walked over what is asked of a drive.
-/
namespace Go.Proofs.Ytajkajgnjcnolaa
open Go.RowKit
set_option linter.unusedVariables false
set_option linter.unnecessarySimpa false
set_option linter.unusedSimpArgs false


set_option maxRecDepth 100000 in
set_option maxHeartbeats 8000000 in
theorem pfl_n (C : Drv) (zones size opn : Int) (a : Option Addr) (len cap : Nat) (w : World) (h : ¬ ((1 ≤ zones ∧ zones ≤ 512) ∧ (1 ≤ size ∧ size ≤ 64) ∧ 1 ≤ opn ∧ opn ≤ 64)) : Calls Try.prog 5 #[.int .i64 zones, .int .i64 size, .int .i64 opn, .slice a len cap] w fun e w' => e = .returned (.bool true) ∧ Below w.heap.size w w' := by
  have H := Lib.hid h
  clear h
  go_enter Try.func5, Try.ntmps5
  go_wp2_with fail
  refine (anchor8_any C w).mono ?_
  rintro e w1 ⟨rfl, hb1⟩
  have HB1 := Lib.hid hb1
  clear hb1
  go_wp2_with fail
  refine (started_no C zones size opn w1 H.out).mono ?_
  rintro e w2 ⟨rfl, hb⟩
  have HB2 := Lib.hid (bthen' HB1.out (bthen' hb (below_alloc w2 (Obj.cells d8Z 30))))
  clear hb
  go_wp2_with (first | (refine wpl_store_new rfl _ _ rfl d8Z w2 30 d8Z rfl rfl rfl Try.info8D rfl d8Z_one ?_; go_frame))
  go_ret
  exact ⟨rfl, HB2.out⟩

set_option maxRecDepth 100000 in
set_option maxHeartbeats 8000000 in
theorem pfl_b (C : Drv) (n : Nat) (size opn : Int) (a : Option Addr) (len cap : Nat) (w : World) (h1 : 1 ≤ n ∧ n ≤ 512) (h2 : 1 ≤ opn ∧ opn ≤ 64) (h3 : 1 ≤ size ∧ size ≤ 64) (hb : 40 < n) : Calls Try.prog 5 #[.int .i64 (n : Nat), .int .i64 size, .int .i64 opn, .slice a len cap] w fun e w' => e = .returned (.bool true) ∧ Below w.heap.size w w' := by
  go_enter Try.func5, Try.ntmps5
  go_wp2_with fail
  refine (anchor8_any C w).mono ?_
  rintro e w1 ⟨rfl, hb1⟩
  have HB1 := Lib.hid hb1
  clear hb1
  go_wp2_with fail
  refine (started_big C n size opn w1 h1 h2 h3 hb).mono ?_
  rintro e w2 ⟨rfl, hb⟩
  have HB2 := Lib.hid (bthen' HB1.out (bthen' hb (below_alloc w2 (Obj.cells d8Z 30))))
  clear hb
  go_wp2_with (first | (refine wpl_store_new rfl _ _ rfl d8Z w2 30 d8Z rfl rfl rfl Try.info8D rfl d8Z_one ?_; go_frame))
  go_ret
  exact ⟨rfl, HB2.out⟩


set_option maxRecDepth 100000 in
set_option maxHeartbeats 8000000 in
theorem pfl_l (C : Drv) (n : Nat) (size opn : Int) (a : Option Addr) (len cap : Nat) (w : World) (h1 : 1 ≤ n ∧ n ≤ 40) (h2 : 1 ≤ opn ∧ opn ≤ 64) (h3 : 1 ≤ size ∧ size ≤ 64) (hl : 60 < len) : Calls Try.prog 5 #[.int .i64 (n : Nat), .int .i64 size, .int .i64 opn, .slice a len cap] w fun e w' => e = .returned (.bool true) ∧ Below w.heap.size w w' := by
  have dl : decide ((60 : Int) < (len : Int)) = true := decide_eq_true (by omega)
  go_enter Try.func5, Try.ntmps5
  go_wp2_with fail
  refine (anchor8_any C w).mono ?_
  rintro e w1 ⟨rfl, hb1⟩
  have HB1 := Lib.hid hb1
  clear hb1
  go_wp2_with fail
  refine (started_ok C (lo := w.heap.size) n size opn w1 h1 h2 h3 HB1.out.size).mono ?_
  rintro e w2 ⟨X, F, az, nz, cz, rfl, hA, hD, hb⟩
  go_upto_region 4 with (first | (refine wpl_store_new rfl _ _ rfl (d8A (d70 size opn) (.slice az nz cz) (.slice none 0 0) (.slice none 0 0)) w2 30 d8Z rfl rfl rfl Try.info8D rfl (d8A_one _ _ _ _ _ _ _ _ _ _) ?_; go_frame))
  have hb2 := below_alloc w2 (Obj.cells (d8A (d70 size opn) (.slice az nz cz) (.slice none 0 0) (.slice none 0 0)) 30)
  have HJ : Hid (LvJ C w X w2.heap.size (st80 n size opn) F (.slice az nz cz) (.slice none 0 0) (.slice none 0 0) (w2.alloc (Obj.cells (d8A (d70 size opn) (.slice az nz cz) (.slice none 0 0) (.slice none 0 0)) 30))) := Lib.hid ⟨C.below hA hb2, hD.below hb2, Blk.new w2 30 (d8A (d70 size opn) (.slice az nz cz) (.slice none 0 0) (.slice none 0 0)), (bthen' HB1.out (bthen' hb hb2)), Nat.le_trans HB1.out.size hb.size⟩
  clear hA hD hb hb2 HB1
  generalize w2.alloc (Obj.cells (d8A (d70 size opn) (.slice az nz cz) (.slice none 0 0) (.slice none 0 0)) 30) = W0 at *
  generalize w2.heap.size = Y at *
  go_wp2_with fail
  go_ret
  exact ⟨rfl, HJ.out.B⟩

set_option maxRecDepth 100000 in
set_option maxHeartbeats 8000000 in
theorem pfl_t (C : Drv) (n : Nat) (size opn : Int) (a : Option Addr) (len cap : Nat) (f : Nat → Op8) (w : World) (h1 : 1 ≤ n ∧ n ≤ 40) (h2 : 1 ≤ opn ∧ opn ≤ 64) (h3 : 1 ≤ size ∧ size ≤ 64) (hops : RowOp8 w a len cap f) (hl : len ≤ 60) : Calls Try.prog 5 #[.int .i64 (n : Nat), .int .i64 size, .int .i64 opn, .slice a len cap] w fun e w' => e = .returned (.bool true) ∧ Below w.heap.size w w' := by
  have dl : decide ((60 : Int) < (len : Int)) = false := decide_eq_false (by omega)
  have Hops := Lib.hid hops
  obtain ⟨m1, m2⟩ : len ≤ cap ∧ cap ≤ 9223372036854775807 := by have h := hops.max; unfold maxLen at h; exact ⟨hops.le, h⟩
  clear hops
  go_enter Try.func5, Try.ntmps5
  go_wp2_with fail
  refine (anchor8_any C w).mono ?_
  rintro e w1 ⟨rfl, hb1⟩
  have HB1 := Lib.hid hb1
  clear hb1
  go_wp2_with fail
  refine (started_ok C (lo := w.heap.size) n size opn w1 h1 h2 h3 HB1.out.size).mono ?_
  rintro e w2 ⟨X, F, az, nz, cz, rfl, hA, hD, hb⟩
  go_upto_region 4 with (first | (refine wpl_store_new rfl _ _ rfl (d8A (d70 size opn) (.slice az nz cz) (.slice none 0 0) (.slice none 0 0)) w2 30 d8Z rfl rfl rfl Try.info8D rfl (d8A_one _ _ _ _ _ _ _ _ _ _) ?_; go_frame))
  have hb2 := below_alloc w2 (Obj.cells (d8A (d70 size opn) (.slice az nz cz) (.slice none 0 0) (.slice none 0 0)) 30)
  have HJ : Hid (LvJ C w X w2.heap.size (st80 n size opn) F (.slice az nz cz) (.slice none 0 0) (.slice none 0 0) (w2.alloc (Obj.cells (d8A (d70 size opn) (.slice az nz cz) (.slice none 0 0) (.slice none 0 0)) 30))) := Lib.hid ⟨C.below hA hb2, hD.below hb2, Blk.new w2 30 (d8A (d70 size opn) (.slice az nz cz) (.slice none 0 0) (.slice none 0 0)), (bthen' HB1.out (bthen' hb hb2)), Nat.le_trans HB1.out.size hb.size⟩
  clear hA hD hb hb2 HB1
  generalize w2.alloc (Obj.cells (d8A (d70 size opn) (.slice az nz cz) (.slice none 0 0) (.slice none 0 0)) 30) = W0 at *
  generalize w2.heap.size = Y at *
  have hmk := run_makeV elI rfl W0 n (by omega)
  rw [wiA_zero] at hmk
  go_upto_region 7 with fail
  clear hmk
  have hbg := below_alloc W0 (Obj.cells (wiA (List.replicate n 0)) 3)
  have HG0 := Lib.hid (Blk.new W0 3 (wiA (List.replicate n 0)))
  have HF0 : Hid (¬ F W0.heap.size ∧ w.heap.size ≤ W0.heap.size ∧ W0.heap.size ≠ Y) := Lib.hid ⟨fun hi => Nat.lt_irrefl _ (C.lt HJ.out.at_ hi), HJ.out.B.size, fun e => by have := HJ.out.bY.lt; omega⟩
  have HJ0 := Lib.hid (HJ.out.below hbg)
  have HBd : Hid (Bd (st80 n size opn) n 0) := Lib.hid ⟨Int.le_refl _, Int.le_refl _, Nat.zero_le _, Nat.zero_le _, List.length_replicate⟩
  have HX0 : Hid (List.replicate n (0 : Int) = (st80 n size opn).R.zs.map stS) := Lib.hid (by show _ = (List.replicate n (zs0 size)).map stS; rw [List.map_replicate, stS_new h3.1])
  clear hbg HJ
  generalize W0.alloc (Obj.cells (wiA (List.replicate n 0)) 3) = W1 at *
  generalize W0.heap.size = gw at *
  go_wp2_with fail
  go_loopw [38] (fun i wr => ∃ (j : Nat) (S : St8) (F : Nat → Prop) (az : Option Addr) (nz cz : Nat) (ac : Option Addr) (cc : Nat) (ah : Option Addr) (ch : Nat), j ≤ len ∧ i = .int .i64 (j : Nat) ∧ Bd S n j ∧ LvJ C w X Y S F (.slice az nz cz) (.slice ac S.R.cs.length cc) (.slice ah S.R.h.length ch) wr ∧ Blk wr gw 3 (wiA (S.R.zs.map stS)) ∧ ¬ F gw ∧ w.heap.size ≤ gw ∧ gw ≠ Y) (fun i _ => len - (intOf i).toNat)
  case atStart => exact ⟨0, st80 n size opn, F, az, nz, cz, none, 0, none, 0, Nat.zero_le _, rfl, HBd.out, HJ0.out, by rw [← HX0.out]; exact HG0.out, HF0.out⟩
  case round =>
    obtain ⟨j, S, F, az, nz, cz, ac, cc, ah, ch, hj, rfl, hbd, hJ, hG, hF⟩ := hrel
    have HJ := Lib.hid hJ
    have HG := Lib.hid hG
    have HF := Lib.hid hF
    have HBd := Lib.hid hbd
    clear hbd hJ hG hF HJ0 HG0 HF0 HX0
    by_cases hlt : j < len
    case neg =>
      have hje : j = len := by omega
      have HBf := Lib.hid HJ.out.B
      clear hje
      go_wp2_with fail
      go_ret
      exact ⟨rfl, HBf.out⟩
    obtain ⟨b, off, rfl, hat, hok⟩ := Hops.out.at_ HJ.out.B j hlt
    generalize f j = o at *
    have Ho := Lib.hid hok
    have Hat := Lib.hid hat
    have hOp0 : (zeroValue 39).run Try.prog wr = .ok (.agg (op8A op80)) wr := by kernel_rfl
    clear hat hok
    go_upto_region 10 with (first | (refine wpl_load_at (by rfl) 39 _ rfl b (off + j * 136) rfl (op8A o) _ Hat.out Try.underlying39 rfl (info_op8 Ho.out.len Ho.out.ev.len) ?_; go_frame) | (refine wpl_store_new rfl _ _ rfl (op8A o) wr 39 (op8A op80) rfl rfl rfl (info_op8 Ho.out.len Ho.out.ev.len) (by rw [op8A_size Ho.out.len Ho.out.ev.len, op8A_size (zeros_length 64) (zeros_length 64)]) (op8A_one o) ?_; go_frame))
    have hbO := below_alloc wr (Obj.cells (op8A o) 39)
    have HJ1 := Lib.hid (HJ.out.below hbO)
    have HG1 := Lib.hid (HG.out.below hbO HG.out.lt)
    have HO1 := Lib.hid (Blk.new wr 39 (op8A o))
    clear hbO HJ HG hOp0 Hat
    generalize wr.alloc (Obj.cells (op8A o) 39) = wr1 at *
    generalize wr.heap.size = Q at *
    go_wp2_with (first | (refine wpl_load rfl _ rfl Y rfl _ _ _ (HJ1.out.bY) Try.underlying30 rfl Try.info8D ?_; go_frame) | (refine wpl_load rfl _ rfl Q rfl _ _ _ (HO1.out) Try.underlying39 rfl (info_op8 Ho.out.len Ho.out.ev.len) ?_; go_frame))
    refine (st8_all o Ho.out HJ1.out.B (Nat.le_refl _) HJ1.out.at_ (HBd.out.fine (by omega)) HJ1.out.dc HJ1.out.B.size).mono ?_
    have hok8 : ∀ e ∈ S.R.cs, EvOk e := HJ1.out.dc.cs.ok
    have hfm := FM.step o hok8 (C.sane HJ1.out.at_)
    have hbd2 := HBd.out.next o hok8 (C.sane HJ1.out.at_)
    have HSz : Hid (∀ z ∈ S.R.zs, ZsOk z) := Lib.hid (fun z hz => ((C.sane HJ1.out.at_).ok z hz).1)
    obtain ⟨S2, hS2⟩ : ∃ S2, st8 S o = S2 := ⟨_, rfl⟩
    rw [hS2] at hfm hbd2 ⊢
    have HFM := Lib.hid hfm
    have HBd2 := Lib.hid hbd2
    clear hok8 hfm hbd2 hS2
    rintro e w3 ⟨az2, nz2, cz2, ac2, cc2, ah2, ch2, rfl, hD3, hT3⟩
    have HT3 := Lib.hid hT3
    have HD3 := Lib.hid hD3
    have HY3 : Hid (Blk w3 Y 30 (d8A (dd7 S.R.d) (.slice az nz cz) (.slice ac S.R.cs.length cc) (.slice ah S.R.h.length ch))) := Lib.hid (hT3.blk HJ1.out.at_ HJ1.out.bY (by decide))
    clear hT3 hD3
    go_upto_region 11 with (first | (refine wpl_store rfl _ _ rfl Y (d8A (dd7 S2.R.d) (.slice az2 nz2 cz2) (.slice ac2 S2.R.cs.length cc2) (.slice ah2 S2.R.h.length ch2)) rfl rfl _ _ HY3.out Try.info8D rfl (d8A_one _ _ _ _ _ _ _ _ _ _) ?_; intro w4 hY4 hK4; have HN4 := Lib.hid (HJ1.out.next HD3.out HT3.out hY4 hK4); clear hY4 hK4; go_frame))
    obtain ⟨F2, hJ4, hn4⟩ := HN4.out
    have HJ4 := Lib.hid hJ4
    obtain ⟨hG4, hF4⟩ := hn4 gw _ _ HG1.out HF.out.1 HF.out.2.2
    have HG4 := Lib.hid hG4
    have HF4 : Hid (¬ F2 gw ∧ w.heap.size ≤ gw ∧ gw ≠ Y) := Lib.hid ⟨hF4, HF.out.2⟩
    have HlA : Hid ((S.R.zs.map stS).length = n) := Lib.hid (by rw [List.length_map]; exact HBd.out.len)
    have HlB : Hid ((S2.R.zs.map stS).length = n) := Lib.hid (by rw [List.length_map]; exact HBd2.out.len)
    clear hJ4 hn4 hG4 hF4 HN4 HT3 HD3 HY3 HJ1 HG1 HO1 HF
    go_wp2_with fail
    go_loopw [52] (fun ci wr => ∃ q : Nat, q ≤ n ∧ ci = .int .i64 (q : Nat) ∧ LvJ C w X Y S2 F2 (.slice az2 nz2 cz2) (.slice ac2 S2.R.cs.length cc2) (.slice ah2 S2.R.h.length ch2) wr ∧ Blk wr gw 3 (wiA (mixI (S.R.zs.map stS) (S2.R.zs.map stS) q))) (fun ci _ => n - (intOf ci).toNat)
    case atStart => exact ⟨0, Nat.zero_le _, rfl, HJ4.out, by rw [mixI_zero]; exact HG4.out⟩
    case round =>
      obtain ⟨q, hq, rfl, hJ, hG⟩ := hrel
      have HJ := Lib.hid hJ
      have HG := Lib.hid hG
      clear hJ hG HJ4 HG4
      by_cases hqn : q < n
      case neg =>
        have hqe : q = n := by omega
        have HG9 : Hid (Blk wr gw 3 (wiA (S2.R.zs.map stS))) := Lib.hid (by have h := HG.out; rw [hqe, mixI_all HlA.out HlB.out] at h; exact h)
        clear hqe HG
        go_wp2_with fail
        go_roundw
        case rel => exact ⟨j + 1, S2, F2, az2, nz2, cz2, ac2, cc2, ah2, ch2, by omega, by go_num, HBd2.out, HJ.out, HG9.out, HF4.out⟩
        case measure => simp [intOf]; omega
      obtain ⟨z, hz⟩ : ∃ z, S.R.zs[q]? = some z := ⟨_, List.getElem?_eq_getElem (by have := HBd.out.len; omega)⟩
      obtain ⟨z2, hz2⟩ : ∃ z, S2.R.zs[q]? = some z := ⟨_, List.getElem?_eq_getElem (by have := HBd2.out.len; omega)⟩
      have Hle := Lib.hid (HFM.out.state hz hz2 (HSz.out z (List.mem_of_getElem? hz)))
      have HA_ : Hid ((mixI (S.R.zs.map stS) (S2.R.zs.map stS) q)[q]? = some (stS z)) := Lib.hid (by rw [mixI_at HlA.out HlB.out hqn, List.getElem?_map, hz]; rfl)
      have HB_ : Hid ((S2.R.zs.map stS)[q]? = some (stS z2)) := Lib.hid (by rw [List.getElem?_map, hz2]; rfl)
      have Hst : Hid (stD S2.R.zs (q : Int) = stS z2) := Lib.hid (by
        unfold stD
        rw [if_pos (by unfold dhB; have := HBd2.out.len; simp; omega), zsat_of hz2])
      clear hz hz2
      go_wp2_with fail
      refine (C.dev HJ.out.at_).mono ?_
      rintro e w6 ⟨D, vz, l, rfl, rfl, hdv, hlz⟩
      have Hdv := Lib.hid hdv
      have Hlz := Lib.hid hlz
      clear hdv hlz
      go_wp2_with fail
      refine (cst7 (q : Int) Hdv.out).mono ?_
      rw [Hlz.out, Hst.out]
      rintro e w7 ⟨rfl, hb⟩
      have HJ7 := Lib.hid (HJ.out.below hb)
      have HG7 := Lib.hid (HG.out.below hb HG.out.lt)
      clear hb HJ HG Hdv Hlz Hst
      have cg : w7.cell? ⟨gw, q, none⟩ = some (.int .i64 (stS z)) := (HG7.out.cell q).trans (wiA_at HA_.out)
      have fg := HG7.out.frozen q
      obtain ⟨b3, hb3⟩ : ∃ b3, decide (3 ≤ stS z) = b3 := ⟨_, rfl⟩
      have hb4 : b3 = true → decide (stS z2 < stS z) = false := fun e => decide_eq_false (by have := Hle.out (of_decide_eq_true (hb3.trans e)); omega)
      clear Hle
      generalize stS z = s1 at *
      obtain ⟨s2, hs2⟩ : ∃ s2, stS z2 = s2 := ⟨_, rfl⟩
      rw [hs2] at HB_ hb4 ⊢
      clear hs2
      have HG8 : Hid (Blk (w7.setCell ⟨gw, q, none⟩ (.int .i64 s2)) gw 3 (wiA (mixI (S.R.zs.map stS) (S2.R.zs.map stS) (q + 1)))) := Lib.hid (by
        have h := HG7.out.set q (.int .i64 s2)
        rwa [wiA_set, mixI_set HlA.out HlB.out HB_.out hqn] at h)
      have HJ8 := Lib.hid (HJ7.out.keptB HG7.out HF4.out.2.1 HF4.out.1 (by decide) (by decide) (by decide) (by decide) ((Kept.refl (· = gw) w7).setCell (p := ⟨gw, q, none⟩) rfl (.int .i64 s2)))
      clear HJ7 HG7 HA_ HB_
      cases b3 with
      | true =>
        have d4 := hb4 rfl
        clear hb4
        go_upto_region 20 with fail
        clear cg fg hb3 d4
        generalize w7.setCell ⟨gw, q, none⟩ (.int .i64 s2) = w8 at *
        go_wp2_with fail
        go_roundw
        case rel => exact ⟨q + 1, by omega, by go_num, HJ8.out, HG8.out⟩
        case measure => simp [intOf]; omega
      | false =>
        clear hb4
        go_upto_region 20 with fail
        clear cg fg hb3
        generalize w7.setCell ⟨gw, q, none⟩ (.int .i64 s2) = w8 at *
        go_wp2_with fail
        go_roundw
        case rel => exact ⟨q + 1, by omega, by go_num, HJ8.out, HG8.out⟩
        case measure => simp [intOf]; omega

theorem walkPlanFailedC (C : Drv) (zones size opn : Int) (a : Option Addr) (len cap : Nat) (f : Nat → Op8) (w : World) (h0 : (Lit.int .i64 zones).wf = true) (h1 : (Lit.int .i64 size).wf = true) (h2 : (Lit.int .i64 opn).wf = true) (h3 : RowOp8 w a len cap f) : Calls Try.prog 5 #[.int .i64 zones, .int .i64 size, .int .i64 opn, .slice a len cap] w fun e w' => e = .returned (.bool true) ∧ Below w.heap.size w w' := by
  by_cases hr : ((1 ≤ zones ∧ zones ≤ 512) ∧ (1 ≤ size ∧ size ≤ 64) ∧ 1 ≤ opn ∧ opn ≤ 64)
  · obtain ⟨⟨r1, r2⟩, ⟨r3, r4⟩, r5, r6⟩ := hr
    obtain ⟨n, rfl⟩ := Int.eq_ofNat_of_zero_le (show 0 ≤ zones by omega)
    by_cases hz : 40 < n
    · exact pfl_b C n size opn a len cap w ⟨by omega, by omega⟩ ⟨r5, r6⟩ ⟨r3, r4⟩ hz
    · by_cases hl : 60 < len
      · exact pfl_l C n size opn a len cap w ⟨by omega, by omega⟩ ⟨r5, r6⟩ ⟨r3, r4⟩ hl
      · exact pfl_t C n size opn a len cap f w ⟨by omega, by omega⟩ ⟨r5, r6⟩ ⟨r3, r4⟩ h3 (by omega)
  · exact pfl_n C zones size opn a len cap w hr

end Go.Proofs.Ytajkajgnjcnolaa

