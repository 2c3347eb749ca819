import Derived.Test.YtlngdndamgopeaaMg23
import Derived.Test.YtlngdndamgopeaaMg24
/-
  Layer 7 (zdev): DeviceDown, walked.
-/
namespace Go.Proofs.Ytlngdndamgopeaa
open Go.RowKit
set_option linter.unusedVariables false
set_option linter.unnecessarySimpa false
set_option linter.unusedSimpArgs false


set_option maxRecDepth 100000 in
set_option maxHeartbeats 2000000 in
theorem ddwn_z (zones size opn : Int) (a : Option Addr) (len cap : Nat) (a2 : Option Addr) (len2 cap2 : Nat) (w : World) (h : 40 < zones) : Calls Try.prog 5 #[.int .i64 zones, .int .i64 size, .int .i64 opn, .slice a len cap, .slice a2 len2 cap2] w fun e w' => e = .returned (.bool true) ∧ Below w.heap.size w w' := by
  go_enter Try.func5, Try.ntmps5
  go_wp2_with fail
  refine (anchor7_any w).mono ?_
  rintro e w1 ⟨rfl, hb1⟩
  have HB1 := Lib.hid hb1
  clear hb1
  go_wp2_with fail
  go_ret
  exact ⟨rfl, HB1.out⟩
set_option maxRecDepth 100000 in
set_option maxHeartbeats 2000000 in
theorem ddwn_n (zones size opn : Int) (a : Option Addr) (len cap : Nat) (a2 : Option Addr) (len2 cap2 : Nat) (w : World) (h0 : zones ≤ 40) (h : ¬ ((1 ≤ zones ∧ zones ≤ 512) ∧ (1 ≤ size ∧ size ≤ 64) ∧ 1 ≤ opn ∧ opn ≤ 64)) : Calls Try.prog 5 #[.int .i64 zones, .int .i64 size, .int .i64 opn, .slice a len cap, .slice a2 len2 cap2] w fun e w' => e = .returned (.bool true) ∧ Below w.heap.size w w' := by
  have H := Lib.hid h
  clear h
  go_enter Try.func5, Try.ntmps5
  go_wp2_with fail
  refine (anchor7_any w).mono ?_
  rintro e w1 ⟨rfl, hb1⟩
  have HB1 := Lib.hid hb1
  clear hb1
  go_wp2_with fail
  refine (right_no zones size opn w1 H.out).mono ?_
  rintro e w2 ⟨rfl, rfl⟩
  go_wp2_with fail
  go_ret
  exact ⟨rfl, HB1.out⟩

set_option maxRecDepth 100000 in
set_option maxHeartbeats 2000000 in
theorem ddwn_l (zones size opn : Int) (a : Option Addr) (len cap : Nat) (a2 : Option Addr) (len2 cap2 : Nat) (w : World) (h0 : zones ≤ 40) (h1 : 1 ≤ zones) (h2 : 1 ≤ size) (h3 : size ≤ 64) (h4 : 1 ≤ opn) (h5 : opn ≤ 64) (hl : 60 < len) : Calls Try.prog 5 #[.int .i64 zones, .int .i64 size, .int .i64 opn, .slice a len cap, .slice a2 len2 cap2] w fun e w' => e = .returned (.bool true) ∧ Below w.heap.size w w' := by
  have dl : decide ((60 : Int) < (len : Int)) = true := decide_eq_true (by omega)
  go_enter Try.func5, Try.ntmps5
  go_wp2_with fail
  refine (anchor7_any w).mono ?_
  rintro e w1 ⟨rfl, hb1⟩
  have HB1 := Lib.hid hb1
  clear hb1
  go_wp2_with fail
  refine (right_yes zones size opn w1 h1 (by omega) h2 h3 h4 h5).mono ?_
  rintro e w2 ⟨rfl, rfl⟩
  go_wp2_with fail
  go_ret
  exact ⟨rfl, HB1.out⟩
set_option maxRecDepth 100000 in
set_option maxHeartbeats 2000000 in
theorem ddwn_m (zones size opn : Int) (a : Option Addr) (len cap : Nat) (a2 : Option Addr) (len2 cap2 : Nat) (w : World) (h0 : zones ≤ 40) (h1 : 1 ≤ zones) (h2 : 1 ≤ size) (h3 : size ≤ 64) (h4 : 1 ≤ opn) (h5 : opn ≤ 64) (hl : len ≤ 60) (hm : 60 < len2) : Calls Try.prog 5 #[.int .i64 zones, .int .i64 size, .int .i64 opn, .slice a len cap, .slice a2 len2 cap2] w fun e w' => e = .returned (.bool true) ∧ Below w.heap.size w w' := by
  have dl : decide ((60 : Int) < (len : Int)) = false := decide_eq_false (by omega)
  have dm : decide ((60 : Int) < (len2 : Int)) = true := decide_eq_true (by omega)
  go_enter Try.func5, Try.ntmps5
  go_wp2_with fail
  refine (anchor7_any w).mono ?_
  rintro e w1 ⟨rfl, hb1⟩
  have HB1 := Lib.hid hb1
  clear hb1
  go_wp2_with fail
  refine (right_yes zones size opn w1 h1 (by omega) h2 h3 h4 h5).mono ?_
  rintro e w2 ⟨rfl, rfl⟩
  go_wp2_with fail
  go_ret
  exact ⟨rfl, HB1.out⟩

set_option maxRecDepth 100000 in
set_option maxHeartbeats 8000000 in
theorem ddwn_t (n : Nat) (size opn : Int) (a : Option Addr) (len cap : Nat) (f : Nat → Op7) (a2 : Option Addr) (len2 cap2 : Nat) (f2 : Nat → Op7) (w : World) (h0 : n ≤ 40) (h1 : 1 ≤ n) (h2 : 1 ≤ size) (h3 : size ≤ 64) (h4 : 1 ≤ opn) (h5 : opn ≤ 64) (hops : RowOp7 w a len cap f) (hmore : RowOp7 w a2 len2 cap2 f2) (hl : len ≤ 60) (hl2 : len2 ≤ 60) : Calls Try.prog 5 #[.int .i64 (n : Nat), .int .i64 size, .int .i64 opn, .slice a len cap, .slice a2 len2 cap2] w fun e w' => e = .returned (.bool true) ∧ Below w.heap.size w w' := by
  have dl : decide ((60 : Int) < (len : Int)) = false := decide_eq_false (by omega)
  have dm : decide ((60 : Int) < (len2 : Int)) = false := decide_eq_false (by omega)
  have Hops := Lib.hid hops
  have Hmore := Lib.hid hmore
  obtain ⟨m1, m2⟩ : len ≤ cap ∧ cap ≤ 9223372036854775807 := by have h := hops.max; unfold maxLen at h; exact ⟨hops.le, h⟩
  obtain ⟨m3, m4⟩ : len2 ≤ cap2 ∧ cap2 ≤ 9223372036854775807 := by have h := hmore.max; unfold maxLen at h; exact ⟨hmore.le, h⟩
  clear hops hmore
  go_enter Try.func5, Try.ntmps5
  go_wp2_with fail
  refine (anchor7_any w).mono ?_
  rintro e w1 ⟨rfl, hb1⟩
  have HB1 := Lib.hid hb1
  clear hb1
  go_wp2_with fail
  refine (right_yes (n : Int) size opn w1 (by omega) (by omega) h2 h3 h4 h5).mono ?_
  rintro e w2 ⟨rfl, rfl⟩
  go_wp2_with fail
  refine (dnew_ok (lo := w.heap.size) n size opn w1 ⟨by omega, by omega⟩ ⟨h4, h5⟩ ⟨h2, h3⟩ HB1.out.size).mono ?_
  rintro e w2 ⟨rfl, ⟨vz, l0, hA, hm⟩, hb⟩
  have HA := Lib.hid hA
  have Hm := Lib.hid hm
  have HB2 := Lib.hid (HB1.out.trans (hb.mono HB1.out.size))
  clear hA hm hb dl dm
  generalize w1.heap.size = D at *
  go_wp2_with fail
  refine (nw7 (lo := w.heap.size) n size opn (by omega) HB2.out.size).mono ?_
  rintro e w3 ⟨v7, rfl, hr, hb⟩
  have HA3 := Lib.hid (HA.out.below hb)
  have HB3 := Lib.hid (HB2.out.trans (hb.mono HB2.out.size))
  have HD3 := Lib.hid (doc_start (n := n) ⟨h2, h3⟩ hr)
  obtain ⟨a7, c7, hv7⟩ := own_slice hr.own
  subst hv7
  clear hr hb HA HB2
  go_upto_region 9 with (first | (refine wpl_store_new rfl _ _ rfl (d7A (d70 size opn) (.slice a7 (l70 n).length c7)) w3 31 d7Z rfl rfl rfl Try.info7D rfl (d7A_one _ _ _ _) ?_; go_frame))
  have hb3 := below_alloc w3 (Obj.cells (d7A (d70 size opn) (.slice a7 (l70 n).length c7)) 31)
  have HI0 : Hid (LvI w D w3.heap.size vz (.slice a7 (l70 n).length c7) (dv0 size opn) l0 (w3.alloc (Obj.cells (d7A (d70 size opn) (.slice a7 (l70 n).length c7)) 31))) := Lib.hid ⟨HA3.out.below hb3, by rw [Hm.out]; exact HD3.out.below hb3, Blk.new _ _ _, HB3.out.trans (hb3.mono HB3.out.size), HB3.out.size⟩
  have Hl0 : Hid (l0.length = n) := Lib.hid (by have h := congrArg List.length Hm.out; rwa [List.length_map, List.length_replicate] at h)
  clear HA3 HB3 HD3 hb3 HB1 Hm
  generalize w3.alloc (Obj.cells (d7A (d70 size opn) (.slice a7 (l70 n).length c7)) 31) = W0 at *
  generalize w3.heap.size = X at *
  go_wp2_with fail
  go_loopw [59] (fun i wr => ∃ (j : Nat) (d : DvR) (l : List ZcR) (v7 : Value), j ≤ len ∧ i = .int .i64 (j : Nat) ∧ LvI w D X vz v7 d l wr ∧ l.length = n ∧ 0 ≤ d.count ∧ d.count ≤ (j : Int)) (fun i _ => len - (intOf i).toNat)
  case atStart => exact ⟨0, _, _, _, Nat.zero_le _, rfl, HI0.out, Hl0.out, Int.le_refl _, Int.le_refl _⟩
  case round =>
    obtain ⟨j, d, l, v7, hj, rfl, hI, hln, hc1, hc2⟩ := hrel
    have HIr := Lib.hid hI
    have Hln := Lib.hid hln
    have Hcnt : Hid (0 ≤ d.count ∧ d.count ≤ 1000000) := Lib.hid ⟨hc1, by omega⟩
    have Hcj := Lib.hid hc2
    clear hI hln hc1 hc2 HI0 Hl0
    by_cases hlt : j < len
    · obtain ⟨b, off, rfl, hat, hok⟩ := Hops.out.at_ (HIr.out.B) j hlt
      generalize f j = o at *
      have Ho := Lib.hid hok
      have Hat := Lib.hid hat
      have hOp0 : (zeroValue 37).run Try.prog wr = .ok (.agg (opA op0)) wr := by kernel_rfl
      clear hat hok
      go_upto_region 12 with (first | (refine wpl_load_op (by rfl) _ _ rfl b (off + j * 68) rfl o _ Hat.out Try.underlying37 rfl (Try.infoOpL Ho.out.len) ?_; go_frame) | (refine wpl_store_new rfl _ _ rfl (opA o) wr 37 (opA op0) rfl rfl rfl ((Try.infoOp7).trans (by rw [opA_size Ho.out.len])) (by rw [opA_size Ho.out.len, opA_size (zeros_length 64)]) (opA_one o) ?_; go_frame))
      have hbO := below_alloc wr (Obj.cells (opA o) 37)
      have HI1 := Lib.hid (HIr.out.below hbO)
      have HO1 := Lib.hid (Blk.new wr 37 (opA o))
      have HXY := Lib.hid (show X ≠ wr.heap.size by have := HIr.out.bX.lt; omega)
      clear hbO HIr hOp0
      generalize wr.alloc (Obj.cells (opA o) 37) = wr1 at *
      generalize wr.heap.size = Y at *
      obtain ⟨av, nv, cv, rfl⟩ := HI1.out.slice
      go_wp2_with (first | (refine wpl_load rfl _ rfl (X) rfl _ _ _ (HI1.out.bX) Try.underlying31 rfl Try.info7D ?_; go_frame) | (refine wpl_load rfl _ rfl Y rfl _ _ _ (HO1.out) Try.underlying37 rfl ((Try.infoOp7).trans (by rw [opA_size Ho.out.len])) ?_; go_frame))
      refine (st7 o Ho.out (HI1.out.B) (Nat.le_refl _) HI1.out.dv HI1.out.doc Hcnt.out (by have := Hln.out; omega)).mono ?_
      rintro e w6 ⟨v8, rfl, hd8, hT⟩
      obtain ⟨a8, n8, c8, rfl⟩ : ∃ a n c, v8 = .slice a n c := by
        obtain ⟨l8, r8, _⟩ := hd8
        obtain ⟨a, c, e⟩ := own_slice r8.own
        exact ⟨a, _, c, e⟩
      have HX6 := Lib.hid (hT.blk HI1.out.dv HI1.out.bX (by decide) (by decide) (by decide) (by decide))
      have HN6 := Lib.hid (fun W3 (hX : Blk W3 X 31 (d7A (dd7 (stSp d (l.map ZcR.z) o).d) (.slice a8 n8 c8))) (hk : Kept (· = X) w6 W3) => And.intro (HI1.out.next hd8 hT hX hk) (HI1.out.other hT hk HO1.out (by decide) (by decide) (by decide) (by decide) (Ne.symm HXY.out)))
      clear hd8 hT
      go_upto_region 13 with (first | (refine wpl_store rfl _ _ rfl X (d7A (dd7 (stSp d (l.map ZcR.z) o).d) (.slice a8 n8 c8)) rfl rfl _ _ HX6.out Try.info7D rfl (d7A_one _ _ _ _) ?_; intro w7 hX7 hK7; have HN7 := Lib.hid (HN6.out w7 hX7 hK7); clear hX7 hK7; go_frame))
      obtain ⟨⟨l2, hI7, hm7⟩, hO7⟩ := HN7.out
      obtain ⟨kp1, kp2, kp3, kp4, kp5⟩ := stSp_keeps (d := d) (zs := l.map ZcR.z) (o := o)
      have HI8 := Lib.hid hI7
      have Hln2 : Hid (l2.length = n) := Lib.hid (by have h := congrArg List.length hm7; rw [List.length_map, kp1, List.length_map] at h; exact h.trans Hln.out)
      have Hc1 : Hid (0 ≤ (stSp d (l.map ZcR.z) o).d.count) := Lib.hid (Int.le_trans Hcnt.out.1 kp4)
      have Hc2 : Hid ((stSp d (l.map ZcR.z) o).d.count ≤ (j : Int) + 1) := Lib.hid (by have := Hcj.out; omega)
      clear hI7 hm7 hO7 kp1 kp2 kp3 kp4 kp5 HN7 HN6 HX6 HI1 HO1 Hln Hcnt Hcj
      generalize (stSp d (l.map ZcR.z) o).d = d2 at *
      clear HXY
      go_wp2_with fail
      go_roundw
      case rel => exact ⟨j + 1, d2, l2, _, by omega, by go_num, HI8.out, Hln2.out, Hc1.out, by have := Hc2.out; omega⟩
      case measure => simp [intOf]; omega
    · have hjl : j = len := by omega
      clear hjl
      obtain ⟨av, nv, cv, rfl⟩ := HIr.out.slice
      go_wp2_with fail
      refine (dcr HIr.out.dv).mono ?_
      rintro e w4 ⟨rfl, hT⟩
      have hX := hT.blk HIr.out.dv HIr.out.bX (by decide) (by decide) (by decide) (by decide)
      have hD : Doc w.heap.size w4 (.slice av nv cv) (l.map ZcR.z) := by
        obtain ⟨l7, r, m⟩ := HIr.out.doc
        exact ⟨l7, hT.row HIr.out.dv r, m⟩
      have hX2 : Blk (w4.setCell ⟨X, 4, none⟩ (.bool true)) X 31 (d7A (dd7 { d with down := true }) (.slice av nv cv)) := hX.set 4 _
      obtain ⟨l2, hI2, hm2⟩ := HIr.out.next (R := ⟨0, 0, { d with down := true }, l.map ZcR.z⟩) hD hT hX2 ((Kept.refl (· = X) w4).setCell (p := ⟨X, 4, none⟩) rfl (.bool true))
      have c4 := (hX.cell 4).trans (show (d7A (dd7 d) (.slice av nv cv))[4]? = some (.bool d.down) from rfl)
      have f4 := hX.frozen 4
      obtain ⟨d2, HI2, Hdn⟩ : ∃ d2, Hid (LvI w D X vz (.slice av nv cv) d2 l2 (w4.setCell ⟨X, 4, none⟩ (.bool true))) ∧ Hid (d2.down = true) := ⟨_, Lib.hid hI2, Lib.hid rfl⟩
      have Hln2 : Hid (l2.length = n) := Lib.hid (by have h := congrArg List.length hm2; rw [List.length_map, List.length_map] at h; exact h.trans Hln.out)
      clear hT hX hD hX2 hI2 hm2 HIr Hln Hcnt Hcj
      go_upto_region 16 with fail
      clear c4 f4
      generalize w4.setCell ⟨X, 4, none⟩ (.bool true) = w5 at *
      go_wp2_with fail
      go_loopw [76] (fun ci wr => ∃ j3 : Nat, j3 ≤ len2 ∧ ci = .int .i64 (j3 : Nat) ∧ LvI w D X vz (.slice av nv cv) d2 l2 wr) (fun ci _ => len2 - (intOf ci).toNat)
      case atStart => exact ⟨0, Nat.zero_le _, rfl, HI2.out⟩
      case round =>
        obtain ⟨j3, hj3, rfl, hI3⟩ := hrel
        have HIr := Lib.hid hI3
        clear hI3 HI2
        by_cases hlt3 : j3 < len2
        · obtain ⟨b, off, rfl, hat, hok⟩ := Hmore.out.at_ (HIr.out.B) j3 hlt3
          generalize f2 j3 = o at *
          have Ho := Lib.hid hok
          have Hat := Lib.hid hat
          have hOp0 : (zeroValue 37).run Try.prog wr = .ok (.agg (opA op0)) wr := by kernel_rfl
          clear hat hok
          go_upto_region 19 with (first | (refine wpl_load_op (by rfl) _ _ rfl b (off + j3 * 68) rfl o _ Hat.out Try.underlying37 rfl (Try.infoOpL Ho.out.len) ?_; go_frame) | (refine wpl_store_new rfl _ _ rfl (opA o) wr 37 (opA op0) rfl rfl rfl ((Try.infoOp7).trans (by rw [opA_size Ho.out.len])) (by rw [opA_size Ho.out.len, opA_size (zeros_length 64)]) (opA_one o) ?_; go_frame))
          have hbO := below_alloc wr (Obj.cells (opA o) 37)
          have HI1 := Lib.hid (HIr.out.below hbO)
          have HO1 := Lib.hid (Blk.new wr 37 (opA o))
          have HXY := Lib.hid (show X ≠ wr.heap.size by have := HIr.out.bX.lt; omega)
          clear hbO HIr hOp0
          generalize wr.alloc (Obj.cells (opA o) 37) = wr1 at *
          generalize wr.heap.size = Y at *
          have ck := (HO1.out.cell 0).trans (opA_0 o)
          have c1 := (HO1.out.cell 1).trans (opA_1 o)
          have c2 := (HO1.out.cell 2).trans (opA_2 o)
          by_cases hk1 : o.k = 1
          · have e1 : (o.k == 1) = true := by simpa using hk1
            clear hk1
            go_wp2_with (first | (refine wpl_load_mid (by rfl) 34 _ rfl Y 3 rfl o.s _ (op_range HO1.out) Try.underlying34 rfl (by rw [bvals_length]; exact (info_sec Ho.out.len).trans (by rw [bA_size])) ?_; go_frame))
            refine (dap_down o.z o.s HI1.out.dv Hdn.out).mono ?_
            rintro e w7 ⟨rfl, hb⟩
            have HI4 := Lib.hid (HI1.out.below hb)
            clear hb HI1 ck c1 c2
            go_wp2_with fail
            go_roundw
            case rel => exact ⟨j3 + 1, by omega, by go_num, HI4.out⟩
            case measure => simp [intOf]; omega
          have e1 : (o.k == 1) = false := by simpa using hk1
          clear hk1
          by_cases hk2 : o.k = 2
          · have e2 : (o.k == 2) = true := by simpa using hk2
            clear hk2
            go_wp2_with fail
            refine (drd_down o.z o.off HI1.out.dv Hdn.out).mono ?_
            rintro e w7 ⟨rfl, hb⟩
            have HI4 := Lib.hid (HI1.out.below hb)
            clear hb HI1 ck c1 c2
            go_wp2_with fail
            go_roundw
            case rel => exact ⟨j3 + 1, by omega, by go_num, HI4.out⟩
            case measure => simp [intOf]; omega
          have e2 : (o.k == 2) = false := by simpa using hk2
          clear hk2
          by_cases hk3 : o.k = 3
          · have e3 : (o.k == 3) = true := by simpa using hk3
            clear hk3
            go_wp2_with fail
            refine (drs_down o.z HI1.out.dv Hdn.out).mono ?_
            rintro e w7 ⟨rfl, rfl⟩
            have HI4 := HI1
            clear HI1 ck c1 c2
            go_wp2_with fail
            go_roundw
            case rel => exact ⟨j3 + 1, by omega, by go_num, HI4.out⟩
            case measure => simp [intOf]; omega
          have e3 : (o.k == 3) = false := by simpa using hk3
          clear hk3
          by_cases hk4 : o.k = 4
          · have e4 : (o.k == 4) = true := by simpa using hk4
            clear hk4
            go_wp2_with fail
            refine (dfn_down o.z HI1.out.dv Hdn.out).mono ?_
            rintro e w7 ⟨rfl, rfl⟩
            have HI4 := HI1
            clear HI1 ck c1 c2
            go_wp2_with fail
            go_roundw
            case rel => exact ⟨j3 + 1, by omega, by go_num, HI4.out⟩
            case measure => simp [intOf]; omega
          have e4 : (o.k == 4) = false := by simpa using hk4
          clear hk4
          by_cases hk5 : o.k = 5
          · have e5 : (o.k == 5) = true := by simpa using hk5
            clear hk5
            go_wp2_with fail
            refine (dfl_down HI1.out.dv Hdn.out).mono ?_
            rintro e w7 ⟨rfl, rfl⟩
            have HI4 := HI1
            clear HI1 ck c1 c2
            go_wp2_with fail
            go_roundw
            case rel => exact ⟨j3 + 1, by omega, by go_num, HI4.out⟩
            case measure => simp [intOf]; omega
          have e5 : (o.k == 5) = false := by simpa using hk5
          clear hk5
          go_wp2_with fail
          clear ck c1 c2
          have HI4 := HI1
          clear HI1
          go_roundw
          case rel => exact ⟨j3 + 1, by omega, by go_num, HI4.out⟩
          case measure => simp [intOf]; omega
        · have hj3l : j3 = len2 := by omega
          clear hj3l
          go_wp2_with (first | (refine wpl_load rfl _ rfl (X) rfl _ _ _ (HIr.out.bX) Try.underlying31 rfl Try.info7D ?_; go_frame))
          refine (same7 HIr.out.dv HIr.out.doc (by have := Hln2.out; omega)).mono ?_
          rintro e w8 ⟨rfl, hb⟩
          have HB9 := Lib.hid (HIr.out.B.trans (hb.mono HIr.out.B.size))
          clear hb HIr
          go_wp2_with fail
          go_ret
          exact ⟨rfl, HB9.out⟩

theorem walkDeviceDown (zones size opn : Int) (a : Option Addr) (len cap : Nat) (f : Nat → Op7) (a2 : Option Addr) (len2 cap2 : Nat) (f2 : Nat → Op7) (w : World) (h0 : (Lit.int .i64 zones).wf = true) (h1 : (Lit.int .i64 size).wf = true) (h2 : (Lit.int .i64 opn).wf = true) (h3 : RowOp7 w a len cap f) (h4 : RowOp7 w a2 len2 cap2 f2) : Calls Try.prog 5 #[.int .i64 zones, .int .i64 size, .int .i64 opn, .slice a len cap, .slice a2 len2 cap2] w fun e w' => e = .returned (.bool true) ∧ Below w.heap.size w w' := by
  by_cases hz : 40 < zones
  · exact ddwn_z zones size opn a len cap a2 len2 cap2 w hz
  · by_cases hr : ((1 ≤ zones ∧ zones ≤ 512) ∧ (1 ≤ size ∧ size ≤ 64) ∧ 1 ≤ opn ∧ opn ≤ 64)
    · obtain ⟨⟨r1, r2⟩, ⟨r3, r4⟩, r5, r6⟩ := hr
      by_cases hl : 60 < len
      · exact ddwn_l zones size opn a len cap a2 len2 cap2 w (by omega) r1 r3 r4 r5 r6 hl
      · by_cases hl2 : 60 < len2
        · exact ddwn_m zones size opn a len cap a2 len2 cap2 w (by omega) r1 r3 r4 r5 r6 (by omega) hl2
        · obtain ⟨n, rfl⟩ := Int.eq_ofNat_of_zero_le (show 0 ≤ zones by omega)
          exact ddwn_t n size opn a len cap f a2 len2 cap2 f2 w (by omega) (by omega) r3 r4 r5 r6 h3 h4 (by omega) (by omega)
    · exact ddwn_n zones size opn a len cap a2 len2 cap2 w (by omega) hr

end Go.Proofs.Ytlngdndamgopeaa

