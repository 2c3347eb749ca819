import Derived.Test.YtlngdndamgopeaaMg23
/-
  Layer 7 (zdev): DeviceLimit, walked.
-/
namespace Go.Proofs.Ytlngdndamgopeaa
open Go.RowKit
set_option linter.unusedVariables false
set_option linter.unnecessarySimpa false
set_option linter.unusedSimpArgs false


set_option maxRecDepth 100000 in
set_option maxHeartbeats 2000000 in
theorem dlim_z (zones size opn : Int) (a : Option Addr) (len cap : Nat) (w : World) (h : 40 < zones) : Calls Try.prog 4 #[.int .i64 zones, .int .i64 size, .int .i64 opn, .slice a len cap] w fun e w' => e = .returned (.bool true) ∧ Below w.heap.size w w' := by
  go_enter Try.func4, Try.ntmps4
  go_wp2_with fail
  refine (anchor7_any w).mono ?_
  rintro e w1 ⟨rfl, hb1⟩
  have HB1 := Lib.hid hb1
  clear hb1
  go_wp2_with fail
  go_ret
  exact ⟨rfl, HB1.out⟩
set_option maxRecDepth 100000 in
set_option maxHeartbeats 2000000 in
theorem dlim_n (zones size opn : Int) (a : Option Addr) (len cap : Nat) (w : World) (h0 : zones ≤ 40) (h : ¬ ((1 ≤ zones ∧ zones ≤ 512) ∧ (1 ≤ size ∧ size ≤ 64) ∧ 1 ≤ opn ∧ opn ≤ 64)) : Calls Try.prog 4 #[.int .i64 zones, .int .i64 size, .int .i64 opn, .slice a len cap] w fun e w' => e = .returned (.bool true) ∧ Below w.heap.size w w' := by
  have H := Lib.hid h
  clear h
  go_enter Try.func4, Try.ntmps4
  go_wp2_with fail
  refine (anchor7_any w).mono ?_
  rintro e w1 ⟨rfl, hb1⟩
  have HB1 := Lib.hid hb1
  clear hb1
  go_wp2_with fail
  refine (right_no zones size opn w1 H.out).mono ?_
  rintro e w2 ⟨rfl, rfl⟩
  go_wp2_with fail
  go_ret
  exact ⟨rfl, HB1.out⟩

set_option maxRecDepth 100000 in
set_option maxHeartbeats 2000000 in
theorem dlim_l (zones size opn : Int) (a : Option Addr) (len cap : Nat) (w : World) (h0 : zones ≤ 40) (h1 : 1 ≤ zones) (h2 : 1 ≤ size) (h3 : size ≤ 64) (h4 : 1 ≤ opn) (h5 : opn ≤ 64) (hl : 60 < len) : Calls Try.prog 4 #[.int .i64 zones, .int .i64 size, .int .i64 opn, .slice a len cap] w fun e w' => e = .returned (.bool true) ∧ Below w.heap.size w w' := by
  have dl : decide ((60 : Int) < (len : Int)) = true := decide_eq_true (by omega)
  go_enter Try.func4, Try.ntmps4
  go_wp2_with fail
  refine (anchor7_any w).mono ?_
  rintro e w1 ⟨rfl, hb1⟩
  have HB1 := Lib.hid hb1
  clear hb1
  go_wp2_with fail
  refine (right_yes zones size opn w1 h1 (by omega) h2 h3 h4 h5).mono ?_
  rintro e w2 ⟨rfl, rfl⟩
  go_wp2_with fail
  go_ret
  exact ⟨rfl, HB1.out⟩

set_option maxRecDepth 100000 in
set_option maxHeartbeats 8000000 in
theorem dlim_t (n : Nat) (size opn : Int) (a : Option Addr) (len cap : Nat) (f : Nat → Op7) (w : World) (h0 : n ≤ 40) (h1 : 1 ≤ n) (h2 : 1 ≤ size) (h3 : size ≤ 64) (h4 : 1 ≤ opn) (h5 : opn ≤ 64) (hops : RowOp7 w a len cap f) (hl : len ≤ 60) : Calls Try.prog 4 #[.int .i64 (n : Nat), .int .i64 size, .int .i64 opn, .slice a len cap] w fun e w' => e = .returned (.bool true) ∧ Below w.heap.size w w' := by
  have dl : decide ((60 : Int) < (len : Int)) = false := decide_eq_false (by omega)
  have Hops := Lib.hid hops
  obtain ⟨m1, m2⟩ : len ≤ cap ∧ cap ≤ 9223372036854775807 := by have h := hops.max; unfold maxLen at h; exact ⟨hops.le, h⟩
  clear hops
  go_enter Try.func4, Try.ntmps4
  go_wp2_with fail
  refine (anchor7_any w).mono ?_
  rintro e w1 ⟨rfl, hb1⟩
  have HB1 := Lib.hid hb1
  clear hb1
  go_wp2_with fail
  refine (right_yes (n : Int) size opn w1 (by omega) (by omega) h2 h3 h4 h5).mono ?_
  rintro e w2 ⟨rfl, rfl⟩
  go_wp2_with fail
  refine (dnew_ok (lo := w.heap.size) n size opn w1 ⟨by omega, by omega⟩ ⟨h4, h5⟩ ⟨h2, h3⟩ HB1.out.size).mono ?_
  rintro e w2 ⟨rfl, ⟨vz, l0, hA, hm⟩, hb⟩
  have HA := Lib.hid hA
  have Hm := Lib.hid hm
  have HB2 := Lib.hid (HB1.out.trans (hb.mono HB1.out.size))
  clear hA hm hb dl
  generalize w1.heap.size = D at *
  go_wp2_with fail
  refine (nw7 (lo := w.heap.size) n size opn (by omega) HB2.out.size).mono ?_
  rintro e w3 ⟨v7, rfl, hr, hb⟩
  have HA3 := Lib.hid (HA.out.below hb)
  have HB3 := Lib.hid (HB2.out.trans (hb.mono HB2.out.size))
  have HD3 := Lib.hid (doc_start (n := n) ⟨h2, h3⟩ hr)
  obtain ⟨a7, c7, hv7⟩ := own_slice hr.own
  subst hv7
  clear hr hb HA HB2
  go_upto_region 9 with (first | (refine wpl_store_new rfl _ _ rfl (d7A (d70 size opn) (.slice a7 (l70 n).length c7)) w3 31 d7Z rfl rfl rfl Try.info7D rfl (d7A_one _ _ _ _) ?_; go_frame))
  have hb3 := below_alloc w3 (Obj.cells (d7A (d70 size opn) (.slice a7 (l70 n).length c7)) 31)
  have HI0 : Hid (LvI w D w3.heap.size vz (.slice a7 (l70 n).length c7) (dv0 size opn) l0 (w3.alloc (Obj.cells (d7A (d70 size opn) (.slice a7 (l70 n).length c7)) 31))) := Lib.hid ⟨HA3.out.below hb3, by rw [Hm.out]; exact HD3.out.below hb3, Blk.new _ _ _, HB3.out.trans (hb3.mono HB3.out.size), HB3.out.size⟩
  have Hl0 : Hid (l0.length = n) := Lib.hid (by have h := congrArg List.length Hm.out; rwa [List.length_map, List.length_replicate] at h)
  clear HA3 HB3 HD3 hb3 HB1 Hm
  generalize w3.alloc (Obj.cells (d7A (d70 size opn) (.slice a7 (l70 n).length c7)) 31) = W0 at *
  generalize w3.heap.size = X at *
  go_wp2_with fail
  go_loopw [53] (fun i wr => ∃ (j : Nat) (d : DvR) (l : List ZcR) (v7 : Value), j ≤ len ∧ i = .int .i64 (j : Nat) ∧ LvI w D X vz v7 d l wr ∧ l.length = n ∧ d.opn = opn ∧ 0 ≤ d.count ∧ d.count ≤ (j : Int)) (fun i _ => len - (intOf i).toNat)
  case atStart => exact ⟨0, _, _, _, Nat.zero_le _, rfl, HI0.out, Hl0.out, rfl, Int.le_refl _, Int.le_refl _⟩
  case round =>
    obtain ⟨j, d, l, v7, hj, rfl, hI, hln, hop, hc1, hc2⟩ := hrel
    have HIr := Lib.hid hI
    have Hln := Lib.hid hln
    have Hopn := Lib.hid hop
    have Hcnt : Hid (0 ≤ d.count ∧ d.count ≤ 1000000) := Lib.hid ⟨hc1, by omega⟩
    have Hcj := Lib.hid hc2
    clear hI hln hop hc1 hc2 HI0 Hl0
    by_cases hlt : j < len
    · obtain ⟨b, off, rfl, hat, hok⟩ := Hops.out.at_ (HIr.out.B) j hlt
      generalize f j = o at *
      have Ho := Lib.hid hok
      have Hat := Lib.hid hat
      have hOp0 : (zeroValue 37).run Try.prog wr = .ok (.agg (opA op0)) wr := by kernel_rfl
      clear hat hok
      go_upto_region 13 with (first | (refine wpl_load_op (by rfl) _ _ rfl b (off + j * 68) rfl o _ Hat.out Try.underlying37 rfl (Try.infoOpL Ho.out.len) ?_; go_frame) | (refine wpl_store_new rfl _ _ rfl (opA o) wr 37 (opA op0) rfl rfl rfl ((Try.infoOp7).trans (by rw [opA_size Ho.out.len])) (by rw [opA_size Ho.out.len, opA_size (zeros_length 64)]) (opA_one o) ?_; go_frame))
      have hbO := below_alloc wr (Obj.cells (opA o) 37)
      have HI1 := Lib.hid (HIr.out.below hbO)
      have HO1 := Lib.hid (Blk.new wr 37 (opA o))
      have HXY := Lib.hid (show X ≠ wr.heap.size by have := HIr.out.bX.lt; omega)
      clear hbO HIr hOp0
      generalize wr.alloc (Obj.cells (opA o) 37) = wr1 at *
      generalize wr.heap.size = Y at *
      go_wp2_with fail
      go_loopw [14, 58] (fun cn ci wr2 => ∃ q : Nat, q ≤ n ∧ ci = .int .i64 (q : Nat) ∧ cn = .int .i64 (opD ((l.map ZcR.z).take q) : Nat) ∧ LvI w D X vz v7 d l wr2 ∧ Blk wr2 Y 37 (opA o)) (fun _ ci _ => n - (intOf ci).toNat)
      case atStart => exact ⟨0, Nat.zero_le _, rfl, rfl, HI1.out, HO1.out⟩
      case round =>
        obtain ⟨q, hq, rfl, rfl, hIq, hOq⟩ := hrel
        have HIq := Lib.hid hIq
        have HOq := Lib.hid hOq
        have hcn := opD_le ((l.map ZcR.z).take q)
        rw [List.length_take, List.length_map] at hcn
        clear hIq hOq HI1 HO1
        by_cases hlt : q < n
        · obtain ⟨c, hc⟩ : ∃ c, l[q]? = some c := ⟨_, List.getElem?_eq_getElem (by have := Hln.out; omega)⟩
          have Hst := Lib.hid (opD_step (zs := l.map ZcR.z) (j := q) (z := c.z) (by rw [List.getElem?_map, hc]; rfl))
          have Hsd := Lib.hid (stD_at hc)
          clear hc
          generalize opD ((l.map ZcR.z).take q) = m at *
          go_wp2_with fail
          refine (cst7 (q : Int) HIq.out.dv).mono ?_
          rw [Hsd.out]
          rintro e w5 ⟨rfl, hb⟩
          have HI5 := Lib.hid (HIq.out.below hb)
          have HO5 := Lib.hid (HOq.out.below hb HOq.out.lt)
          clear hb HIq HOq
          by_cases hs : stS c.z = 1
          · have hq2 : opD ((l.map ZcR.z).take (q + 1)) = m + 1 := by rw [Hst.out, if_pos hs]
            have Hq2 := Lib.hid hq2
            have hd : (stS c.z == 1) = true := by simpa using hs
            clear hq2 hs
            go_wp2_with fail
            go_roundw
            case rel => exact ⟨q + 1, by omega, by go_num, by rw [Hq2.out]; go_num, HI5.out, HO5.out⟩
            case measure => simp [intOf]; omega
          · have hq2 : opD ((l.map ZcR.z).take (q + 1)) = m := by rw [Hst.out, if_neg hs]; rfl
            have Hq2 := Lib.hid hq2
            have hd : (stS c.z == 1) = false := by simpa using hs
            clear hq2 hs
            go_wp2_with fail
            go_roundw
            case rel => exact ⟨q + 1, by omega, by go_num, by rw [Hq2.out], HI5.out, HO5.out⟩
            case measure => simp [intOf]; omega
        · have hqn : q = n := by omega
          have hall : (l.map ZcR.z).take q = l.map ZcR.z := List.take_of_length_le (by rw [List.length_map]; have := Hln.out; omega)
          rw [hall]
          rw [hall] at hcn
          clear hall hqn
          have Hwas : Hid (opD (l.map ZcR.z) ≤ n) := Lib.hid (by have := opD_le (l.map ZcR.z); rw [List.length_map] at this; have := Hln.out; omega)
          have Hlim := Lib.hid (fun h => stSp_limit (o := o) (HIq.out.dv.sane (by have := Hln.out; omega)) h)
          generalize hwas : opD (l.map ZcR.z) = was at *
          clear hwas hcn
          obtain ⟨av, nv, cv, rfl⟩ := HIq.out.slice
          go_wp2_with (first | (refine wpl_load rfl _ rfl (X) rfl _ _ _ (HIq.out.bX) Try.underlying31 rfl Try.info7D ?_; go_frame) | (refine wpl_load rfl _ rfl Y rfl _ _ _ (HOq.out) Try.underlying37 rfl ((Try.infoOp7).trans (by rw [opA_size Ho.out.len])) ?_; go_frame))
          refine (st7 o Ho.out (HIq.out.B) (Nat.le_refl _) HIq.out.dv HIq.out.doc Hcnt.out (by have := Hln.out; omega)).mono ?_
          rintro e w6 ⟨v8, rfl, hd8, hT⟩
          obtain ⟨a8, n8, c8, rfl⟩ : ∃ a n c, v8 = .slice a n c := by
            obtain ⟨l8, r8, _⟩ := hd8
            obtain ⟨a, c, e⟩ := own_slice r8.own
            exact ⟨a, _, c, e⟩
          have HX6 := Lib.hid (hT.blk HIq.out.dv HIq.out.bX (by decide) (by decide) (by decide) (by decide))
          have HN6 := Lib.hid (fun W3 (hX : Blk W3 X 31 (d7A (dd7 (stSp d (l.map ZcR.z) o).d) (.slice a8 n8 c8))) (hk : Kept (· = X) w6 W3) => And.intro (HIq.out.next hd8 hT hX hk) (HIq.out.other hT hk HOq.out (by decide) (by decide) (by decide) (by decide) (Ne.symm HXY.out)))
          clear hd8 hT
          go_upto_region 20 with (first | (refine wpl_store rfl _ _ rfl X (d7A (dd7 (stSp d (l.map ZcR.z) o).d) (.slice a8 n8 c8)) rfl rfl _ _ HX6.out Try.info7D rfl (d7A_one _ _ _ _) ?_; intro w7 hX7 hK7; have HN7 := Lib.hid (HN6.out w7 hX7 hK7); clear hX7 hK7; go_frame))
          obtain ⟨⟨l2, hI7, hm7⟩, hO7⟩ := HN7.out
          obtain ⟨kp1, kp2, kp3, kp4, kp5⟩ := stSp_keeps (d := d) (zs := l.map ZcR.z) (o := o)
          have HI8 := Lib.hid hI7
          have HO8 := Lib.hid hO7
          have Hlim2 : Hid (o.k ≠ 7 → (opD (l2.map ZcR.z) : Int) ≤ (was : Int) ∨ (opD (l2.map ZcR.z) : Int) ≤ opn) := Lib.hid (fun h => by rw [hm7]; have := Hlim.out h; rw [Hopn.out] at this; exact this)
          have Hln2 : Hid (l2.length = n) := Lib.hid (by have h := congrArg List.length hm7; rw [List.length_map, kp1, List.length_map] at h; exact h.trans Hln.out)
          have Hop2 : Hid ((stSp d (l.map ZcR.z) o).d.opn = opn) := Lib.hid (kp3.trans Hopn.out)
          have Hc1 : Hid (0 ≤ (stSp d (l.map ZcR.z) o).d.count) := Lib.hid (Int.le_trans Hcnt.out.1 kp4)
          have Hc2 : Hid ((stSp d (l.map ZcR.z) o).d.count ≤ (j : Int) + 1) := Lib.hid (by have := Hcj.out; omega)
          clear hI7 hm7 hO7 kp1 kp2 kp3 kp4 kp5 HN7 HN6 HX6 HIq HOq Hlim Hln Hopn Hcnt Hcj
          generalize (stSp d (l.map ZcR.z) o).d = d2 at *
          clear HXY
          go_wp2_with fail
          go_loopw [16, 76] (fun cn ci wr2 => ∃ q : Nat, q ≤ n ∧ ci = .int .i64 (q : Nat) ∧ cn = .int .i64 (opD ((l2.map ZcR.z).take q) : Nat) ∧ LvI w D X vz (.slice a8 n8 c8) d2 l2 wr2 ∧ Blk wr2 Y 37 (opA o)) (fun _ ci _ => n - (intOf ci).toNat)
          case atStart => exact ⟨0, Nat.zero_le _, rfl, rfl, HI8.out, HO8.out⟩
          case round =>
            obtain ⟨q, hq, rfl, rfl, hIq, hOq⟩ := hrel
            have HIq := Lib.hid hIq
            have HOq := Lib.hid hOq
            have hcn := opD_le ((l2.map ZcR.z).take q)
            rw [List.length_take, List.length_map] at hcn
            clear hIq hOq HI8 HO8
            by_cases hlt : q < n
            · obtain ⟨c, hc⟩ : ∃ c, l2[q]? = some c := ⟨_, List.getElem?_eq_getElem (by have := Hln2.out; omega)⟩
              have Hst := Lib.hid (opD_step (zs := l2.map ZcR.z) (j := q) (z := c.z) (by rw [List.getElem?_map, hc]; rfl))
              have Hsd := Lib.hid (stD_at hc)
              clear hc
              generalize opD ((l2.map ZcR.z).take q) = m at *
              go_wp2_with fail
              refine (cst7 (q : Int) HIq.out.dv).mono ?_
              rw [Hsd.out]
              rintro e w5 ⟨rfl, hb⟩
              have HI5 := Lib.hid (HIq.out.below hb)
              have HO5 := Lib.hid (HOq.out.below hb HOq.out.lt)
              clear hb HIq HOq
              by_cases hs : stS c.z = 1
              · have hq2 : opD ((l2.map ZcR.z).take (q + 1)) = m + 1 := by rw [Hst.out, if_pos hs]
                have Hq2 := Lib.hid hq2
                have hd : (stS c.z == 1) = true := by simpa using hs
                clear hq2 hs
                go_wp2_with fail
                go_roundw
                case rel => exact ⟨q + 1, by omega, by go_num, by rw [Hq2.out]; go_num, HI5.out, HO5.out⟩
                case measure => simp [intOf]; omega
              · have hq2 : opD ((l2.map ZcR.z).take (q + 1)) = m := by rw [Hst.out, if_neg hs]; rfl
                have Hq2 := Lib.hid hq2
                have hd : (stS c.z == 1) = false := by simpa using hs
                clear hq2 hs
                go_wp2_with fail
                go_roundw
                case rel => exact ⟨q + 1, by omega, by go_num, by rw [Hq2.out], HI5.out, HO5.out⟩
                case measure => simp [intOf]; omega
            · have hqn : q = n := by omega
              have hall : (l2.map ZcR.z).take q = l2.map ZcR.z := List.take_of_length_le (by rw [List.length_map]; have := Hln2.out; omega)
              rw [hall]
              rw [hall] at hcn
              clear hall hqn
              generalize hnow : opD (l2.map ZcR.z) = now at *
              clear hnow
              have ck := (HOq.out.cell 0).trans (opA_0 o)
              by_cases hk7 : o.k = 7
              · have e7 : (o.k != 7) = false := by simp [hk7]
                clear hk7
                go_wp2_with fail
                go_roundw
                case rel => exact ⟨j + 1, d2, l2, _, by omega, by go_num, HIq.out, Hln2.out, Hop2.out, Hc1.out, by have := Hc2.out; omega⟩
                case measure => simp [intOf]; omega
              · have e7 : (o.k != 7) = true := by simpa using hk7
                have Hx := Lib.hid (Hlim2.out hk7)
                clear hk7
                by_cases hn2 : (opn : Int) < (now : Int)
                · have e8 : decide ((now : Int) > opn) = true := decide_eq_true hn2
                  have e8' : decide (opn < (now : Int)) = true := decide_eq_true hn2
                  have e9 : ¬ was < now := by rcases Hx.out with h | h <;> omega
                  have e9' : decide (was < now) = false := decide_eq_false e9
                  clear hn2 e9
                  go_wp2_with fail
                  go_roundw
                  case rel => exact ⟨j + 1, d2, l2, _, by omega, by go_num, HIq.out, Hln2.out, Hop2.out, Hc1.out, by have := Hc2.out; omega⟩
                  case measure => simp [intOf]; omega
                · have e8 : decide ((now : Int) > opn) = false := decide_eq_false hn2
                  have e8' : decide (opn < (now : Int)) = false := decide_eq_false hn2
                  clear hn2
                  go_wp2_with fail
                  go_roundw
                  case rel => exact ⟨j + 1, d2, l2, _, by omega, by go_num, HIq.out, Hln2.out, Hop2.out, Hc1.out, by have := Hc2.out; omega⟩
                  case measure => simp [intOf]; omega
    · have hjl : j = len := by omega
      have HBf := Lib.hid HIr.out.B
      clear hjl
      go_wp2_with fail
      go_ret
      exact ⟨rfl, HBf.out⟩

theorem walkDeviceLimit (zones size opn : Int) (a : Option Addr) (len cap : Nat) (f : Nat → Op7) (w : World) (h0 : (Lit.int .i64 zones).wf = true) (h1 : (Lit.int .i64 size).wf = true) (h2 : (Lit.int .i64 opn).wf = true) (h3 : RowOp7 w a len cap f) : Calls Try.prog 4 #[.int .i64 zones, .int .i64 size, .int .i64 opn, .slice a len cap] w fun e w' => e = .returned (.bool true) ∧ Below w.heap.size w w' := by
  by_cases hz : 40 < zones
  · exact dlim_z zones size opn a len cap w hz
  · by_cases hr : ((1 ≤ zones ∧ zones ≤ 512) ∧ (1 ≤ size ∧ size ≤ 64) ∧ 1 ≤ opn ∧ opn ≤ 64)
    · obtain ⟨⟨r1, r2⟩, ⟨r3, r4⟩, r5, r6⟩ := hr
      by_cases hl : 60 < len
      · exact dlim_l zones size opn a len cap w (by omega) r1 r3 r4 r5 r6 hl
      · obtain ⟨n, rfl⟩ := Int.eq_ofNat_of_zero_le (show 0 ≤ zones by omega)
        exact dlim_t n size opn a len cap f w (by omega) (by omega) r3 r4 r5 r6 h3 (by omega)
    · exact dlim_n zones size opn a len cap w (by omega) hr

end Go.Proofs.Ytlngdndamgopeaa

