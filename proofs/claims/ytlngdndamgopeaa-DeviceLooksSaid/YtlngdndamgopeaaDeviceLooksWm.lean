import Derived.Test.YtlngdndamgopeaaMg25
/-
  Layer 7 (zdev): DeviceLooks, walked.
-/
namespace Go.Proofs.Ytlngdndamgopeaa
open Go.RowKit
set_option linter.unusedVariables false
set_option linter.unnecessarySimpa false
set_option linter.unusedSimpArgs false


set_option maxRecDepth 100000 in
set_option maxHeartbeats 2000000 in
theorem dlks_z (zones size opn : Int) (a : Option Addr) (len cap : Nat) (p : List Nat) (w0 : World) (h : 40 < zones) : Calls Try.prog 7 #[.int .i64 zones, .int .i64 size, .int .i64 opn, .slice a len cap, .agg (bA p)] w0 fun e w' => e = .returned (.bool true) ∧ Below w0.heap.size w0 w' := by
  have HBp := Lib.hid (below_alloc w0 (Obj.cells (bA p) 34))
  have HP := Lib.hid (Blk.new w0 34 (bA p))
  go_enter Try.func7, Try.ntmps7
  go_upto_region 1 with fail
  generalize w0.alloc (Obj.cells (bA p) 34) = w at *
  go_wp2_with fail
  refine (anchor7_any w).mono ?_
  rintro e w1 ⟨rfl, hb1⟩
  have HB1 := Lib.hid hb1
  clear hb1
  go_wp2_with fail
  go_ret
  exact ⟨rfl, bthen' HBp.out HB1.out⟩

set_option maxRecDepth 100000 in
set_option maxHeartbeats 2000000 in
theorem dlks_n (zones size opn : Int) (a : Option Addr) (len cap : Nat) (p : List Nat) (w0 : World) (h0 : zones ≤ 40) (h : ¬ ((1 ≤ zones ∧ zones ≤ 512) ∧ (1 ≤ size ∧ size ≤ 64) ∧ 1 ≤ opn ∧ opn ≤ 64)) : Calls Try.prog 7 #[.int .i64 zones, .int .i64 size, .int .i64 opn, .slice a len cap, .agg (bA p)] w0 fun e w' => e = .returned (.bool true) ∧ Below w0.heap.size w0 w' := by
  have H := Lib.hid h
  clear h
  have HBp := Lib.hid (below_alloc w0 (Obj.cells (bA p) 34))
  have HP := Lib.hid (Blk.new w0 34 (bA p))
  go_enter Try.func7, Try.ntmps7
  go_upto_region 1 with fail
  generalize w0.alloc (Obj.cells (bA p) 34) = w at *
  go_wp2_with fail
  refine (anchor7_any w).mono ?_
  rintro e w1 ⟨rfl, hb1⟩
  have HB1 := Lib.hid hb1
  clear hb1
  go_wp2_with fail
  refine (right_no zones size opn w1 H.out).mono ?_
  rintro e w2 ⟨rfl, rfl⟩
  go_wp2_with fail
  go_ret
  exact ⟨rfl, bthen' HBp.out HB1.out⟩

set_option maxRecDepth 100000 in
set_option maxHeartbeats 2000000 in
theorem dlks_l (zones size opn : Int) (a : Option Addr) (len cap : Nat) (p : List Nat) (w0 : World) (h0 : zones ≤ 40) (h1 : 1 ≤ zones) (h2 : 1 ≤ size) (h3 : size ≤ 64) (h4 : 1 ≤ opn) (h5 : opn ≤ 64) (hl : 60 < len) : Calls Try.prog 7 #[.int .i64 zones, .int .i64 size, .int .i64 opn, .slice a len cap, .agg (bA p)] w0 fun e w' => e = .returned (.bool true) ∧ Below w0.heap.size w0 w' := by
  have dl : decide ((60 : Int) < (len : Int)) = true := decide_eq_true (by omega)
  have HBp := Lib.hid (below_alloc w0 (Obj.cells (bA p) 34))
  have HP := Lib.hid (Blk.new w0 34 (bA p))
  go_enter Try.func7, Try.ntmps7
  go_upto_region 1 with fail
  generalize w0.alloc (Obj.cells (bA p) 34) = w at *
  go_wp2_with fail
  refine (anchor7_any w).mono ?_
  rintro e w1 ⟨rfl, hb1⟩
  have HB1 := Lib.hid hb1
  clear hb1
  go_wp2_with fail
  refine (right_yes zones size opn w1 h1 (by omega) h2 h3 h4 h5).mono ?_
  rintro e w2 ⟨rfl, rfl⟩
  go_wp2_with fail
  go_ret
  exact ⟨rfl, bthen' HBp.out HB1.out⟩

theorem dcount_to {lo D : Nat} {w : World} {vz : Value} {d : DvR} {l : List ZcR} {c : Int} (hc : d.count = c) (h : DvAt lo w D vz d l) : Calls Try.prog 25 #[.pointer (some ⟨D, 0, none⟩)] w fun e w' => e = .returned (.int .i64 c) ∧ w = w' := by
  rw [← hc]; exact dcount h
theorem xor_to {s p V : List Nat} {w : World} (hV : zx s p 64 = V) (h1 : s.length = 64) (h2 : p.length = 64) (h3 : ∀ c ∈ s, c < 256) (h4 : ∀ c ∈ p, c < 256) : Calls Try.prog 27 #[.agg (bA s), .agg (bA p)] w fun e w' => e = .returned (.agg (bA V)) ∧ Below w.heap.size w w' := by
  rw [← hV]; exact xor_any s p w h1 h2 h3 h4
set_option maxRecDepth 100000 in
set_option maxHeartbeats 8000000 in
theorem dlks_t (n : Nat) (size opn : Int) (a : Option Addr) (len cap : Nat) (f : Nat → Op7) (p : List Nat) (w0 : World) (h0 : n ≤ 40) (h1 : 1 ≤ n) (h2 : 1 ≤ size) (h3 : size ≤ 64) (h4 : 1 ≤ opn) (h5 : opn ≤ 64) (hops : RowOp7 w0 a len cap f) (hp : p.length = 64) (hpb : ∀ c ∈ p, c < 256) (hl : len ≤ 60) : Calls Try.prog 7 #[.int .i64 (n : Nat), .int .i64 size, .int .i64 opn, .slice a len cap, .agg (bA p)] w0 fun e w' => e = .returned (.bool true) ∧ Below w0.heap.size w0 w' := by
  have dl : decide ((60 : Int) < (len : Int)) = false := decide_eq_false (by omega)
  have Hops := Lib.hid hops
  have Hp64 := Lib.hid hp
  have Hplt := Lib.hid hpb
  obtain ⟨m1, m2⟩ : len ≤ cap ∧ cap ≤ 9223372036854775807 := by have h := hops.max; unfold maxLen at h; exact ⟨hops.le, h⟩
  clear hops hp hpb
  have HBp := Lib.hid (below_alloc w0 (Obj.cells (bA p) 34))
  have HP := Lib.hid (Blk.new w0 34 (bA p))
  go_enter Try.func7, Try.ntmps7
  go_upto_region 1 with fail
  generalize w0.alloc (Obj.cells (bA p) 34) = w at *
  go_wp2_with fail
  refine (anchor7_any w).mono ?_
  rintro e w1 ⟨rfl, hb1⟩
  have HB1 := Lib.hid hb1
  clear hb1
  go_wp2_with fail
  refine (right_yes (n : Int) size opn w1 (by omega) (by omega) h2 h3 h4 h5).mono ?_
  rintro e w2 ⟨rfl, rfl⟩
  go_wp2_with fail
  refine (dnew_ok (lo := w.heap.size) n size opn w1 ⟨by omega, by omega⟩ ⟨h4, h5⟩ ⟨h2, h3⟩ HB1.out.size).mono ?_
  rintro e w2 ⟨rfl, ⟨vz, l0, hA, hm⟩, hb⟩
  have HA := Lib.hid hA
  have Hm := Lib.hid hm
  have HB2 := Lib.hid (HB1.out.trans (hb.mono HB1.out.size))
  clear hA hm hb dl
  generalize w1.heap.size = D at *
  go_wp2_with fail
  refine (nw7 (lo := w.heap.size) n size opn (by omega) HB2.out.size).mono ?_
  rintro e w3 ⟨v7, rfl, hr, hb⟩
  have HA3 := Lib.hid (HA.out.below hb)
  have HB3 := Lib.hid (HB2.out.trans (hb.mono HB2.out.size))
  have HD3 := Lib.hid (doc_start (n := n) ⟨h2, h3⟩ hr)
  obtain ⟨a7, c7, hv7⟩ := own_slice hr.own
  subst hv7
  clear hr hb HA HB2
  go_upto_region 9 with (first | (refine wpl_store_new rfl _ _ rfl (d7A (d70 size opn) (.slice a7 (l70 n).length c7)) w3 31 d7Z rfl rfl rfl Try.info7D rfl (d7A_one _ _ _ _) ?_; go_frame))
  have hb3 := below_alloc w3 (Obj.cells (d7A (d70 size opn) (.slice a7 (l70 n).length c7)) 31)
  have HI0 : Hid (LvI w D w3.heap.size vz (.slice a7 (l70 n).length c7) (dv0 size opn) l0 (w3.alloc (Obj.cells (d7A (d70 size opn) (.slice a7 (l70 n).length c7)) 31))) := Lib.hid ⟨HA3.out.below hb3, by rw [Hm.out]; exact HD3.out.below hb3, Blk.new _ _ _, HB3.out.trans (hb3.mono HB3.out.size), HB3.out.size⟩
  have Hl0 : Hid (l0.length = n) := Lib.hid (by have h := congrArg List.length Hm.out; rwa [List.length_map, List.length_replicate] at h)
  clear HA3 HB3 HD3 hb3 HB1 Hm
  generalize w3.alloc (Obj.cells (d7A (d70 size opn) (.slice a7 (l70 n).length c7)) 31) = W0 at *
  generalize w3.heap.size = X at *
  go_wp2_with fail
  go_loopw [58] (fun i wr => ∃ (j : Nat) (d : DvR) (l : List ZcR) (v7 : Value), j ≤ len ∧ i = .int .i64 (j : Nat) ∧ LvI w D X vz v7 d l wr ∧ l.length = n ∧ 0 ≤ d.count ∧ d.count ≤ (j : Int)) (fun i _ => len - (intOf i).toNat)
  case atStart => exact ⟨0, _, _, _, Nat.zero_le _, rfl, HI0.out, Hl0.out, Int.le_refl _, Int.le_refl _⟩
  case round =>
    obtain ⟨j, d, l, v7, hj, rfl, hI, hln, hc1, hc2⟩ := hrel
    have HIr := Lib.hid hI
    have Hln := Lib.hid hln
    have Hcnt : Hid (0 ≤ d.count ∧ d.count ≤ 1000000) := Lib.hid ⟨hc1, by omega⟩
    have Hcj := Lib.hid hc2
    clear hI hln hc1 hc2 HI0 Hl0
    by_cases hlt : j < len
    · obtain ⟨b, off, rfl, hat, hok⟩ := Hops.out.at_ (bthen' HBp.out HIr.out.B) j hlt
      generalize f j = o at *
      have Ho := Lib.hid hok
      have Hat := Lib.hid hat
      have hOp0 : (zeroValue 37).run Try.prog wr = .ok (.agg (opA op0)) wr := by kernel_rfl
      clear hat hok
      go_upto_region 12 with (first | (refine wpl_load_op (by rfl) _ _ rfl b (off + j * 68) rfl o _ Hat.out Try.underlying37 rfl (Try.infoOpL Ho.out.len) ?_; go_frame) | (refine wpl_store_new rfl _ _ rfl (opA o) wr 37 (opA op0) rfl rfl rfl ((Try.infoOp7).trans (by rw [opA_size Ho.out.len])) (by rw [opA_size Ho.out.len, opA_size (zeros_length 64)]) (opA_one o) ?_; go_frame))
      have hbO := below_alloc wr (Obj.cells (opA o) 37)
      have HI1 := Lib.hid (HIr.out.below hbO)
      have HO1 := Lib.hid (Blk.new wr 37 (opA o))
      have HXY := Lib.hid (show X ≠ wr.heap.size by have := HIr.out.bX.lt; omega)
      clear hbO HIr hOp0
      generalize wr.alloc (Obj.cells (opA o) 37) = wr1 at *
      generalize wr.heap.size = Y at *
      obtain ⟨av, nv, cv, rfl⟩ := HI1.out.slice
      go_wp2_with (first | (refine wpl_load rfl _ rfl (X) rfl _ _ _ (HI1.out.bX) Try.underlying31 rfl Try.info7D ?_; go_frame) | (refine wpl_load rfl _ rfl Y rfl _ _ _ (HO1.out) Try.underlying37 rfl ((Try.infoOp7).trans (by rw [opA_size Ho.out.len])) ?_; go_frame))
      refine (st7 o Ho.out (bthen' HBp.out HI1.out.B) HBp.out.size HI1.out.dv HI1.out.doc Hcnt.out (by have := Hln.out; omega)).mono ?_
      rintro e w6 ⟨v8, rfl, hd8, hT⟩
      obtain ⟨a8, n8, c8, rfl⟩ : ∃ a n c, v8 = .slice a n c := by
        obtain ⟨l8, r8, _⟩ := hd8
        obtain ⟨a, c, e⟩ := own_slice r8.own
        exact ⟨a, _, c, e⟩
      have HX6 := Lib.hid (hT.blk HI1.out.dv HI1.out.bX (by decide) (by decide) (by decide) (by decide))
      have HN6 := Lib.hid (fun W3 (hX : Blk W3 X 31 (d7A (dd7 (stSp d (l.map ZcR.z) o).d) (.slice a8 n8 c8))) (hk : Kept (· = X) w6 W3) => And.intro (HI1.out.next hd8 hT hX hk) (HI1.out.other hT hk HO1.out (by decide) (by decide) (by decide) (by decide) (Ne.symm HXY.out)))
      clear hd8 hT
      go_upto_region 13 with (first | (refine wpl_store rfl _ _ rfl X (d7A (dd7 (stSp d (l.map ZcR.z) o).d) (.slice a8 n8 c8)) rfl rfl _ _ HX6.out Try.info7D rfl (d7A_one _ _ _ _) ?_; intro w7 hX7 hK7; have HN7 := Lib.hid (HN6.out w7 hX7 hK7); clear hX7 hK7; go_frame))
      obtain ⟨⟨l2, hI7, hm7⟩, hO7⟩ := HN7.out
      obtain ⟨kp1, kp2, kp3, kp4, kp5⟩ := stSp_keeps (d := d) (zs := l.map ZcR.z) (o := o)
      have HI8 := Lib.hid hI7
      have Hln2 : Hid (l2.length = n) := Lib.hid (by have h := congrArg List.length hm7; rw [List.length_map, kp1, List.length_map] at h; exact h.trans Hln.out)
      have Hc1 : Hid (0 ≤ (stSp d (l.map ZcR.z) o).d.count) := Lib.hid (Int.le_trans Hcnt.out.1 kp4)
      have Hc2 : Hid ((stSp d (l.map ZcR.z) o).d.count ≤ (j : Int) + 1) := Lib.hid (by have := Hcj.out; omega)
      clear hI7 hm7 hO7 kp1 kp2 kp3 kp4 kp5 HN7 HN6 HX6 HI1 HO1 Hln Hcnt Hcj
      generalize (stSp d (l.map ZcR.z) o).d = d2 at *
      clear HXY
      go_wp2_with fail
      go_roundw
      case rel => exact ⟨j + 1, d2, l2, _, by omega, by go_num, HI8.out, Hln2.out, Hc1.out, by have := Hc2.out; omega⟩
      case measure => simp [intOf]; omega
    · have hjl : j = len := by omega
      have HD0 : Hid (DvAt w.heap.size wr D vz d l) := Lib.hid HIr.out.dv
      have HBr := Lib.hid HIr.out.B
      have Hcj2 : Hid (d.count ≤ 60) := Lib.hid (by have := Hcj.out; omega)
      clear hjl HIr Hcj
      go_wp2_with fail
      refine (ddown HD0.out).mono ?_
      cases hdn : d.down with
      | true =>
        rintro e w4 ⟨rfl, rfl⟩
        clear hdn
        go_wp2_with fail
        go_ret
        exact ⟨rfl, bthen' HBp.out HBr.out⟩
      | false =>
        rintro e w4 ⟨rfl, rfl⟩
        have Hdn := Lib.hid hdn
        clear hdn
        go_wp2_with fail
        go_loopw [73] (fun ci wr => ∃ (k : Nat) (d2 : DvR) (l2 : List ZcR), k ≤ n ∧ ci = .int .i64 (k : Nat) ∧ DvAt w.heap.size wr D vz d2 l2 ∧ Below w.heap.size w wr ∧ l2.length = n ∧ d2.down = false ∧ 0 ≤ d2.count ∧ d2.count ≤ 60 + 64 * (k : Int)) (fun ci _ => n - (intOf ci).toNat)
        case atStart => exact ⟨0, d, l, Nat.zero_le _, rfl, HD0.out, HBr.out, Hln.out, Hdn.out, Hcnt.out.1, by have := Hcj2.out; omega⟩
        case round =>
          obtain ⟨k, d2, l2, hk, rfl, hA2, hB2, hl2, hdn2, hc3, hc4⟩ := hrel
          have HA2 := Lib.hid hA2
          have HB2 := Lib.hid hB2
          have Hl2 := Lib.hid hl2
          have Hdn2 := Lib.hid hdn2
          have Hc3 : Hid (0 ≤ d2.count ∧ d2.count ≤ 60 + 64 * (k : Int)) := Lib.hid ⟨hc3, hc4⟩
          clear hA2 hB2 hl2 hdn2 hc3 hc4 HD0 HBr Hcj2 Hcnt Hln Hdn
          by_cases hkn : k < n
          · obtain ⟨c, hc⟩ : ∃ c, l2[k]? = some c := ⟨_, List.getElem?_eq_getElem (by have := Hl2.out; omega)⟩
            have Hc := Lib.hid hc
            have HLk0 := Lib.hid (LookI.start (zof hc))
            have Hok := Lib.hid (HA2.out.ok k c hc)
            clear hc
            go_wp2_with fail
            refine (sec7 HA2.out Hc.out).mono ?_
            rintro e w5 ⟨v, rfl, hrow, hb⟩
            have HK0 := Lib.hid (LkI.of_row HA2.out HB2.out hrow hb)
            obtain ⟨a0, cap0, rfl⟩ := own_slice hrow
            have Hss64 : Hid (∀ t ∈ c.z.ss, t.length = 64) := Lib.hid Hok.out.w64
            have Hsslt : Hid (∀ t ∈ c.z.ss, ∀ b ∈ t, b < 256) := Lib.hid Hok.out.lt
            have hm64 : c.z.ss.length ≤ 64 := by have := Hok.out.len; have := Hok.out.size.2; omega
            obtain ⟨m, ss, Hm, HK1, HLk1, hm65, Hss, Hsl⟩ : ∃ (m : Nat) (ss : List (List Nat)), Hid (ss.length = m) ∧ Hid (LkI w D vz d2 l2 (.slice a0 c.z.ss.length cap0) m ss w5) ∧ Hid (LookI (l2.map ZcR.z) k ss 0) ∧ m ≤ 64 ∧ Hid (∀ t ∈ ss, t.length = 64) ∧ Hid (∀ t ∈ ss, ∀ b ∈ t, b < 256) ∧ c.z.ss.length = m := ⟨_, c.z.ss, Lib.hid rfl, HK0, HLk0, hm64, Hss64, Hsslt, rfl⟩
            obtain ⟨Hsl, hmm⟩ := Hsl
            generalize c.z.ss.length = m' at *
            subst hmm
            clear hrow hb hm64 Hss64 Hsslt HK0 HLk0 Hok Hc HA2 HB2
            go_wp2_with fail
            go_loopw [80] (fun ci wr => ∃ (q : Nat) (d3 : DvR) (l3 : List ZcR), q ≤ m' ∧ ci = .int .i64 (q : Nat) ∧ LkI w D vz d3 l3 (.slice a0 m' cap0) m' ss wr ∧ l3.length = n ∧ d3.down = false ∧ 0 ≤ d3.count ∧ d3.count ≤ 60 + 64 * (k : Int) + (q : Int) ∧ LookI (l3.map ZcR.z) k ss q) (fun ci _ => m' - (intOf ci).toNat)
            case atStart => exact ⟨0, d2, l2, Nat.zero_le _, rfl, HK1.out, Hl2.out, Hdn2.out, Hc3.out.1, by have := Hc3.out.2; omega, HLk1.out⟩
            case round =>
              obtain ⟨q, d, l, hq, rfl, hI3, hln3, hdn3, hc3, hc4, hlk⟩ := hrel
              have HIr := Lib.hid hI3
              have Hln := Lib.hid hln3
              have Hdn := Lib.hid hdn3
              have Hcnt : Hid (0 ≤ d.count ∧ d.count ≤ 1000000) := Lib.hid ⟨hc3, by omega⟩
              have Hcj := Lib.hid hc4
              have HLk := Lib.hid hlk
              clear hI3 hln3 hdn3 hc3 hc4 hlk HK1 Hl2 Hdn2 Hc3 HLk1
              by_cases hqm : q < m'
              case neg =>
                have hqe : q = m' := by omega
                have Hc6 : Hid (0 ≤ d.count ∧ d.count ≤ 60 + 64 * (k : Int) + 64) := Lib.hid ⟨Hcnt.out.1, by have := Hcj.out; omega⟩
                clear hqe Hcj Hcnt
                go_wp2_with fail
                go_roundw
                case rel => exact ⟨k + 1, d, l, by omega, by go_num, HIr.out.dv, HIr.out.B, Hln.out, Hdn.out, Hc6.out.1, by have := Hc6.out.2; omega⟩
                case measure => simp [intOf]; omega
              obtain ⟨zs', e1, e2, hlk4, hcase⟩ := look_step p Hdn.out (oksOf HIr.out.dv) HLk.out (by have := Hm.out; omega)
              have He1 := Lib.hid e1
              have He2 := Lib.hid e2
              have Hlk4 := Lib.hid hlk4
              have Hcase := Lib.hid hcase
              clear e1 e2 hlk4 hcase HLk
              obtain ⟨g, rfl, -, -⟩ := ownK_form HIr.out.row (by omega)
              have hr := own_range HIr.out.row Hm.out Hss.out q hqm
              have Hs64 : Hid ((ss.getD q []).length = 64) := Lib.hid (getD_64 Hss.out q (by have := Hm.out; omega))
              have Hslt : Hid (∀ b ∈ ss.getD q [], b < 256) := Lib.hid (Hsl.out _ (by rw [List.getD_eq_getElem?_getD, List.getElem?_eq_getElem (by have := Hm.out; omega)]; exact List.getElem_mem _))
              generalize ss.getD q [] = s at *
              have HR := Lib.hid hr
              have hz64 := zero_secF
              clear hr
              go_upto_region 22 with (first | (refine wpl_load_mid (by rfl) 34 _ rfl g (q * 64) rfl s _ HR.out Try.underlying34 rfl (by rw [bvals_length]; exact (info_sec Hs64.out).trans (by rw [bA_size])) ?_; go_frame) | (refine wpl_store_new rfl _ _ rfl (bA s) wr 34 (bA (zeros 64)) rfl rfl rfl (info_sec Hs64.out) (by rw [bA_size, bA_size, zeros_length, Hs64.out]) (bA_one _) ?_; go_frame))
              have hbx := below_alloc wr (Obj.cells (bA s) 34)
              have HI1 := Lib.hid (HIr.out.below hbx)
              have HX1 := Lib.hid (Blk.new wr 34 (bA s))
              have HnX : Hid (¬ DvF D vz l wr.heap.size) := Lib.hid (fun hi => Nat.lt_irrefl _ (HIr.out.dv.lt hi))
              clear hbx HIr HR
              generalize wr.alloc (Obj.cells (bA s) 34) = w6 at *
              generalize wr.heap.size = bx at *
              go_wp2_with fail
              refine (dcount HI1.out.dv).mono ?_
              rintro e w7 ⟨rfl, rfl⟩
              have HPw := Lib.hid (HP.out.below HI1.out.B HP.out.lt)
              go_wp2_with (first | (refine wpl_load rfl _ rfl w0.heap.size rfl _ _ _ (HPw.out) Try.underlying34 rfl (info_sec Hp64.out) ?_; go_frame))
              refine (csp7 (k : Int) (q : Int) p Hp64.out Hplt.out HI1.out.dv).mono ?_
              rw [He1.out]
              rintro e w7 ⟨rfl, hT⟩
              obtain ⟨l4, hI4, hm4, hk4⟩ := HI1.out.to hT
              have HI4 := Lib.hid hI4
              have HX4 := Lib.hid (hk4 _ _ _ HX1.out HnX.out).1
              have HnX4 := Lib.hid (hk4 _ _ _ HX1.out HnX.out).2
              have Hln4 : Hid (l4.length = n) := Lib.hid (by have h := congrArg List.length hm4; rw [List.length_map, He2.out, List.length_map] at h; exact h.trans Hln.out)
              have Hm4 := Lib.hid hm4
              have HLk4 : Hid (LookI (l4.map ZcR.z) k ss (q + 1)) := Lib.hid (by rw [hm4]; exact Hlk4.out)
              clear hT hI4 hm4 hk4 HI1 HX1 HnX HPw Hln Hlk4 He1 He2
              go_wp2_with fail
              refine (dcount HI4.out.dv).mono ?_
              rintro e w8 ⟨rfl, rfl⟩
              go_wp2_with fail
              refine (crd7 (k : Int) (q : Int) HI4.out.dv Hcnt.out).mono ?_
              have hcase := Hcase.out
              rw [← Hm4.out] at hcase
              clear Hcase Hm4
              obtain ⟨V, hV⟩ : ∃ V, rdV7 d (l4.map ZcR.z) (k : Int) (q : Int) = V := ⟨_, rfl⟩
              rw [hV] at hcase ⊢
              clear hV
              rcases hcase with ⟨hst, hrd, hrv'⟩ | ⟨hst, hrd, hrv'⟩
              all_goals rw [hrd]; clear hrd
              · have HV64 : Hid (V.length = 64) := Lib.hid (by rw [hrv']; exact zeros_length 64)
                have HV : Hid (True) := Lib.hid trivial
                clear hrv'
                rintro e w8 ⟨rfl, hT⟩
                obtain ⟨l5, hI5, hm5, hk5⟩ := HI4.out.to hT
                have HX5 := Lib.hid (hk5 _ _ _ HX4.out HnX4.out).1
                have HI5 := Lib.hid hI5
                have Hln5 : Hid (l5.length = n) := Lib.hid (by have h := congrArg List.length hm5; rw [List.length_map, List.length_map] at h; exact h.trans Hln4.out)
                have HLk5 : Hid (LookI (l5.map ZcR.z) k ss (q + 1)) := Lib.hid (by rw [hm5]; exact HLk4.out)
                have Hst5 : Hid (stD (l5.map ZcR.z) (k : Int) = stD (l4.map ZcR.z) (k : Int)) := Lib.hid (by rw [hm5])
                have Hdn5 : Hid ((up1 d).down = false) := Lib.hid Hdn.out
                have Hc5 : Hid (0 ≤ (up1 d).count ∧ (up1 d).count ≤ 60 + 64 * (k : Int) + (q : Int) + 1) := Lib.hid ⟨by show 0 ≤ d.count + 1; have := Hcnt.out.1; omega, by show d.count + 1 ≤ _; have := Hcj.out; omega⟩
                have HC : Hid (0 ≤ d.count ∧ d.count ≤ 1000000) := Hcnt
                have HCe : Hid ((up1 d).count = d.count + 1) := Lib.hid rfl
                clear hT hI5 hm5 hk5 HI4 HX4 HnX4 Hln4 HLk4 Hcnt Hcj Hdn
                generalize d.count = C at *
                generalize up1 d = d5 at *
                go_upto_region 26 with (first | (refine wpl_store_new rfl _ _ rfl (bA V) w8 34 (bA (zeros 64)) rfl rfl rfl (info_sec HV64.out) (by rw [bA_size, bA_size, zeros_length, HV64.out]) (bA_one _) ?_; go_frame))
                have hbt := below_alloc w8 (Obj.cells (bA V) 34)
                have HT6 := Lib.hid (Blk.new w8 34 (bA V))
                have HI6 := Lib.hid (HI5.out.below hbt)
                have HX6 := Lib.hid (HX5.out.below hbt HX5.out.lt)
                clear hbt HI5 HX5 hz64
                generalize w8.alloc (Obj.cells (bA V) 34) = w8b at *
                generalize w8.heap.size = bt at *
                go_wp2_with fail
                refine (cst7 (k : Int) HI6.out.dv).mono ?_
                rw [Hst5.out]
                rintro e w9 ⟨rfl, hb⟩
                have HT9 := Lib.hid (HT6.out.below hb HT6.out.lt)
                have HX9 := Lib.hid (HX6.out.below hb HX6.out.lt)
                have HI9 := Lib.hid (HI6.out.below hb)
                have HP9 := Lib.hid (HP.out.below HI9.out.B HP.out.lt)
                clear hb HT6 HX6 HI6 Hst5
                generalize stD (l4.map ZcR.z) (k : Int) = st at *
                subst hst
                go_upto_region 27 with fail
                refine wp_region_held (S := fun w' => Below w9.heap.size w9 w') (by kernel_rfl) ?_
                change wpAnyH _ _ _ _ _ _ _ _ (World.drew _)
                have hS : Below w9.heap.size w9 w9.drew := (Below.refl _ _).drew
                refine takeH hS (i := 0) (d := 110) (v := .pointer (some ⟨D, 0, none⟩)) rfl rfl (by kernel_rfl) (by kernel_rfl) (by kernel_rfl) (fun _ _ _ h => h) (Or.inl ⟨by kernel_rfl, fun w' hw' => by kernel_rfl⟩) ?_
                refine takeH hS (i := 2) (d := 112) (v := .int .i64 (C)) rfl rfl (by kernel_rfl) (by kernel_rfl) (by kernel_rfl) (fun _ _ _ h => h) (Or.inl ⟨by kernel_rfl, fun w' hw' => by kernel_rfl⟩) ?_
                refine takeH hS (i := 3) (d := 113) (v := .int .i64 (C + 1)) rfl rfl (by kernel_rfl) (by kernel_rfl) (by kernel_rfl) (fun _ _ _ h => h) (Or.inl ⟨by kernel_rfl, fun w' hw' => by exact exec_add _ _ rfl (C) (1) (C + 1) rfl rfl (rfl) (by have := HC.out; omega)⟩) ?_
                try go_frame
                refine nextH (i := 1) rfl (by kernel_rfl) (by kernel_rfl) (fun K' hK => ?_)
                go_wp2_with fail
                refine (dcount_to HCe.out (HI9.out.dv.below hS)).mono ?_
                rintro en w9c1 ⟨rfl, he⟩
                have hb : Below w9.drew.heap.size w9.drew w9c1 := by subst he; exact Below.refl _ _
                clear he
                have hS1 : Below w9.heap.size w9 w9c1 := bel_next hS hb
                refine hK.out _ _ ⟨hS1, ?_⟩
                clear hK K' hb hS
                refine takeH hS1 (i := 4) (d := 114) (v := .bool false) rfl rfl (by kernel_rfl) (by kernel_rfl) (by kernel_rfl) (fun _ _ _ h => h) (Or.inl ⟨by kernel_rfl, fun w' hw' => by exact exec_neq _ _ rfl (C + 1) (C + 1) rfl rfl false (by simp) rfl⟩) ?_
                refine takeH hS1 (i := 5) (d := 115) (v := .bool false) rfl rfl (by kernel_rfl) (by kernel_rfl) (by kernel_rfl) (fun _ _ _ h => h) (Or.inl ⟨by kernel_rfl, fun w' hw' => by kernel_rfl⟩) ?_
                refine takeH hS1 (i := 6) (d := 116) (v := .bool true) rfl rfl (by kernel_rfl) (by kernel_rfl) (by kernel_rfl) (fun _ _ _ h => h) (Or.inl ⟨by kernel_rfl, fun w' hw' => by kernel_rfl⟩) ?_
                refine takeH hS1 (i := 7) (d := 117) (v := .int .i64 (32)) rfl rfl (by kernel_rfl) (by kernel_rfl) (by kernel_rfl) (fun _ _ _ h => h) (Or.inl ⟨by kernel_rfl, fun w' hw' => by kernel_rfl⟩) ?_
                try go_frame
                refine takeH hS1 (i := 8) (d := 118) (v := .bool true) rfl rfl (by kernel_rfl) (by kernel_rfl) (by kernel_rfl) (fun _ _ _ h => h) (Or.inl ⟨by kernel_rfl, fun w' hw' => by exact exec_eql _ _ rfl (32) (32) rfl rfl true (by simp) rfl⟩) ?_
                refine takeH hS1 (i := 9) (d := 119) (v := .bool false) rfl rfl (by kernel_rfl) (by kernel_rfl) (by kernel_rfl) (fun _ _ _ h => h) (Or.inl ⟨by kernel_rfl, fun w' hw' => by kernel_rfl⟩) ?_
                refine takeH hS1 (i := 10) (d := 120) (v := .bool false) rfl rfl (by kernel_rfl) (by kernel_rfl) (by kernel_rfl) (fun _ _ _ h => h) (Or.inl ⟨by kernel_rfl, fun w' hw' => by kernel_rfl⟩) ?_
                refine takeH hS1 (i := 11) (d := 121) (v := .bool false) rfl rfl (by kernel_rfl) (by kernel_rfl) (by kernel_rfl) (fun _ _ _ h => h) (Or.inl ⟨by kernel_rfl, fun w' hw' => by kernel_rfl⟩) ?_
                try go_frame
                refine takeH hS1 (i := 12) (d := 122) (v := .bool true) rfl rfl (by kernel_rfl) (by kernel_rfl) (by kernel_rfl) (fun _ _ _ h => h) (Or.inl ⟨by kernel_rfl, fun w' hw' => by kernel_rfl⟩) ?_
                refine takeH hS1 (i := 13) (d := 123) (v := .bool false) rfl rfl (by kernel_rfl) (by kernel_rfl) (by kernel_rfl) (fun _ _ _ h => h) (Or.inl ⟨by kernel_rfl, fun w' hw' => by kernel_rfl⟩) ?_
                refine takeH hS1 (i := 14) (d := 124) (v := .bool false) rfl rfl (by kernel_rfl) (by kernel_rfl) (by kernel_rfl) (fun _ _ _ h => h) (Or.inl ⟨by kernel_rfl, fun w' hw' => by kernel_rfl⟩) ?_
                refine takeH hS1 (i := 15) (d := 125) (v := undef) rfl rfl (by kernel_rfl) (by kernel_rfl) (by kernel_rfl) (fun _ _ _ h => h) (Or.inr ⟨by kernel_rfl, rfl⟩) ?_
                try go_frame
                refine takeH hS1 (i := 16) (d := 126) (v := undef) rfl rfl (by kernel_rfl) (by kernel_rfl) (by kernel_rfl) (fun _ _ _ h => h) (Or.inr ⟨by kernel_rfl, rfl⟩) ?_
                refine takeH hS1 (i := 17) (d := 127) (v := undef) rfl rfl (by kernel_rfl) (by kernel_rfl) (by kernel_rfl) (fun _ _ _ h => h) (Or.inr ⟨by kernel_rfl, rfl⟩) ?_
                refine takeH hS1 (i := 18) (d := 128) (v := undef) rfl rfl (by kernel_rfl) (by kernel_rfl) (by kernel_rfl) (fun _ _ _ h => h) (Or.inr ⟨by kernel_rfl, rfl⟩) ?_
                refine takeH hS1 (i := 19) (d := 129) (v := undef) rfl rfl (by kernel_rfl) (by kernel_rfl) (by kernel_rfl) (fun _ _ _ h => h) (Or.inr ⟨by kernel_rfl, rfl⟩) ?_
                try go_frame
                refine takeH hS1 (i := 20) (d := 130) (v := undef) rfl rfl (by kernel_rfl) (by kernel_rfl) (by kernel_rfl) (fun _ _ _ h => h) (Or.inr ⟨by kernel_rfl, rfl⟩) ?_
                refine takeH hS1 (i := 21) (d := 131) (v := undef) rfl rfl (by kernel_rfl) (by kernel_rfl) (by kernel_rfl) (fun _ _ _ h => h) (Or.inr ⟨by kernel_rfl, rfl⟩) ?_
                refine takeH hS1 (i := 22) (d := 132) (v := undef) rfl rfl (by kernel_rfl) (by kernel_rfl) (by kernel_rfl) (fun _ _ _ h => h) (Or.inr ⟨by kernel_rfl, rfl⟩) ?_
                refine takeH hS1 (i := 23) (d := 133) (v := undef) rfl rfl (by kernel_rfl) (by kernel_rfl) (by kernel_rfl) (fun _ _ _ h => h) (Or.inr ⟨by kernel_rfl, rfl⟩) ?_
                try go_frame
                refine takeH hS1 (i := 24) (d := 134) (v := .bool false) rfl rfl (by kernel_rfl) (by kernel_rfl) (by kernel_rfl) (fun _ _ _ h => h) (Or.inl ⟨by kernel_rfl, fun w' hw' => by kernel_rfl⟩) ?_
                refine takeH hS1 (i := 25) (d := 135) (v := .bool false) rfl rfl (by kernel_rfl) (by kernel_rfl) (by kernel_rfl) (fun _ _ _ h => h) (Or.inl ⟨by kernel_rfl, fun w' hw' => by kernel_rfl⟩) ?_
                refine wpAnyH_done (by kernel_rfl) ?_ _
                try go_frame
                have HI10 := Lib.hid (HI9.out.below hS1)
                clear hS1 HI9 HX9 HP9 HT9
                generalize w9c1 = w10 at *
                go_wp2_with fail
                go_roundw
                case rel => exact ⟨q + 1, _, l5, by omega, by go_num, HI10.out, Hln5.out, Hdn5.out, Hc5.out.1, Hc5.out.2, HLk5.out⟩
                case measure => simp [intOf]; omega
              · have HV64 : Hid (V.length = 64) := Lib.hid (by rw [hrv']; exact zx_length _ _ _)
                have HV : Hid (zx s p 64 = V) := Lib.hid hrv'.symm
                clear hrv'
                rintro e w8 ⟨rfl, hT⟩
                obtain ⟨l5, hI5, hm5, hk5⟩ := HI4.out.to hT
                have HX5 := Lib.hid (hk5 _ _ _ HX4.out HnX4.out).1
                have HI5 := Lib.hid hI5
                have Hln5 : Hid (l5.length = n) := Lib.hid (by have h := congrArg List.length hm5; rw [List.length_map, List.length_map] at h; exact h.trans Hln4.out)
                have HLk5 : Hid (LookI (l5.map ZcR.z) k ss (q + 1)) := Lib.hid (by rw [hm5]; exact HLk4.out)
                have Hst5 : Hid (stD (l5.map ZcR.z) (k : Int) = stD (l4.map ZcR.z) (k : Int)) := Lib.hid (by rw [hm5])
                have Hdn5 : Hid ((up1 d).down = false) := Lib.hid Hdn.out
                have Hc5 : Hid (0 ≤ (up1 d).count ∧ (up1 d).count ≤ 60 + 64 * (k : Int) + (q : Int) + 1) := Lib.hid ⟨by show 0 ≤ d.count + 1; have := Hcnt.out.1; omega, by show d.count + 1 ≤ _; have := Hcj.out; omega⟩
                have HC : Hid (0 ≤ d.count ∧ d.count ≤ 1000000) := Hcnt
                have HCe : Hid ((up1 d).count = d.count + 1) := Lib.hid rfl
                clear hT hI5 hm5 hk5 HI4 HX4 HnX4 Hln4 HLk4 Hcnt Hcj Hdn
                generalize d.count = C at *
                generalize up1 d = d5 at *
                go_upto_region 26 with (first | (refine wpl_store_new rfl _ _ rfl (bA V) w8 34 (bA (zeros 64)) rfl rfl rfl (info_sec HV64.out) (by rw [bA_size, bA_size, zeros_length, HV64.out]) (bA_one _) ?_; go_frame))
                have hbt := below_alloc w8 (Obj.cells (bA V) 34)
                have HT6 := Lib.hid (Blk.new w8 34 (bA V))
                have HI6 := Lib.hid (HI5.out.below hbt)
                have HX6 := Lib.hid (HX5.out.below hbt HX5.out.lt)
                clear hbt HI5 HX5 hz64
                generalize w8.alloc (Obj.cells (bA V) 34) = w8b at *
                generalize w8.heap.size = bt at *
                go_wp2_with fail
                refine (cst7 (k : Int) HI6.out.dv).mono ?_
                rw [Hst5.out]
                rintro e w9 ⟨rfl, hb⟩
                have HT9 := Lib.hid (HT6.out.below hb HT6.out.lt)
                have HX9 := Lib.hid (HX6.out.below hb HX6.out.lt)
                have HI9 := Lib.hid (HI6.out.below hb)
                have HP9 := Lib.hid (HP.out.below HI9.out.B HP.out.lt)
                clear hb HT6 HX6 HI6 Hst5
                generalize stD (l4.map ZcR.z) (k : Int) = st at *
                have hst2 := hst
                go_upto_region 27 with fail
                clear hst hst2
                refine wp_region_held (S := fun w' => Below w9.heap.size w9 w') (by kernel_rfl) ?_
                change wpAnyH _ _ _ _ _ _ _ _ (World.drew _)
                have hS : Below w9.heap.size w9 w9.drew := (Below.refl _ _).drew
                refine takeH hS (i := 0) (d := 110) (v := .pointer (some ⟨D, 0, none⟩)) rfl rfl (by kernel_rfl) (by kernel_rfl) (by kernel_rfl) (fun _ _ _ h => h) (Or.inl ⟨by kernel_rfl, fun w' hw' => by kernel_rfl⟩) ?_
                refine takeH hS (i := 2) (d := 112) (v := .int .i64 (C)) rfl rfl (by kernel_rfl) (by kernel_rfl) (by kernel_rfl) (fun _ _ _ h => h) (Or.inl ⟨by kernel_rfl, fun w' hw' => by kernel_rfl⟩) ?_
                refine takeH hS (i := 3) (d := 113) (v := .int .i64 (C + 1)) rfl rfl (by kernel_rfl) (by kernel_rfl) (by kernel_rfl) (fun _ _ _ h => h) (Or.inl ⟨by kernel_rfl, fun w' hw' => by exact exec_add _ _ rfl (C) (1) (C + 1) rfl rfl (rfl) (by have := HC.out; omega)⟩) ?_
                try go_frame
                refine nextH (i := 1) rfl (by kernel_rfl) (by kernel_rfl) (fun K' hK => ?_)
                go_wp2_with fail
                refine (dcount_to HCe.out (HI9.out.dv.below hS)).mono ?_
                rintro en w9c1 ⟨rfl, he⟩
                have hb : Below w9.drew.heap.size w9.drew w9c1 := by subst he; exact Below.refl _ _
                clear he
                have hS1 : Below w9.heap.size w9 w9c1 := bel_next hS hb
                refine hK.out _ _ ⟨hS1, ?_⟩
                clear hK K' hb hS
                refine takeH hS1 (i := 4) (d := 114) (v := .bool false) rfl rfl (by kernel_rfl) (by kernel_rfl) (by kernel_rfl) (fun _ _ _ h => h) (Or.inl ⟨by kernel_rfl, fun w' hw' => by exact exec_neq _ _ rfl (C + 1) (C + 1) rfl rfl false (by simp) rfl⟩) ?_
                refine takeH hS1 (i := 5) (d := 115) (v := .bool false) rfl rfl (by kernel_rfl) (by kernel_rfl) (by kernel_rfl) (fun _ _ _ h => h) (Or.inl ⟨by kernel_rfl, fun w' hw' => by kernel_rfl⟩) ?_
                refine takeH hS1 (i := 6) (d := 116) (v := .bool false) rfl rfl (by kernel_rfl) (by kernel_rfl) (by kernel_rfl) (fun _ _ _ h => h) (Or.inl ⟨by kernel_rfl, fun w' hw' => by kernel_rfl⟩) ?_
                refine takeH hS1 (i := 7) (d := 117) (v := .int .i64 (0)) rfl rfl (by kernel_rfl) (by kernel_rfl) (by kernel_rfl) (fun _ _ _ h => h) (Or.inl ⟨by kernel_rfl, fun w' hw' => by kernel_rfl⟩) ?_
                try go_frame
                refine takeH hS1 (i := 8) (d := 118) (v := .bool false) rfl rfl (by kernel_rfl) (by kernel_rfl) (by kernel_rfl) (fun _ _ _ h => h) (Or.inl ⟨by kernel_rfl, fun w' hw' => by exact exec_eql _ _ rfl (0) (32) rfl rfl false (by simp) rfl⟩) ?_
                refine takeH hS1 (i := 9) (d := 119) (v := .bool false) rfl rfl (by kernel_rfl) (by kernel_rfl) (by kernel_rfl) (fun _ _ _ h => h) (Or.inl ⟨by kernel_rfl, fun w' hw' => by kernel_rfl⟩) ?_
                refine takeH hS1 (i := 10) (d := 120) (v := .bool false) rfl rfl (by kernel_rfl) (by kernel_rfl) (by kernel_rfl) (fun _ _ _ h => h) (Or.inl ⟨by kernel_rfl, fun w' hw' => by kernel_rfl⟩) ?_
                refine takeH hS1 (i := 11) (d := 121) (v := .bool false) rfl rfl (by kernel_rfl) (by kernel_rfl) (by kernel_rfl) (fun _ _ _ h => h) (Or.inl ⟨by kernel_rfl, fun w' hw' => by kernel_rfl⟩) ?_
                try go_frame
                refine takeH hS1 (i := 12) (d := 122) (v := .bool false) rfl rfl (by kernel_rfl) (by kernel_rfl) (by kernel_rfl) (fun _ _ _ h => h) (Or.inl ⟨by kernel_rfl, fun w' hw' => by kernel_rfl⟩) ?_
                refine takeH hS1 (i := 13) (d := 123) (v := .bool true) rfl rfl (by kernel_rfl) (by kernel_rfl) (by kernel_rfl) (fun _ _ _ h => h) (Or.inl ⟨by kernel_rfl, fun w' hw' => by kernel_rfl⟩) ?_
                refine takeH hS1 (i := 14) (d := 124) (v := .bool true) rfl rfl (by kernel_rfl) (by kernel_rfl) (by kernel_rfl) (fun _ _ _ h => h) (Or.inl ⟨by kernel_rfl, fun w' hw' => by kernel_rfl⟩) ?_
                refine takeH hS1 (i := 15) (d := 125) (v := .int .i64 (0)) rfl rfl (by kernel_rfl) (by kernel_rfl) (by kernel_rfl) (fun _ _ _ h => h) (Or.inl ⟨by kernel_rfl, fun w' hw' => by kernel_rfl⟩) ?_
                try go_frame
                refine takeH hS1 (i := 16) (d := 126) (v := .bool false) rfl rfl (by kernel_rfl) (by kernel_rfl) (by kernel_rfl) (fun _ _ _ h => h) (Or.inl ⟨by kernel_rfl, fun w' hw' => by exact exec_neq _ _ rfl (0) (0) rfl rfl false (by simp) rfl⟩) ?_
                refine takeH hS1 (i := 17) (d := 127) (v := .bool false) rfl rfl (by kernel_rfl) (by kernel_rfl) (by kernel_rfl) (fun _ _ _ h => h) (Or.inl ⟨by kernel_rfl, fun w' hw' => by kernel_rfl⟩) ?_
                refine takeH hS1 (i := 18) (d := 128) (v := .agg (bA V)) rfl rfl (by kernel_rfl) (by kernel_rfl) (by kernel_rfl) (fun _ _ _ h => h) (Or.inl ⟨by kernel_rfl, fun w' hw' => by exact exec_load _ rfl (bt) rfl (HT9.out.below hw' HT9.out.lt) Try.underlying34 rfl (info_sec HV64.out)⟩) ?_
                refine takeH hS1 (i := 19) (d := 129) (v := .agg (bA s)) rfl rfl (by kernel_rfl) (by kernel_rfl) (by kernel_rfl) (fun _ _ _ h => h) (Or.inl ⟨by kernel_rfl, fun w' hw' => by exact exec_load _ rfl (bx) rfl (HX9.out.below hw' HX9.out.lt) Try.underlying34 rfl (info_sec Hs64.out)⟩) ?_
                try go_frame
                refine takeH hS1 (i := 20) (d := 130) (v := .agg (bA p)) rfl rfl (by kernel_rfl) (by kernel_rfl) (by kernel_rfl) (fun _ _ _ h => h) (Or.inl ⟨by kernel_rfl, fun w' hw' => by exact exec_load _ rfl (w0.heap.size) rfl (HP9.out.below hw' HP9.out.lt) Try.underlying34 rfl (info_sec Hp64.out)⟩) ?_
                try go_frame
                refine nextH (i := 21) rfl (by kernel_rfl) (by kernel_rfl) (fun K' hK => ?_)
                go_wp2_with fail
                refine (xor_to HV.out Hs64.out Hp64.out Hslt.out Hplt.out).mono ?_
                rintro en w9c2 ⟨rfl, hb⟩
                have hS2 : Below w9.heap.size w9 w9c2 := bel_next hS1 hb
                refine hK.out _ _ ⟨hS2, ?_⟩
                clear hK K' hb hS1
                refine takeH hS2 (i := 22) (d := 132) (v := .bool false) rfl rfl (by kernel_rfl) (by kernel_rfl) (by kernel_rfl) (fun _ _ _ h => h) (Or.inl ⟨by kernel_rfl, fun w' hw' => by exact exec_neq_sector tySec _ _ _ rfl V V rfl rfl HV64.out HV64.out false (by simp)⟩) ?_
                refine takeH hS2 (i := 23) (d := 133) (v := .bool false) rfl rfl (by kernel_rfl) (by kernel_rfl) (by kernel_rfl) (fun _ _ _ h => h) (Or.inl ⟨by kernel_rfl, fun w' hw' => by kernel_rfl⟩) ?_
                refine takeH hS2 (i := 24) (d := 134) (v := .bool false) rfl rfl (by kernel_rfl) (by kernel_rfl) (by kernel_rfl) (fun _ _ _ h => h) (Or.inl ⟨by kernel_rfl, fun w' hw' => by kernel_rfl⟩) ?_
                refine takeH hS2 (i := 25) (d := 135) (v := .bool false) rfl rfl (by kernel_rfl) (by kernel_rfl) (by kernel_rfl) (fun _ _ _ h => h) (Or.inl ⟨by kernel_rfl, fun w' hw' => by kernel_rfl⟩) ?_
                try go_frame
                refine wpAnyH_done (by kernel_rfl) ?_ _
                try go_frame
                have HI10 := Lib.hid (HI9.out.below hS2)
                clear hS2 HI9 HX9 HP9 HT9
                generalize w9c2 = w10 at *
                go_wp2_with fail
                go_roundw
                case rel => exact ⟨q + 1, _, l5, by omega, by go_num, HI10.out, Hln5.out, Hdn5.out, Hc5.out.1, Hc5.out.2, HLk5.out⟩
                case measure => simp [intOf]; omega
          · have hke : k = n := by omega
            clear hke
            go_wp2_with fail
            go_ret
            exact ⟨rfl, bthen' HBp.out HB2.out⟩

theorem walkDeviceLooks (zones size opn : Int) (a : Option Addr) (len cap : Nat) (f : Nat → Op7) (p : List Nat) (w0 : World) (h0 : (Lit.int .i64 zones).wf = true) (h1 : (Lit.int .i64 size).wf = true) (h2 : (Lit.int .i64 opn).wf = true) (h3 : RowOp7 w0 a len cap f) (h4 : p.length = 64) (h5 : ∀ c ∈ p, c < 256) : Calls Try.prog 7 #[.int .i64 zones, .int .i64 size, .int .i64 opn, .slice a len cap, .agg (bA p)] w0 fun e w' => e = .returned (.bool true) ∧ Below w0.heap.size w0 w' := by
  by_cases hz : 40 < zones
  · exact dlks_z zones size opn a len cap p w0 hz
  · by_cases hr : ((1 ≤ zones ∧ zones ≤ 512) ∧ (1 ≤ size ∧ size ≤ 64) ∧ 1 ≤ opn ∧ opn ≤ 64)
    · obtain ⟨⟨r1, r2⟩, ⟨r3, r4⟩, r5, r6⟩ := hr
      by_cases hl : 60 < len
      · exact dlks_l zones size opn a len cap p w0 (by omega) r1 r3 r4 r5 r6 hl
      · obtain ⟨n, rfl⟩ := Int.eq_ofNat_of_zero_le (show 0 ≤ zones by omega)
        exact dlks_t n size opn a len cap f p w0 (by omega) (by omega) r3 r4 r5 r6 h3 h4 h5 (by omega)
    · exact dlks_n zones size opn a len cap p w0 (by omega) hr

end Go.Proofs.Ytlngdndamgopeaa

