/-
  The walk of CodecReads.
-/
import Derived.Test.YtamenbchebfplaaCodecD
namespace Go.Proofs.Ytamenbchebfplaa
open Go.RowKit CrcM
set_option linter.unusedVariables false
set_option linter.unnecessarySimpa false
set_option linter.unusedSimpArgs false

/-- What the reader is after some widths: wrong, or as far as p. -/
def Being (bs : List Nat) (len r p : Nat) (bad : Bool) (w : World) : Prop := (bad = true ∧ RdBad w r) ∨ (bad = false ∧ ∃ a cap, RdA w r a (len - p) cap (bs.drop p))

set_option maxHeartbeats 400000 in
theorem walkReads_out (a : Option Addr) (la ca : Nat) (b : Option Addr) (lb cb : Nat) (w : World) (ma : la ≤ 9223372036854775807) (mb : lb ≤ 9223372036854775807) (ho : 200 < la ∨ 100 < lb) :
    Calls Try.prog 4 #[.slice a la ca, .slice b lb cb] w fun e w' => e = .returned (.bool true) ∧ Below w.heap.size w w' := by
  by_cases h0 : 200 < la
  · have d0 : decide ((200 : Int) < (la : Int)) = true := decide_eq_true (by omega)
    go_enter Try.func4, Try.ntmps4
    go_wp2_with fail
    refine (anchor2_any _).mono ?_
    rintro e w1 ⟨rfl, hb1⟩
    go_wp2_with fail
    go_ret
    exact ⟨rfl, hb1⟩
  · have d0 : decide ((200 : Int) < (la : Int)) = false := decide_eq_false (by omega)
    have d1 : decide ((100 : Int) < (lb : Int)) = true := decide_eq_true (by omega)
    go_enter Try.func4, Try.ntmps4
    go_wp2_with fail
    refine (anchor2_any _).mono ?_
    rintro e w1 ⟨rfl, hb1⟩
    go_wp2_with fail
    go_ret
    exact ⟨rfl, hb1⟩

set_option maxRecDepth 100000 in
set_option maxHeartbeats 8000000 in
theorem walkReads_in (a : Option Addr) (la ca : Nat) (bs : List Nat) (b : Option Addr) (lb cb : Nat) (zs : List Int) (w : World) (ha : RowB w a la ca bs) (hb : RowZ w b lb cb zs) (h1 : la ≤ 200) (h2 : lb ≤ 100) :
    Calls Try.prog 4 #[.slice a la ca, .slice b lb cb] w fun e w' => e = .returned (.bool true) ∧ Below w.heap.size w w' := by
  have Ha := Lib.hid ha
  have Hb := Lib.hid hb
  have Hl := Lib.hid ha.length
  have Hlt := Lib.hid ha.lt
  have hcb := hb.max
  unfold maxLen at hcb
  have hlb := hb.le
  clear ha hb
  go_enter Try.func4, Try.ntmps4
  go_wp2_with fail
  refine (anchor2_any _).mono ?_
  rintro e w1 ⟨rfl, hb1⟩
  go_wp2_with fail
  refine (newRd_any _ _ _ _ _ (Ha.out.below hb1) (by omega)).mono ?_
  rintro e w2 ⟨r, g, rfl, hr, hg, hn, hR, hG, hB⟩
  rw [Hl.out] at hR
  have hz1 := hb1.size
  have hb2 := bthen hb1 hB
  have hbe : Being bs la r 0 false w2 := .inr ⟨rfl, _, _, ⟨by simpa using hR, by simpa using row_of_blk hG Hlt.out la Hl.out (by omega), fun ad e => by cases e; exact hn⟩⟩
  have HBe := Lib.hid hbe
  have Hb2 := Lib.hid hb2
  clear hR hG hB hbe hb2 hb1
  go_wp2_with fail
  go_loopw [6, 7, 27] (fun p d i wr => ∃ (k q : Nat) (bad : Bool), k ≤ lb ∧ q ≤ la ∧ i = .int .i64 k ∧ p = .int .i64 q ∧ d = .bool bad ∧ Being bs la r q bad wr ∧ Below w.heap.size w wr) (fun _ _ i _ => lb - (intOf i).toNat)
  case atStart => exact ⟨0, 0, false, Nat.zero_le _, Nat.zero_le _, rfl, rfl, rfl, HBe.out, Hb2.out⟩
  case round =>
    obtain ⟨k, q, bad, hk, hq, rfl, rfl, rfl, hbe, hbw⟩ := hrel
    have Hbe := Lib.hid hbe
    have Hbw := Lib.hid hbw
    clear hbe hbw HBe Hb2
    by_cases hlt : k < lb
    · obtain ⟨bb, off, rfl, hc⟩ := (Hb.out.below Hbw.out).cells (by omega)
      have hck := hc k hlt
      have hbd := Hb.out.bounds k
      generalize zs.getD k 0 = z at *
      obtain ⟨hbd1, hbd2⟩ := hbd
      clear hc
      rcases Nat.mod_two_eq_zero_or_one k with hp | hp
      · have e1 : ((k : Int) % 2 == 1) = false := by rw [beq_eq_false_iff_ne]; omega
        have e0 : ((k : Int) % 2 == 0) = true := by rw [beq_iff_eq]; omega
        clear hp
        have hbads : Hid (∀ W, RdBad W r → Calls Try.prog 17 #[.pointer (some ⟨r, 0, none⟩), .int .i64 z] W (RdSpoilt (.int .i64 0) r W)) := Lib.hid (fun W h => rdNum_bad r z W h)
        rcases Hbe.out with ⟨rfl, hbad⟩ | ⟨rfl, ra, rc, hA⟩
        · have C := Lib.hid (rdNum_bad r z wr hbad)
          clear hbad Hbe
          go_wp2_with fail
          refine C.out.mono ?_
          rintro e w3 ⟨rfl, hR3, hK3⟩
          have C2 := Lib.hid (rest_any r none 0 0 true w3 hR3)
          have HR3 := Lib.hid hR3
          have Hb3 := Lib.hid (bkept Hbw.out (Nat.le_refl _) hK3 (fun i hi h => by omega))
          clear hR3 hK3 C
          go_wp2_with fail
          refine C2.out.mono ?_
          rintro e w4 ⟨rfl, rfl⟩
          clear C2
          go_wp2_with fail
          go_roundw
          case rel => exact ⟨k + 1, q, true, by omega, hq, by go_num, rfl, rfl, .inl ⟨rfl, HR3.out⟩, Hb3.out⟩
          case measure => simp [intOf]; omega
        · have HA := Lib.hid hA
          clear hA Hbe
          by_cases hw : z < 1 ∨ 7 < z ∨ (la : Int) - (q : Int) < z
          · have C := Lib.hid (rdNum_wrong r ra (la - q) rc false z wr HA.out.1 (by omega))
            have hcase : decide (z < 0) = true ∨ (decide (z < 0) = false ∧ decide ((la : Int) - (q : Int) < z) = true) ∨ (decide (z < 0) = false ∧ decide ((la : Int) - (q : Int) < z) = false ∧ decide (z < 1) = true) ∨ (decide (z < 0) = false ∧ decide ((la : Int) - (q : Int) < z) = false ∧ decide (z < 1) = false ∧ decide ((7 : Int) < z) = true) := by
              simp only [decide_eq_true_iff, decide_eq_false_iff_not]; omega
            rcases hcase with d1 | ⟨d1, d2⟩ | ⟨d1, d2, d3⟩ | ⟨d1, d2, d3, d4⟩
            all_goals
              clear hw hbads
              go_wp2_with fail
              refine C.out.mono ?_
              rintro e w3 ⟨rfl, hR3, hK3⟩
              have C2 := Lib.hid (rest_any r none 0 0 true w3 hR3)
              have HR3 := Lib.hid hR3
              have Hb3 := Lib.hid (bkept Hbw.out (Nat.le_refl _) hK3 (fun i hi h => by omega))
              clear hR3 hK3 C
              go_wp2_with fail
              refine C2.out.mono ?_
              rintro e w4 ⟨rfl, rfl⟩
              clear C2
              go_wp2_with fail
              go_roundw
              case rel => exact ⟨k + 1, q, true, by omega, hq, by go_num, rfl, rfl, .inl ⟨rfl, HR3.out⟩, Hb3.out⟩
              case measure => simp [intOf]; omega
          · obtain ⟨n, rfl⟩ : ∃ n : Nat, z = n := ⟨z.toNat, by omega⟩
            have d1 : decide ((n : Int) < 0) = false := decide_eq_false (by omega)
            have d2 : decide ((la : Int) - (q : Int) < (n : Int)) = false := decide_eq_false (by omega)
            have d3 : decide ((n : Int) < 1) = false := decide_eq_false (by omega)
            have d4 : decide ((7 : Int) < (n : Int)) = false := decide_eq_false (by omega)
            have hn1 : 1 ≤ n := by omega
            have hn7 : n ≤ 7 := by omega
            have hnl : q + n ≤ la := by omega
            clear hw hbads
            have C := Lib.hid (rdNum_ok r ra (la - q) rc (bs.drop q) n wr HA.out hn1 hn7 (by omega))
            have hcap := Ha.out.le
            have s1 := fun w => run_sliceAt_mid w a la ca q (q + n) (by omega) (by omega) Ha.out.max
            have s2 := fun w => run_slice_mid w a la ca q (q + n) (by omega) (by omega) Ha.out.max
            rw [show ((q + n : Nat) : Int) = (q : Int) + (n : Int) by omega, Nat.add_sub_cancel_left] at s1 s2
            go_wp2_with fail
            refine C.out.mono ?_
            rintro e w3 ⟨rfl, hA3, hK3⟩
            have hb3 := bkept Hbw.out (Nat.le_refl _) hK3 (fun i hi h => by omega)
            have C2 := Lib.hid (rread_any _ n (ca - q) _ w3 (((Ha.out.below hb3).from q hq).to n (by omega)) hn7)
            have C3 := Lib.hid (rest_any r _ _ _ false w3 hA3.1)
            rw [show ((la - q - n : Nat) : Int) = (la : Int) - ((q : Int) + (n : Int)) by omega] at C3
            have HA3 := Lib.hid hA3
            have Hb3 := Lib.hid hb3
            generalize num ((bs.drop q).take n) = y at *
            clear hA3 hK3 hb3 C HA
            go_wp2_with fail
            refine C2.out.mono ?_
            rintro e w4 ⟨rfl, rfl⟩
            clear C2
            go_wp2_with fail
            refine C3.out.mono ?_
            rintro e w4 ⟨rfl, rfl⟩
            clear C3 s1 s2
            go_wp2_with fail
            go_roundw
            case rel => exact ⟨k + 1, q + n, false, by omega, by omega, by go_num, by go_num, rfl, .inr ⟨rfl, _, _, by rw [← Nat.sub_sub, ← List.drop_drop]; exact HA3.out⟩, Hb3.out⟩
            case measure => simp [intOf]; omega
      · have e1 : ((k : Int) % 2 == 1) = true := by rw [beq_iff_eq]; omega
        have e0 : ((k : Int) % 2 == 0) = false := by rw [beq_eq_false_iff_ne]; omega
        clear hp
        by_cases hz : 7 < z
        · have dz : decide ((7 : Int) < z) = true := decide_eq_true hz
          rcases Hbe.out with ⟨rfl, hbad⟩ | ⟨rfl, ra, rc, hA⟩
          · have C := Lib.hid (rdBytes_bad r 8 wr hbad)
            clear hbad Hbe
            go_wp2_with fail
            refine C.out.mono ?_
            rintro e w3 ⟨rfl, hR3, hK3⟩
            have C2 := Lib.hid (rest_any r none 0 0 true w3 hR3)
            have HR3 := Lib.hid hR3
            have Hb3 := Lib.hid (bkept Hbw.out (Nat.le_refl _) hK3 (fun i hi h => by omega))
            clear hR3 hK3 C
            go_wp2_with fail
            refine C2.out.mono ?_
            rintro e w4 ⟨rfl, rfl⟩
            clear C2
            go_wp2_with fail
            go_roundw
            case rel => exact ⟨k + 1, q, true, by omega, hq, by go_num, rfl, rfl, .inl ⟨rfl, HR3.out⟩, Hb3.out⟩
            case measure => simp [intOf]; omega
          · have HA := Lib.hid hA
            clear hA Hbe
            by_cases hw : 8 < 0 ∨ (la : Int) - (q : Int) < 8
            · have C := Lib.hid (rdBytes_wrong r ra (la - q) rc false 8 wr HA.out.1 (by omega))
              have d2 : decide ((la : Int) - (q : Int) < 8) = true := decide_eq_true (by omega)
              skip
              clear hw
              go_wp2_with fail
              refine C.out.mono ?_
              rintro e w3 ⟨rfl, hR3, hK3⟩
              have C2 := Lib.hid (rest_any r none 0 0 true w3 hR3)
              have HR3 := Lib.hid hR3
              have Hb3 := Lib.hid (bkept Hbw.out (Nat.le_refl _) hK3 (fun i hi h => by omega))
              clear hR3 hK3 C
              go_wp2_with fail
              refine C2.out.mono ?_
              rintro e w4 ⟨rfl, rfl⟩
              clear C2
              go_wp2_with fail
              go_roundw
              case rel => exact ⟨k + 1, q, true, by omega, hq, by go_num, rfl, rfl, .inl ⟨rfl, HR3.out⟩, Hb3.out⟩
              case measure => simp [intOf]; omega
            · have d1 : decide (8 < 0) = false := decide_eq_false (by omega)
              have d2 : decide ((la : Int) - (q : Int) < 8) = false := decide_eq_false (by omega)
              have hnl : q + 8 ≤ la := by omega
              clear hw
              have C := Lib.hid (rdBytes_okI 8 r ra (la - q) rc (bs.drop q) 8 (by omega) wr HA.out (by omega))
              have hcap := Ha.out.le
              have s1 := fun w => run_sliceAt_mid w a la ca q (q + 8) (by omega) (by omega) Ha.out.max
              have s2 := fun w => run_slice_mid w a la ca q (q + 8) (by omega) (by omega) Ha.out.max
              rw [show ((q + 8 : Nat) : Int) = (q : Int) + 8 by omega, Nat.add_sub_cancel_left] at s1 s2
              go_wp2_with fail
              refine C.out.mono ?_
              rintro e w3 ⟨rfl, hA3, hR3, hK3⟩
              have hb3 := bkept Hbw.out (Nat.le_refl _) hK3 (fun i hi h => by omega)
              have C2 := Lib.hid (same_any _ _ _ _ _ _ _ _ w3 hR3 (((Ha.out.below hb3).from q hq).to 8 (by omega)))
              rw [decide_eq_true rfl] at C2
              have HA3 := Lib.hid hA3
              have Hb3 := Lib.hid hb3
              clear hA3 hR3 hK3 hb3 C HA
              go_wp2_with fail
              refine C2.out.mono ?_
              rintro e w4 ⟨rfl, qn, rfl⟩
              clear C2
              have C3 := Lib.hid (rest_any r _ _ _ false (w3.drewN qn) (HA3.out.1.drewN qn))
              rw [show ((la - q - 8 : Nat) : Int) = (la : Int) - ((q : Int) + 8) by omega] at C3
              have HA4 := Lib.hid (HA3.out.keptD (Kept.refl _ w3 |>.drewN qn))
              have Hb4 := Lib.hid (below_drewN Hb3.out qn)
              clear HA3 Hb3
              go_wp2_with fail
              refine C3.out.mono ?_
              rintro e w4 ⟨rfl, rfl⟩
              clear C3 s1 s2
              go_wp2_with fail
              go_roundw
              case rel => exact ⟨k + 1, q + 8, false, by omega, by omega, by go_num, by go_num, rfl, .inr ⟨rfl, _, _, by rw [← Nat.sub_sub, ← List.drop_drop]; exact HA4.out⟩, Hb4.out⟩
              case measure => simp [intOf]; omega
        · have dz : decide ((7 : Int) < z) = false := decide_eq_false hz
          rcases Hbe.out with ⟨rfl, hbad⟩ | ⟨rfl, ra, rc, hA⟩
          · have C := Lib.hid (rdBytes_bad r z wr hbad)
            clear hbad Hbe
            go_wp2_with fail
            refine C.out.mono ?_
            rintro e w3 ⟨rfl, hR3, hK3⟩
            have C2 := Lib.hid (rest_any r none 0 0 true w3 hR3)
            have HR3 := Lib.hid hR3
            have Hb3 := Lib.hid (bkept Hbw.out (Nat.le_refl _) hK3 (fun i hi h => by omega))
            clear hR3 hK3 C
            go_wp2_with fail
            refine C2.out.mono ?_
            rintro e w4 ⟨rfl, rfl⟩
            clear C2
            go_wp2_with fail
            go_roundw
            case rel => exact ⟨k + 1, q, true, by omega, hq, by go_num, rfl, rfl, .inl ⟨rfl, HR3.out⟩, Hb3.out⟩
            case measure => simp [intOf]; omega
          · have HA := Lib.hid hA
            clear hA Hbe
            by_cases hw : z < 0 ∨ (la : Int) - (q : Int) < z
            · have C := Lib.hid (rdBytes_wrong r ra (la - q) rc false z wr HA.out.1 (by omega))
              have hcase : decide (z < 0) = true ∨ (decide (z < 0) = false ∧ decide ((la : Int) - (q : Int) < z) = true) := by
                simp only [decide_eq_true_iff, decide_eq_false_iff_not]; omega
              rcases hcase with d1 | ⟨d1, d2⟩
              all_goals
                clear hw
                go_wp2_with fail
                refine C.out.mono ?_
                rintro e w3 ⟨rfl, hR3, hK3⟩
                have C2 := Lib.hid (rest_any r none 0 0 true w3 hR3)
                have HR3 := Lib.hid hR3
                have Hb3 := Lib.hid (bkept Hbw.out (Nat.le_refl _) hK3 (fun i hi h => by omega))
                clear hR3 hK3 C
                go_wp2_with fail
                refine C2.out.mono ?_
                rintro e w4 ⟨rfl, rfl⟩
                clear C2
                go_wp2_with fail
                go_roundw
                case rel => exact ⟨k + 1, q, true, by omega, hq, by go_num, rfl, rfl, .inl ⟨rfl, HR3.out⟩, Hb3.out⟩
                case measure => simp [intOf]; omega
            · obtain ⟨n, rfl⟩ : ∃ n : Nat, z = n := ⟨z.toNat, by omega⟩
              have d1 : decide ((n : Int) < 0) = false := decide_eq_false (by omega)
              have d2 : decide ((la : Int) - (q : Int) < (n : Int)) = false := decide_eq_false (by omega)
              have hnl : q + n ≤ la := by omega
              clear hw
              have C := Lib.hid (rdBytes_okI (n : Int) r ra (la - q) rc (bs.drop q) n (by omega) wr HA.out (by omega))
              have hcap := Ha.out.le
              have s1 := fun w => run_sliceAt_mid w a la ca q (q + n) (by omega) (by omega) Ha.out.max
              have s2 := fun w => run_slice_mid w a la ca q (q + n) (by omega) (by omega) Ha.out.max
              rw [show ((q + n : Nat) : Int) = (q : Int) + (n : Int) by omega, Nat.add_sub_cancel_left] at s1 s2
              go_wp2_with fail
              refine C.out.mono ?_
              rintro e w3 ⟨rfl, hA3, hR3, hK3⟩
              have hb3 := bkept Hbw.out (Nat.le_refl _) hK3 (fun i hi h => by omega)
              have C2 := Lib.hid (same_any _ _ _ _ _ _ _ _ w3 hR3 (((Ha.out.below hb3).from q hq).to n (by omega)))
              rw [decide_eq_true rfl] at C2
              have HA3 := Lib.hid hA3
              have Hb3 := Lib.hid hb3
              clear hA3 hR3 hK3 hb3 C HA
              go_wp2_with fail
              refine C2.out.mono ?_
              rintro e w4 ⟨rfl, qn, rfl⟩
              clear C2
              have C3 := Lib.hid (rest_any r _ _ _ false (w3.drewN qn) (HA3.out.1.drewN qn))
              rw [show ((la - q - n : Nat) : Int) = (la : Int) - ((q : Int) + (n : Int)) by omega] at C3
              have HA4 := Lib.hid (HA3.out.keptD (Kept.refl _ w3 |>.drewN qn))
              have Hb4 := Lib.hid (below_drewN Hb3.out qn)
              clear HA3 Hb3
              go_wp2_with fail
              refine C3.out.mono ?_
              rintro e w4 ⟨rfl, rfl⟩
              clear C3 s1 s2
              go_wp2_with fail
              go_roundw
              case rel => exact ⟨k + 1, q + n, false, by omega, by omega, by go_num, by go_num, rfl, .inr ⟨rfl, _, _, by rw [← Nat.sub_sub, ← List.drop_drop]; exact HA4.out⟩, Hb4.out⟩
              case measure => simp [intOf]; omega
    · obtain rfl : k = lb := by omega
      rcases Hbe.out with ⟨rfl, hbad⟩ | ⟨rfl, ra, rc, hA⟩
      · have C := Lib.hid (done_any r none 0 0 true wr hbad)
        rw [doneN_bad] at C
        clear hbad Hbe
        go_wp2_with fail
        refine C.out.mono ?_
        rintro e w3 ⟨rfl, rfl⟩
        go_wp2_with fail
        go_ret
        exact ⟨rfl, Hbw.out⟩
      · have C := Lib.hid (done_any r _ _ _ false wr hA.1)
        clear hA Hbe
        by_cases he : q = la
        · have d5 : ((q : Int) == (la : Int)) = true := by rw [beq_iff_eq]; omega
          rw [show la - q = 0 by omega, doneN_ok] at C
          clear he
          go_wp2_with fail
          refine C.out.mono ?_
          rintro e w3 ⟨rfl, rfl⟩
          go_wp2_with fail
          go_ret
          exact ⟨rfl, Hbw.out⟩
        · have d5 : ((q : Int) == (la : Int)) = false := by rw [beq_eq_false_iff_ne]; omega
          rw [doneN_left false (la - q) (by omega)] at C
          clear he
          go_wp2_with fail
          refine C.out.mono ?_
          rintro e w3 ⟨rfl, rfl⟩
          go_wp2_with fail
          go_ret
          exact ⟨rfl, Hbw.out⟩

theorem walkCodecReads (a : Option Addr) (la ca : Nat) (bs : List Nat) (b : Option Addr) (lb cb : Nat) (zs : List Int) (w : World) (ha : RowB w a la ca bs) (hb : RowZ w b lb cb zs) :
    Calls Try.prog 4 #[.slice a la ca, .slice b lb cb] w fun e w' => e = .returned (.bool true) ∧ Below w.heap.size w w' := by
  have m1 := ha.max
  have m2 := ha.le
  have m3 := hb.max
  have m4 := hb.le
  unfold maxLen at m1 m3
  by_cases ho : 200 < la ∨ 100 < lb
  · exact walkReads_out a la ca b lb cb w (by omega) (by omega) ho
  · exact walkReads_in a la ca bs b lb cb zs w ha hb (by omega) (by omega)

end Go.Proofs.Ytamenbchebfplaa
