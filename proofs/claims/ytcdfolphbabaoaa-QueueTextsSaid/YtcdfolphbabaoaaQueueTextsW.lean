/-
  The walk of QueueTexts.
-/
import Derived.Test.YtcdfolphbabaoaaQueueFullW
import Derived.Test.YtcdfolphbabaoaaQueueS
namespace Go.Proofs.Ytcdfolphbabaoaa
open Go.RowKit Go.Conc
set_option linter.unusedVariables false
set_option linter.unnecessarySimpa false
set_option linter.unusedSimpArgs false

set_option maxRecDepth 100000 in
set_option maxHeartbeats 2000000 in
theorem walkQueueTexts_n (a : Option Addr) (len cap : Nat) (w : World) (h : len < 1 ∨ 60 < len) : Calls Try.prog 4 #[.slice a len cap] w fun e w' => e = .returned (.bool true) ∧ Below w.heap.size w w' := by
  rcases h with h | h
  · have d0 : decide ((len : Int) < (1 : Int)) = true := decide_eq_true (by omega)
    go_enter Try.func4, Try.ntmps4
    go_wp2_with fail
    refine (anchor9_any _).mono ?_
    rintro e w1 ⟨rfl, hb⟩
    have HB1 := Lib.hid hb
    clear hb
    go_wp2_with fail
    go_ret
    exact ⟨rfl, HB1.out⟩
  · have d0 : decide ((len : Int) < (1 : Int)) = false := decide_eq_false (by omega)
    have d1 : decide ((60 : Int) < (len : Int)) = true := decide_eq_true (by omega)
    go_enter Try.func4, Try.ntmps4
    go_wp2_with fail
    refine (anchor9_any _).mono ?_
    rintro e w1 ⟨rfl, hb⟩
    have HB1 := Lib.hid hb
    clear hb
    go_wp2_with fail
    go_ret
    exact ⟨rfl, HB1.out⟩

theorem range_map_snoc (f : Nat → ByteArray) (j : Nat) : (List.range (j + 1)).map f = (List.range j).map f ++ [f j] := by simp [List.range_succ]
theorem range_map_get (f : Nat → ByteArray) (j n : Nat) (d : ByteArray) (h : j < n) : ((List.range n).map f).getD j d = f j := by simp [List.getD, h]

set_option maxRecDepth 100000 in
set_option maxHeartbeats 4000000 in
theorem walkQueueTexts_t (a : Option Addr) (len cap : Nat) (f : Nat → ByteArray) (w : World) (hrow : RowStr w a len cap f) (h1 : 1 ≤ len) (h2 : len ≤ 60) : Calls Try.prog 4 #[.slice a len cap] w fun e w' => e = .returned (.bool true) ∧ Below w.heap.size w w' := by
  have Hrow := Lib.hid hrow
  have hcap : len ≤ cap ∧ cap ≤ 9223372036854775807 := by have := hrow.max; unfold maxLen at this; exact ⟨hrow.le, this⟩
  obtain ⟨hc1, hc2⟩ := hcap
  clear hrow
  have d0 : decide ((len : Int) < (1 : Int)) = false := decide_eq_false (by omega)
  have d1 : decide ((60 : Int) < (len : Int)) = false := decide_eq_false (by omega)
  go_enter Try.func4, Try.ntmps4
  go_wp2_with fail
  refine (anchor9_any _).mono ?_
  rintro e w1 ⟨rfl, hb⟩
  have HB1 := Lib.hid hb
  clear hb
  go_wp2_with fail
  refine (qnewS_ok len _ h1 (by omega)).mono ?_
  rintro e w2 ⟨rfl, hb2, hq2⟩
  have HB2 := Lib.hid (bthen HB1.out hb2)
  have HQ2 := Lib.hid (hq2.lo_le HB1.out.size)
  clear hb2 hq2 HB1 d0 d1
  generalize w1.heap.size + 1 = A at *
  generalize w1.heap.size = C at *
  go_wp2_with fail
  go_loopw [37] (fun i wr => ∃ (j : Nat) (qs : List (Nat × ByteArray)), j ≤ len ∧ i = .int .i64 j ∧ QAt 69 9 encS w.heap.size wr A C len qs ∧ qs.map (·.2) = (List.range j).map f ∧ Below w.heap.size w wr) (fun i _ => len - (intOf i).toNat)
  case atStart => exact ⟨0, [], Nat.zero_le _, rfl, HQ2.out, by simp, HB2.out⟩
  case round =>
    obtain ⟨j, qs, hj, rfl, hQ, hq, hB⟩ := hrel
    have HQ := Lib.hid hQ
    have Hq := Lib.hid hq
    have HB := Lib.hid hB
    have hql : qs.length = j := by
      have := congrArg List.length hq
      rw [List.length_map, List.length_map, List.length_range] at this
      omega
    clear hQ hq hB HQ2 HB2
    by_cases hlt : j < len
    · obtain ⟨b, off, rfl, hat⟩ := (Hrow.out.below HB.out).cells (by omega)
      have hc := hat j hlt
      clear hat
      have E2 := Lib.hid (range_map_snoc f j)
      generalize f j = x at *
      go_wp2_with fail
      refine (qputS_room x HQ.out (by omega)).mono ?_
      rintro e w3 ⟨rfl, p, hq3, hk3, -⟩
      have HB3 := Lib.hid (HQ.out.bel HB.out (Nat.le_refl _) hk3)
      have HQ3 := Lib.hid hq3
      clear hq3 hk3 hc
      go_wp2_with fail
      go_roundw
      case rel => exact ⟨j + 1, _, by omega, by go_num, HQ3.out, by rw [List.map_append, Hq.out, E2.out]; rfl, HB3.out⟩
      case measure => simp [intOf]; omega
    · obtain rfl : j = len := by omega
      go_wp2_with fail
      refine (qputS_full ⟨#[]⟩ HQ.out hql).mono ?_
      rintro e w3 ⟨rfl, hb3⟩
      have HB3 := Lib.hid (bthen HB.out hb3)
      have HQ3 := Lib.hid (HQ.out.below hb3)
      clear hb3 HQ HB
      go_wp2_with fail
      go_loopw [51] (fun i wr => ∃ (k : Nat) (qs : List (Nat × ByteArray)), k ≤ j ∧ i = .int .i64 k ∧ QAt 69 9 encS w.heap.size wr A C j qs ∧ qs.map (·.2) = (((List.range j).map f).take j).drop k ∧ Below w.heap.size w wr) (fun i _ => j - (intOf i).toNat)
      case atStart => exact ⟨0, _, Nat.zero_le _, rfl, HQ3.out, by rw [List.drop_zero, List.take_of_length_le (by simp)]; exact Hq.out, HB3.out⟩
      case round =>
        obtain ⟨k, qs', hk, rfl, hQ, hq, hB⟩ := hrel
        have HB' := Lib.hid hB
        clear HQ3 HB3 hB Hq
        by_cases hlt2 : k < j
        · obtain ⟨x, tl, rfl, hx, htl⟩ := drop_cons_int ⟨#[]⟩ hq hlt2 (by simp)
          have HQ := Lib.hid hQ
          have Htl := Lib.hid htl
          rw [range_map_get f k j _ hlt2] at hx
          obtain ⟨b, off, rfl, hat⟩ := (Hrow.out.below HB'.out).cells (by omega)
          have hc := hat k hlt2
          clear hat hQ hq htl
          rw [← hx] at hc
          clear hx
          go_wp2_with fail
          refine (qtakeS_some HQ.out).mono ?_
          rintro e w4 ⟨rfl, hq3, hk3⟩
          have HB4 := Lib.hid (HQ.out.bel HB'.out (Nat.le_refl _) hk3)
          have HQ4 := Lib.hid hq3
          clear hq3 hk3 hc
          go_wp2_with fail
          go_roundw
          case rel => exact ⟨k + 1, _, by omega, by go_num, HQ4.out, Htl.out, HB4.out⟩
          case measure => simp [intOf]; omega
        · obtain rfl : k = j := by omega
          have hnil : qs' = [] := by
            rw [List.drop_of_length_le (by rw [List.length_take]; omega)] at hq
            exact List.map_eq_nil_iff.1 hq
          subst hnil
          have HQ := Lib.hid hQ
          clear hQ hq
          go_wp2_with fail
          refine (qtakeS_none HQ.out).mono ?_
          rintro e w4 ⟨rfl, rfl⟩
          go_wp2_with fail
          go_ret
          exact ⟨rfl, HB'.out⟩

theorem walkQueueTexts (a : Option Addr) (len cap : Nat) (f : Nat → ByteArray) (w : World) (h1 : RowStr w a len cap f) : Calls Try.prog 4 #[.slice a len cap] w fun e w' => e = .returned (.bool true) ∧ Below w.heap.size w w' := by
  by_cases h : len < 1 ∨ 60 < len
  · exact walkQueueTexts_n a len cap w h
  · exact walkQueueTexts_t a len cap f w h1 (by omega) (by omega)

end Go.Proofs.Ytcdfolphbabaoaa
