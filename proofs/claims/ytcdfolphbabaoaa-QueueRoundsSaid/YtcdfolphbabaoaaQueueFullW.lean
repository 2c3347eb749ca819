/-
  The walk of QueueFull.
-/
import Derived.Test.YtcdfolphbabaoaaQueueD
namespace Go.Proofs.Ytcdfolphbabaoaa
open Go.RowKit Go.Conc
set_option linter.unusedVariables false
set_option linter.unnecessarySimpa false
set_option linter.unusedSimpArgs false

theorem take_min_snoc (zs : List Int) (j R : Nat) (h : j < zs.length) (hR : j < R) : zs.take (min (j + 1) R) = zs.take (min j R) ++ [zs.getD j 0] := by
  rw [show min (j + 1) R = j + 1 by omega, show min j R = j by omega]
  exact take_snoc_int zs j h
theorem drop_cons_int {β : Type} {qs : List (Nat × β)} {zs : List β} {m k : Nat} (d : β) (h : qs.map (·.2) = (zs.take m).drop k) (hk : k < m) (hm : m ≤ zs.length) : ∃ x tl, qs = x :: tl ∧ x.2 = zs.getD k d ∧ tl.map (·.2) = (zs.take m).drop (k + 1) := by
  have hl : k < (zs.take m).length := by rw [List.length_take]; omega
  rw [List.drop_eq_getElem_cons hl] at h
  cases qs with
  | nil => simp at h
  | cons x tl =>
    simp only [List.map_cons, List.cons.injEq] at h
    refine ⟨x, tl, rfl, ?_, h.2⟩
    rw [h.1]
    simp [List.getD, List.getElem?_eq_getElem (show k < zs.length by omega)]

set_option maxRecDepth 100000 in
set_option maxHeartbeats 2000000 in
theorem walkQueueFull_n (room : Int) (a : Option Addr) (len cap : Nat) (w : World) (h : room < 1 ∨ 4096 < room) : Calls Try.prog 6 #[.int .i64 room, .slice a len cap] w fun e w' => e = .returned (.bool true) ∧ Below w.heap.size w w' := by
  go_enter Try.func6, Try.ntmps6
  go_wp2_with fail
  refine (anchor9_any _).mono ?_
  rintro e w1 ⟨rfl, hb⟩
  have HB1 := Lib.hid hb
  clear hb
  go_wp2_with fail
  refine (qnewI_no room _ h).mono ?_
  rintro e w2 ⟨rfl, rfl⟩
  go_wp2_with fail
  go_ret
  exact ⟨rfl, HB1.out⟩

set_option maxRecDepth 100000 in
set_option maxHeartbeats 2000000 in
theorem walkQueueFull_l (R : Nat) (a : Option Addr) (len cap : Nat) (w : World) (h1 : 1 ≤ R) (h2 : R ≤ 4096) (hl : 200 < len) : Calls Try.prog 6 #[.int .i64 (R : Nat), .slice a len cap] w fun e w' => e = .returned (.bool true) ∧ Below w.heap.size w w' := by
  have dl : decide ((200 : Int) < (len : Int)) = true := decide_eq_true (by omega)
  go_enter Try.func6, Try.ntmps6
  go_wp2_with fail
  refine (anchor9_any _).mono ?_
  rintro e w1 ⟨rfl, hb⟩
  have HB1 := Lib.hid hb
  clear hb
  go_wp2_with fail
  refine (qnewI_ok R _ h1 h2).mono ?_
  rintro e w2 ⟨rfl, hb2, hq2⟩
  have HB2 := Lib.hid (bthen HB1.out hb2)
  have HQ2 := Lib.hid (hq2.lo_le HB1.out.size)
  clear hb2 hq2
  go_wp2_with fail
  go_ret
  exact ⟨rfl, HB2.out⟩

set_option maxRecDepth 100000 in
set_option maxHeartbeats 4000000 in
theorem walkQueueFull_t (R : Nat) (a : Option Addr) (len cap : Nat) (zs : List Int) (w : World) (h1 : 1 ≤ R) (h2 : R ≤ 4096) (hrow : RowZ w a len cap zs) (hl : len ≤ 200) : Calls Try.prog 6 #[.int .i64 (R : Nat), .slice a len cap] w fun e w' => e = .returned (.bool true) ∧ Below w.heap.size w w' := by
  have Hrow := Lib.hid hrow
  have hcap : len ≤ cap ∧ cap ≤ 9223372036854775807 := by have := hrow.max; unfold maxLen at this; exact ⟨hrow.le, this⟩
  obtain ⟨hc1, hc2⟩ := hcap
  have hzl := hrow.length
  have Hzl := Lib.hid hzl
  clear hrow
  go_enter Try.func6, Try.ntmps6
  go_wp2_with fail
  refine (anchor9_any _).mono ?_
  rintro e w1 ⟨rfl, hb⟩
  have HB1 := Lib.hid hb
  clear hb
  go_wp2_with fail
  refine (qnewI_ok R _ h1 h2).mono ?_
  rintro e w2 ⟨rfl, hb2, hq2⟩
  have HB2 := Lib.hid (bthen HB1.out hb2)
  have HQ2 := Lib.hid (hq2.lo_le HB1.out.size)
  clear hb2 hq2
  have dl : decide ((200 : Int) < (len : Int)) = false := decide_eq_false (by omega)
  go_upto_region 6 with fail
  clear dl HB1
  generalize w1.heap.size + 1 = A at *
  generalize w1.heap.size = C at *
  go_wp2_with fail
  go_loopw [33] (fun i wr => ∃ (j : Nat) (qs : List (Nat × Int)), j ≤ len ∧ i = .int .i64 j ∧ QAt 59 3 encI w.heap.size wr A C R qs ∧ qs.map (·.2) = zs.take (min j R) ∧ Below w.heap.size w wr) (fun i _ => len - (intOf i).toNat)
  case atStart => exact ⟨0, [], Nat.zero_le _, rfl, HQ2.out, by simp, HB2.out⟩
  case round =>
    obtain ⟨j, qs, hj, rfl, hQ, hq, hB⟩ := hrel
    have HQ := Lib.hid hQ
    have Hq := Lib.hid hq
    have HB := Lib.hid hB
    have hql : qs.length = min j R := by
      have := congrArg List.length hq
      rw [List.length_map, List.length_take] at this
      omega
    clear hQ hq hB HQ2 HB2
    by_cases hlt : j < len
    · obtain ⟨b, off, rfl, hat⟩ := (Hrow.out.below HB.out).cells (by omega)
      have hc := hat j hlt
      clear hat
      by_cases hjR : j < R
      · have e2 := take_min_snoc zs j R (by omega) hjR
        have E2 := Lib.hid e2
        have hjr : (j : Int) < (R : Int) := by omega
        have djr : decide ((j : Int) < (R : Int)) = true := decide_eq_true hjr
        clear e2
        generalize zs.getD j 0 = x at *
        go_wp2_with fail
        refine (qputI_room x HQ.out (by omega)).mono ?_
        rintro e w3 ⟨rfl, p, hq3, hk3, -⟩
        have HB3 := Lib.hid (HQ.out.bel HB.out (Nat.le_refl _) hk3)
        have HQ3 := Lib.hid hq3
        clear hq3 hk3 hc
        go_wp2_with fail
        go_roundw
        case rel => exact ⟨j + 1, _, by omega, by go_num, HQ3.out, by rw [List.map_append, Hq.out, E2.out]; rfl, HB3.out⟩
        case measure => simp [intOf]; omega
      · have hjr : ¬ (j : Int) < (R : Int) := by omega
        have djr : decide ((j : Int) < (R : Int)) = false := decide_eq_false hjr
        generalize zs.getD j 0 = x at *
        go_wp2_with fail
        refine (qputI_full x HQ.out (by omega)).mono ?_
        rintro e w3 ⟨rfl, hb3⟩
        have HB3 := Lib.hid (bthen HB.out hb3)
        have HQ3 := Lib.hid (HQ.out.below hb3)
        clear hb3 hc
        go_wp2_with fail
        go_roundw
        case rel => exact ⟨j + 1, _, by omega, by go_num, HQ3.out, by rw [Hq.out, show min (j + 1) R = min j R by omega], HB3.out⟩
        case measure => simp [intOf]; omega
    · obtain rfl : j = len := by omega
      have hmin : min (R : Int) (j : Int) = ((min j R : Nat) : Int) := by omega
      have hm1 : min j R ≤ j := by omega
      have Hm1 := Lib.hid hm1
      clear hm1
      generalize min j R = m at *
      go_wp2_with fail
      go_loopw [60] (fun i wr => ∃ (k : Nat) (qs : List (Nat × Int)), k ≤ m ∧ i = .int .i64 k ∧ QAt 59 3 encI w.heap.size wr A C R qs ∧ qs.map (·.2) = (zs.take m).drop k ∧ Below w.heap.size w wr) (fun i _ => m - (intOf i).toNat)
      case atStart => exact ⟨0, _, Nat.zero_le _, rfl, HQ.out, by rw [List.drop_zero]; exact Hq.out, HB.out⟩
      case round =>
        obtain ⟨k, qs', hk, rfl, hQ, hq, hB⟩ := hrel
        have HB' := Lib.hid hB
        clear HQ Hq HB hB
        by_cases hlt2 : k < m
        · obtain ⟨x, tl, rfl, hx, htl⟩ := drop_cons_int 0 hq hlt2 (by have := Hm1.out; have := Hzl.out; omega)
          have HQ := Lib.hid hQ
          have Htl := Lib.hid htl
          have hkl : k < j := by have := Hm1.out; omega
          obtain ⟨b, off, rfl, hat⟩ := (Hrow.out.below (HQ.out.bel HB'.out (Nat.le_refl _) (Kept.refl _ _))).cells (by omega)
          clear hat hQ hq htl
          go_wp2_with fail
          refine (qtakeI_some HQ.out).mono ?_
          rintro e w3 ⟨rfl, hq3, hk3⟩
          have hb3 := HQ.out.bel HB'.out (Nat.le_refl _) hk3
          have HB3 := Lib.hid hb3
          have HQ3 := Lib.hid hq3
          obtain ⟨b', off', he, hat⟩ := (Hrow.out.below hb3).cells (by omega)
          obtain ⟨rfl, rfl⟩ : b = b' ∧ off = off' := by simpa using he
          have hc := hat k hkl
          rw [hx]
          generalize zs.getD k 0 = Z at *
          clear hq3 hk3 hb3 hat he hx
          go_wp2_with fail
          go_roundw
          case rel => exact ⟨k + 1, _, by omega, by go_num, HQ3.out, Htl.out, HB3.out⟩
          case measure => simp [intOf]; omega
        · obtain rfl : k = m := by omega
          have hnil : qs' = [] := by
            rw [List.drop_of_length_le (by rw [List.length_take]; omega)] at hq
            exact List.map_eq_nil_iff.1 hq
          subst hnil
          have HQ := Lib.hid hQ
          clear hQ hq
          go_wp2_with fail
          refine (qlenI HQ.out).mono ?_
          rintro e w3 ⟨rfl, rfl⟩
          go_wp2_with fail
          go_ret
          exact ⟨rfl, HB'.out⟩

theorem walkQueueFull (room : Int) (a : Option Addr) (len cap : Nat) (zs : List Int) (w : World) (h0 : (Lit.int .i64 room).wf = true) (h1 : RowZ w a len cap zs) : Calls Try.prog 6 #[.int .i64 room, .slice a len cap] w fun e w' => e = .returned (.bool true) ∧ Below w.heap.size w w' := by
  by_cases h : room < 1 ∨ 4096 < room
  · exact walkQueueFull_n room a len cap w h
  · obtain ⟨R, rfl⟩ := Int.eq_ofNat_of_zero_le (show 0 ≤ room by omega)
    by_cases hl : 200 < len
    · exact walkQueueFull_l R a len cap w (by omega) (by omega) hl
    · exact walkQueueFull_t R a len cap zs w (by omega) (by omega) h1 (by omega)

end Go.Proofs.Ytcdfolphbabaoaa
