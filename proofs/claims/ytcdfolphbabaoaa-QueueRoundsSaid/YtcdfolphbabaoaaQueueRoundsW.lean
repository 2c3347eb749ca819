/-
  The walk of QueueRounds.
-/
import Derived.Test.YtcdfolphbabaoaaQueueFullW
import Derived.Test.YtcdfolphbabaoaaQueueH
import Derived.Test.YtcdfolphbabaoaaQueueI
namespace Go.Proofs.Ytcdfolphbabaoaa
open Go.RowKit Go.Conc
set_option linter.unusedVariables false
set_option linter.unnecessarySimpa false
set_option linter.unusedSimpArgs false

/-- Taken and put back, k times. -/
def rotN : Nat → List Int → List Int
  | 0, l => l
  | k + 1, l => match rotN k l with
    | [] => []
    | x :: t => t ++ [x]
theorem rotN_length (k : Nat) (l : List Int) : (rotN k l).length = l.length := by
  induction k with
  | zero => rfl
  | succ k ih =>
    unfold rotN
    cases h : rotN k l with
    | nil => rw [h] at ih; simpa using ih
    | cons x t => rw [h] at ih; simp at ih ⊢; omega
theorem rotN_add (a b : Nat) (l : List Int) : rotN (a + b) l = rotN b (rotN a l) := by
  induction b with
  | zero => rfl
  | succ b ih => show rotN ((a + b) + 1) l = _; unfold rotN; rw [ih]
theorem rotN_part (k : Nat) (l : List Int) (h : k ≤ l.length) : rotN k l = l.drop k ++ l.take k := by
  induction k with
  | zero => simp [rotN]
  | succ k ih =>
    unfold rotN
    rw [ih (by omega), List.drop_eq_getElem_cons (by omega), List.cons_append]
    show (l.drop (k + 1) ++ l.take k) ++ [l[k]] = _
    rw [List.append_assoc, ← List.take_succ_eq_append_getElem (by omega)]
theorem rotN_once (l : List Int) : rotN l.length l = l := by rw [rotN_part _ _ (Nat.le_refl _)]; simp
theorem rotN_whole (r : Nat) (l : List Int) : rotN (r * l.length) l = l := by
  induction r with
  | zero => rw [Nat.zero_mul]; rfl
  | succ r ih => rw [Nat.succ_mul, rotN_add, ih, rotN_once]
theorem rotN_step (k : Nat) (l : List Int) {x : Nat × Int} {t : List (Nat × Int)} (h : (x :: t).map (·.2) = rotN k l) (p : Nat) : (t ++ [(p, x.2)]).map (·.2) = rotN (k + 1) l := by
  unfold rotN
  rw [← h]
  simp

/-- A row has none of the boxes. -/
def ApB {β : Type} (v : Value) (qs : List (Nat × β)) : Prop := ∀ g, v.ownBlock = some g → ∀ y ∈ qs, y.1 ≠ g
theorem QAt.grownR {T E : TypeId} {β : Type} {enc : β → Value} {lo A C room : Nat} {a b : World} {qs : List (Nat × β)} (h : QAt T E enc lo a A C room qs) {l0 : Nat} {e : TypeId} {v : Value} {n : Nat} {xs : List Value} (ho : a.ownsRow l0 e 1 v n xs) (hT : e ≠ T) (hap : ApB v qs) (hg : a.grownBy b v.ownBlock) : QAt T E enc lo b A C room qs :=
  h.kept (S := fun k => v.ownBlock = some k) ⟨hg.os, hg.tape, hg.output, hg.size, fun k hk hn => hg.block k hk (fun e => hn e.symm)⟩ (fun e1 => own_unlike ho h.blk hT e1.symm)
    (fun e1 => by
      rcases ho.2 with ⟨rfl, _⟩ | ⟨g', c, cur, rfl, _, hh, _⟩
      · simp [Value.ownBlock] at e1
      · obtain rfl : g' = C := by simpa [Value.ownBlock] using e1
        exact h.neC (t := e) (cs := cur) hh rfl) (fun x hx e1 => hap _ e1 x hx rfl)

set_option maxRecDepth 100000 in
set_option maxHeartbeats 2000000 in
theorem walkQueueRounds_n (room : Int) (a : Option Addr) (len cap : Nat) (rounds : Int) (w : World) (h : room < 1 ∨ 4096 < room) : Calls Try.prog 5 #[.int .i64 room, .slice a len cap, .int .i64 rounds] w fun e w' => e = .returned (.bool true) ∧ Below w.heap.size w w' := by
  go_enter Try.func5, Try.ntmps5
  go_wp2_with fail
  refine (anchor9_any _).mono ?_
  rintro e w1 ⟨rfl, hb⟩
  have HB1 := Lib.hid hb
  clear hb
  go_wp2_with fail
  refine (qnewI_no room _ h).mono ?_
  rintro e w2 ⟨rfl, rfl⟩
  go_wp2_with fail
  go_ret
  exact ⟨rfl, HB1.out⟩

set_option maxRecDepth 100000 in
set_option maxHeartbeats 2000000 in
theorem walkQueueRounds_l (R : Nat) (a : Option Addr) (len cap : Nat) (rounds : Int) (w : World) (h1 : 1 ≤ R) (h2 : R ≤ 4096) (hl : 100 < len) : Calls Try.prog 5 #[.int .i64 (R : Nat), .slice a len cap, .int .i64 rounds] w fun e w' => e = .returned (.bool true) ∧ Below w.heap.size w w' := by
  have dl : decide ((100 : Int) < (len : Int)) = true := decide_eq_true (by omega)
  go_enter Try.func5, Try.ntmps5
  go_wp2_with fail
  refine (anchor9_any _).mono ?_
  rintro e w1 ⟨rfl, hb⟩
  have HB1 := Lib.hid hb
  clear hb
  go_wp2_with fail
  refine (qnewI_ok R _ h1 h2).mono ?_
  rintro e w2 ⟨rfl, hb2, hq2⟩
  have HB2 := Lib.hid (bthen HB1.out hb2)
  have HQ2 := Lib.hid (hq2.lo_le HB1.out.size)
  clear hb2 hq2
  go_wp2_with fail
  go_ret
  exact ⟨rfl, HB2.out⟩

set_option maxRecDepth 100000 in
set_option maxHeartbeats 2000000 in
theorem walkQueueRounds_r (R : Nat) (a : Option Addr) (len cap : Nat) (rounds : Int) (w : World) (h1 : 1 ≤ R) (h2 : R ≤ 4096) (hl : ¬ 100 < len) (hr : rounds < 0 ∨ 5 < rounds) : Calls Try.prog 5 #[.int .i64 (R : Nat), .slice a len cap, .int .i64 rounds] w fun e w' => e = .returned (.bool true) ∧ Below w.heap.size w w' := by
  have dl : decide ((100 : Int) < (len : Int)) = false := decide_eq_false (by omega)
  rcases hr with hr | hr
  · go_enter Try.func5, Try.ntmps5
    go_wp2_with fail
    refine (anchor9_any _).mono ?_
    rintro e w1 ⟨rfl, hb⟩
    have HB1 := Lib.hid hb
    clear hb
    go_wp2_with fail
    refine (qnewI_ok R _ h1 h2).mono ?_
    rintro e w2 ⟨rfl, hb2, hq2⟩
    have HB2 := Lib.hid (bthen HB1.out hb2)
    have HQ2 := Lib.hid (hq2.lo_le HB1.out.size)
    clear hb2 hq2
    go_wp2_with fail
    go_ret
    exact ⟨rfl, HB2.out⟩
  · have hr' : ¬ rounds < 0 := by omega
    go_enter Try.func5, Try.ntmps5
    go_wp2_with fail
    refine (anchor9_any _).mono ?_
    rintro e w1 ⟨rfl, hb⟩
    have HB1 := Lib.hid hb
    clear hb
    go_wp2_with fail
    refine (qnewI_ok R _ h1 h2).mono ?_
    rintro e w2 ⟨rfl, hb2, hq2⟩
    have HB2 := Lib.hid (bthen HB1.out hb2)
    have HQ2 := Lib.hid (hq2.lo_le HB1.out.size)
    clear hb2 hq2
    go_wp2_with fail
    go_ret
    exact ⟨rfl, HB2.out⟩

set_option maxRecDepth 100000 in
set_option maxHeartbeats 4000000 in
theorem walkQueueRounds_t (R : Nat) (a : Option Addr) (len cap : Nat) (zs : List Int) (rn : Nat) (w : World) (h1 : 1 ≤ R) (h2 : R ≤ 4096) (hrow : RowZ w a len cap zs) (hl : len ≤ 100) (hr : rn ≤ 5) : Calls Try.prog 5 #[.int .i64 (R : Nat), .slice a len cap, .int .i64 (rn : Nat)] w fun e w' => e = .returned (.bool true) ∧ Below w.heap.size w w' := by
  have Hrow := Lib.hid hrow
  have hcap : len ≤ cap ∧ cap ≤ 9223372036854775807 := by have := hrow.max; unfold maxLen at this; exact ⟨hrow.le, this⟩
  obtain ⟨hc1, hc2⟩ := hcap
  have Hzl := Lib.hid hrow.length
  have hzl := hrow.length
  clear hrow
  go_enter Try.func5, Try.ntmps5
  go_wp2_with fail
  refine (anchor9_any _).mono ?_
  rintro e w1 ⟨rfl, hb⟩
  have HB1 := Lib.hid hb
  clear hb
  go_wp2_with fail
  refine (qnewI_ok R _ h1 h2).mono ?_
  rintro e w2 ⟨rfl, hb2, hq2⟩
  have HB2 := Lib.hid (bthen HB1.out hb2)
  have HQ2 := Lib.hid (hq2.lo_le HB1.out.size)
  clear hb2 hq2
  have dl : decide ((100 : Int) < (len : Int)) = false := decide_eq_false (by omega)
  have dr1 : decide ((rn : Int) < (0 : Int)) = false := decide_eq_false (by omega)
  have dr2 : decide ((5 : Int) < (rn : Int)) = false := decide_eq_false (by omega)
  go_upto_region 7 with fail
  clear dl HB1 dr1 dr2
  generalize w1.heap.size + 1 = A at *
  generalize w1.heap.size = C at *
  go_wp2_with fail
  go_loopw [9, 43] (fun v i wr => ∃ (j : Nat) (qs : List (Nat × Int)), j ≤ len ∧ i = .int .i64 j ∧ QAt 59 3 encI w.heap.size wr A C R qs ∧ qs.map (·.2) = zs.take (min j R) ∧ wr.ownsRow w.heap.size 3 1 v (min j R) (zvals (zs.take (min j R))) ∧ ApB v qs ∧ Below w.heap.size w wr) (fun _ i _ => len - (intOf i).toNat)
  case atStart => exact ⟨0, [], Nat.zero_le _, rfl, HQ2.out, by simp, by rw [Nat.zero_min]; exact own_nil _ _ _, fun g hg => by simp [Value.ownBlock] at hg, HB2.out⟩
  case round =>
    obtain ⟨j, qs, hj, rfl, hQ, hq, hv, hap, hB⟩ := hrel
    obtain ⟨av, cv, rfl⟩ := own_slice hv
    have HQ := Lib.hid hQ
    have Hq := Lib.hid hq
    have HB := Lib.hid hB
    have HV := Lib.hid hv
    have HAP := Lib.hid hap
    have hql : qs.length = min j R := by
      have := congrArg List.length hq
      rw [List.length_map, List.length_take] at this
      omega
    clear hQ hq hB hv hap HQ2 HB2
    by_cases hlt : j < len
    · obtain ⟨b, off, rfl, hat⟩ := (Hrow.out.below HB.out).cells (by omega)
      have hc := hat j hlt
      clear hat
      by_cases hjR : j < R
      · have e2 := take_min_snoc zs j R (by omega) hjR
        have E2 := Lib.hid e2
        clear e2
        generalize zs.getD j 0 = x at *
        go_wp2_with fail
        refine (qputI_room x HQ.out (by omega)).mono ?_
        rintro e w3 ⟨rfl, p, hq3, hk3, hp3⟩
        have HB3 := Lib.hid (HQ.out.bel HB.out (Nat.le_refl _) hk3)
        have HV3 := Lib.hid (HQ.out.own hk3 HV.out)
        have HQ3 := Lib.hid hq3
        have HAP3 : Hid (ApB (.slice av (min j R) cv) (qs ++ [(p, x)])) := Lib.hid (fun g hg y hy => by
          rcases List.mem_append.1 hy with hy | hy
          · exact HAP.out g hg y hy
          · obtain rfl : y = (p, x) := by simpa using hy
            have := own_lt HV.out hg
            show p ≠ g
            omega)
        clear hq3 hk3 hp3 hc HQ HV HB HAP
        have HVb := Lib.hid (own_below HV3.out (below_alloc w3 (Obj.cells #[.int .i64 x] 3)))
        have HQb := Lib.hid (HQ3.out.below (below_alloc w3 (Obj.cells #[.int .i64 x] 3)))
        have HBb := Lib.hid (bthen HB3.out (below_alloc w3 (Obj.cells #[.int .i64 x] 3)))
        go_wp2_with (refine wpl_appendV elI rfl (.tmp 51) (.tmp 53) rfl w.heap.size _ _ _ rfl HVb.out (some ⟨w3.heap.size, 0, none⟩) 1 1 [.int .i64 x] rfl rfl (fun e => by cases e) (src_one _ _ _) (by intro u hu; rcases List.mem_singleton.1 hu with rfl; rfl) (by omega) HBb.out.size ?_; intro v2 w4 hown hgr hv2; have HV4 := Lib.hid hown; have HQ4 := Lib.hid (HQb.out.grownR HVb.out (by decide) HAP3.out hgr); have HB4 := Lib.hid (show Below w.heap.size w w4 from HBb.out.grown hgr (HBb.out.size) (fun k e => own_ge HVb.out k e)); have HAP4 : Hid (ApB v2 (qs ++ [(p, x)])) := Lib.hid (fun g hg y hy => by rcases hv2 with h | h; (rw [h] at hg; exact HAP3.out g hg y hy); (rw [h] at hg; injection hg with hg; have := HQb.out.ltB y hy; omega)); clear hown hgr hv2; go_frame)
        go_roundw
        case rel => exact ⟨j + 1, _, by omega, by go_num, HQ4.out, by rw [List.map_append, Hq.out, E2.out]; rfl, by rw [E2.out, zvals_append, show min (j + 1) R = min j R + 1 by omega]; exact HV4.out, HAP4.out, HB4.out⟩
        case measure => simp [intOf]; omega
      · generalize zs.getD j 0 = x at *
        go_wp2_with fail
        refine (qputI_full x HQ.out (by omega)).mono ?_
        rintro e w3 ⟨rfl, hb3⟩
        have HB3 := Lib.hid (bthen HB.out hb3)
        have HQ3 := Lib.hid (HQ.out.below hb3)
        have HV3 := Lib.hid (own_below HV.out hb3)
        clear hb3 hc
        go_wp2_with fail
        go_roundw
        case rel => exact ⟨j + 1, _, by omega, by go_num, HQ3.out, by rw [Hq.out, show min (j + 1) R = min j R by omega], by rw [show min (j + 1) R = min j R by omega]; exact HV3.out, HAP.out, HB3.out⟩
        case measure => simp [intOf]; omega
    · obtain rfl : j = len := by omega
      have hm1 : min j R ≤ j := by omega
      have hm2 : min j R ≤ R := by omega
      obtain ⟨xs, hxs⟩ : ∃ xs, xs = zs.take (min j R) := ⟨_, rfl⟩
      have hxl : xs.length = min j R := by rw [hxs, List.length_take]; omega
      rw [← hxs] at Hq HV
      have Hxl := Lib.hid hxl
      clear hxs hxl
      generalize min j R = m at *
      have hT : ∃ T : Nat, (rn : Int) * (m : Int) = (T : Int) ∧ T = rn * m ∧ T ≤ 500 := ⟨rn * m, by push_cast; rfl, rfl, Nat.le_trans (Nat.mul_le_mul hr (Nat.le_trans hm1 hl)) (by decide)⟩
      obtain ⟨T, hT1, hT2, hT3⟩ := hT
      have HT2 := Lib.hid hT2
      clear hT2
      go_wp2_with fail
      refine (qlenI HQ.out).mono ?_
      rintro e w3 ⟨rfl, rfl⟩
      rw [hql]
      go_wp2_with fail
      go_loopw [60] (fun i wr2 => ∃ (k : Nat) (qs : List (Nat × Int)), k ≤ T ∧ i = .int .i64 k ∧ QAt 59 3 encI w.heap.size wr2 A C R qs ∧ qs.map (·.2) = rotN k xs ∧ wr2.ownsRow w.heap.size 3 1 (.slice av m cv) m (zvals xs) ∧ Below w.heap.size w wr2) (fun i _ => T - (intOf i).toNat)
      case atStart => exact ⟨0, _, Nat.zero_le _, rfl, HQ.out, Hq.out, HV.out, HB.out⟩
      case round =>
        obtain ⟨k, qs', hk, rfl, hQ, hq, hv, hB⟩ := hrel
        have HB' := Lib.hid hB
        have HV' := Lib.hid hv
        have hql' : qs'.length = m := by
          have := congrArg List.length hq
          rw [List.length_map, rotN_length, Hxl.out] at this
          exact this
        clear HQ Hq HB hB HV HAP hv
        by_cases hlt2 : k < T
        · cases qs' with
          | nil =>
            exfalso
            have : m = 0 := by simpa using hql'.symm
            rw [HT2.out, this] at hlt2
            omega
          | cons x tl =>
            have HQ := Lib.hid hQ
            have Hst := Lib.hid (fun p => rotN_step k xs hq p)
            have hll : tl.length < R := by simp at hql'; omega
            have Hll := Lib.hid hll
            clear hQ hq hll
            go_wp2_with fail
            refine (qtakeI_some HQ.out).mono ?_
            rintro e w3 ⟨rfl, hq3, hk3⟩
            have HB3 := Lib.hid (HQ.out.bel HB'.out (Nat.le_refl _) hk3)
            have HV3 := Lib.hid (HQ.out.own hk3 HV'.out)
            have HQ3 := Lib.hid hq3
            clear hq3 hk3
            go_wp2_with fail
            refine (qputI_room x.2 HQ3.out Hll.out).mono ?_
            rintro e w4 ⟨rfl, p, hq4, hk4, -⟩
            have HB4 := Lib.hid (HQ3.out.bel HB3.out (Nat.le_refl _) hk4)
            have HV4 := Lib.hid (HQ3.out.own hk4 HV3.out)
            have HQ4 := Lib.hid hq4
            clear hq4 hk4
            go_wp2_with fail
            go_roundw
            case rel => exact ⟨k + 1, _, by omega, by go_num, HQ4.out, Hst.out p, HV4.out, HB4.out⟩
            case measure => simp [intOf]; omega
        · obtain rfl : k = T := by omega
          have hzs : qs'.map (·.2) = xs := by rw [hq, HT2.out, ← Hxl.out, rotN_whole]
          have HQ := Lib.hid hQ
          have Hzs := Lib.hid hzs
          have HK : Hid (keptK (fun _ => true) qs' qs'.length = qs') := Lib.hid (by rw [keptK_all]; exact List.filter_eq_self.2 (fun _ _ => rfl))
          clear hQ hq hzs
          go_wp2_with fail
          refine (qkeep (f := fun _ => true) (fun z w => qtells_all z w) HK.out HQ.out).mono ?_
          rintro e w3 ⟨rfl, hq3, hk3⟩
          have HB3 := Lib.hid (HQ.out.bel HB'.out (Nat.le_refl _) hk3)
          have HR3 := Lib.hid (RowI.own (HQ.out.own hk3 HV'.out) Hxl.out)
          have HQ3 := Lib.hid hq3
          rw [Int.sub_self]
          clear hq3 hk3
          go_wp2_with fail
          have hcall := qsame HQ3.out Hzs.out HR3.out
          rw [Hxl.out] at hcall
          refine hcall.mono ?_
          rintro e w4 ⟨rfl, hq4, hk4⟩
          have HB4 := Lib.hid (HQ3.out.bel HB3.out (Nat.le_refl _) hk4)
          clear hq4 hk4 hcall
          go_wp2_with fail
          go_ret
          exact ⟨rfl, HB4.out⟩

theorem walkQueueRounds (room : Int) (a : Option Addr) (len cap : Nat) (zs : List Int) (rounds : Int) (w : World) (h0 : (Lit.int .i64 room).wf = true) (h1 : RowZ w a len cap zs) (h2 : (Lit.int .i64 rounds).wf = true) : Calls Try.prog 5 #[.int .i64 room, .slice a len cap, .int .i64 rounds] w fun e w' => e = .returned (.bool true) ∧ Below w.heap.size w w' := by
  by_cases h : room < 1 ∨ 4096 < room
  · exact walkQueueRounds_n room a len cap rounds w h
  · obtain ⟨R, rfl⟩ := Int.eq_ofNat_of_zero_le (show 0 ≤ room by omega)
    by_cases hl : 100 < len
    · exact walkQueueRounds_l R a len cap rounds w (by omega) (by omega) hl
    · by_cases hr : rounds < 0 ∨ 5 < rounds
      · exact walkQueueRounds_r R a len cap rounds w (by omega) (by omega) hl hr
      · obtain ⟨rn, rfl⟩ := Int.eq_ofNat_of_zero_le (show 0 ≤ rounds by omega)
        exact walkQueueRounds_t R a len cap zs rn w (by omega) (by omega) h1 (by omega) (by omega)

end Go.Proofs.Ytcdfolphbabaoaa
