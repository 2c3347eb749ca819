/-
  The walk of EntryGroups.
-/
import Derived.Test.YtdjnfikacjfkkaaEntryK
namespace Go.Proofs.Ytdjnfikacjfkkaa
open Go.RowKit CrcM
set_option linter.unusedVariables false
set_option linter.unnecessarySimpa false
set_option linter.unusedSimpArgs false

theorem groups_frame {e : EnR} {sq : Int} (hr : rB e = true) (hf : e.f ≤ 1099511627776) (ha : amB e sq = true) : frmB e 0 0 1 sq = true := by
  unfold frmB
  rw [hr, ha]
  obtain ⟨⟨h1, h2⟩, ⟨h3, h4⟩, ⟨h5, h6⟩, ⟨h7, h8⟩, h9, h10⟩ := rB_ranges hr
  obtain ⟨_, _, _, hk⟩ := (rB_iff e).1 hr
  have ha' := ha
  unfold amB at ha'
  simp only [Bool.and_eq_true, decide_eq_true_eq] at ha'
  have : rightB ⟨e.k, 0, 0, 1, sq, ebod e⟩ = true := by
    rw [right_iff]
    refine ⟨?_, by show (0 : Int) ≤ 0 ∧ (0 : Int) ≤ 65535; omega, by show (0 : Int) ≤ 0 ∧ (0 : Int) ≤ 65535; omega, by show (1 : Int) ≤ 1 ∧ (1 : Int) ≤ 4294967295; omega, ?_⟩
    · show 1 ≤ e.k ∧ e.k ≤ 5; omega
    · show 0 ≤ sq ∧ sq ≤ 281474976710655; omega
  rw [this]; rfl

set_option maxRecDepth 100000 in
set_option maxHeartbeats 4000000 in
theorem walkGroups_bad (e : EnR) (sq : Int) (w : World) (hl : e.y.length = 32) (hb : ∀ c ∈ e.y, c < 256) (hr : rB e = false) :
    Calls Try.prog 7 #[.agg (enA e), .int .i64 sq] w fun en w' => en = .returned (.bool true) ∧ Below w.heap.size w w' := by
  have HL := Lib.hid hl
  have Hb := Lib.hid hb
  have HX0 : Hid (Blk (w.alloc (Obj.cells (enA e) 25)) w.heap.size 25 (enA e)) := Lib.hid (Blk.new w 25 (enA e))
  have HB0 : Hid (Below w.heap.size w (w.alloc (Obj.cells (enA e) 25))) := Lib.hid (below_alloc _ _)
  have Hr := Lib.hid hr
  clear hl hb hr
  go_enter Try.func7, Try.ntmps7
  go_wp2_with fail
  refine (anchor4_any _).mono ?_
  rintro en w1 ⟨rfl, hb1⟩
  have HX1 := Lib.hid (HX0.out.below hb1 HX0.out.lt)
  have HB1 := Lib.hid (bthen HB0.out hb1)
  clear hb1 HB0 HX0
  have c1 := (HX1.out.cell 1).trans (enA_at1 e)
  go_wp2_with (first | (refine wpl_load rfl _ rfl (w.heap.size) rfl _ _ _ HX1.out Try.underlying25 rfl (info_enA HL.out) ?_; go_frame))
  refine (eright_any e _ HL.out).mono ?_
  rintro en w2 ⟨rfl, hb2⟩
  rw [Hr.out]
  have HX2 := Lib.hid (HX1.out.below hb2 HX1.out.lt)
  have HB2 := Lib.hid (bthen HB1.out hb2)
  clear hb2 HB1 HX1
  clear c1
  have c1 := (HX2.out.cell 1).trans (enA_at1 e)
  go_wp2_with fail
  go_ret
  exact ⟨rfl, HB2.out⟩

set_option maxRecDepth 100000 in
set_option maxHeartbeats 4000000 in
theorem walkGroups_far (e : EnR) (sq : Int) (w : World) (hl : e.y.length = 32) (hb : ∀ c ∈ e.y, c < 256) (hr : rB e = true) (h1 : 1099511627776 < e.f) :
    Calls Try.prog 7 #[.agg (enA e), .int .i64 sq] w fun en w' => en = .returned (.bool true) ∧ Below w.heap.size w w' := by
  have HL := Lib.hid hl
  have Hb := Lib.hid hb
  have HX0 : Hid (Blk (w.alloc (Obj.cells (enA e) 25)) w.heap.size 25 (enA e)) := Lib.hid (Blk.new w 25 (enA e))
  have HB0 : Hid (Below w.heap.size w (w.alloc (Obj.cells (enA e) 25))) := Lib.hid (below_alloc _ _)
  have Hr := Lib.hid hr
  have d1 : decide (1099511627776 < e.f) = true := decide_eq_true h1
  clear hl hb hr h1
  go_enter Try.func7, Try.ntmps7
  go_wp2_with fail
  refine (anchor4_any _).mono ?_
  rintro en w1 ⟨rfl, hb1⟩
  have HX1 := Lib.hid (HX0.out.below hb1 HX0.out.lt)
  have HB1 := Lib.hid (bthen HB0.out hb1)
  clear hb1 HB0 HX0
  have c1 := (HX1.out.cell 1).trans (enA_at1 e)
  go_wp2_with (first | (refine wpl_load rfl _ rfl (w.heap.size) rfl _ _ _ HX1.out Try.underlying25 rfl (info_enA HL.out) ?_; go_frame))
  refine (eright_any e _ HL.out).mono ?_
  rintro en w2 ⟨rfl, hb2⟩
  rw [Hr.out]
  have HX2 := Lib.hid (HX1.out.below hb2 HX1.out.lt)
  have HB2 := Lib.hid (bthen HB1.out hb2)
  clear hb2 HB1 HX1
  clear c1
  have c1 := (HX2.out.cell 1).trans (enA_at1 e)
  go_wp2_with fail
  go_ret
  exact ⟨rfl, HB2.out⟩

set_option maxRecDepth 100000 in
set_option maxHeartbeats 4000000 in
theorem walkGroups_neg (e : EnR) (sq : Int) (w : World) (hl : e.y.length = 32) (hb : ∀ c ∈ e.y, c < 256) (hr : rB e = true) (h1 : ¬ 1099511627776 < e.f) (h2 : sq < 0) :
    Calls Try.prog 7 #[.agg (enA e), .int .i64 sq] w fun en w' => en = .returned (.bool true) ∧ Below w.heap.size w w' := by
  have HL := Lib.hid hl
  have Hb := Lib.hid hb
  have HX0 : Hid (Blk (w.alloc (Obj.cells (enA e) 25)) w.heap.size 25 (enA e)) := Lib.hid (Blk.new w 25 (enA e))
  have HB0 : Hid (Below w.heap.size w (w.alloc (Obj.cells (enA e) 25))) := Lib.hid (below_alloc _ _)
  have Hr := Lib.hid hr
  have d1 : decide (1099511627776 < e.f) = false := decide_eq_false h1
  have d2 : decide (sq < 0) = true := decide_eq_true h2
  clear hl hb hr h1 h2
  go_enter Try.func7, Try.ntmps7
  go_wp2_with fail
  refine (anchor4_any _).mono ?_
  rintro en w1 ⟨rfl, hb1⟩
  have HX1 := Lib.hid (HX0.out.below hb1 HX0.out.lt)
  have HB1 := Lib.hid (bthen HB0.out hb1)
  clear hb1 HB0 HX0
  have c1 := (HX1.out.cell 1).trans (enA_at1 e)
  go_wp2_with (first | (refine wpl_load rfl _ rfl (w.heap.size) rfl _ _ _ HX1.out Try.underlying25 rfl (info_enA HL.out) ?_; go_frame))
  refine (eright_any e _ HL.out).mono ?_
  rintro en w2 ⟨rfl, hb2⟩
  rw [Hr.out]
  have HX2 := Lib.hid (HX1.out.below hb2 HX1.out.lt)
  have HB2 := Lib.hid (bthen HB1.out hb2)
  clear hb2 HB1 HX1
  clear c1
  have c1 := (HX2.out.cell 1).trans (enA_at1 e)
  go_wp2_with fail
  go_ret
  exact ⟨rfl, HB2.out⟩

set_option maxRecDepth 100000 in
set_option maxHeartbeats 4000000 in
theorem walkGroups_big (e : EnR) (sq : Int) (w : World) (hl : e.y.length = 32) (hb : ∀ c ∈ e.y, c < 256) (hr : rB e = true) (h1 : ¬ 1099511627776 < e.f) (h2 : ¬ sq < 0) (h3 : 2199023255552 < sq) :
    Calls Try.prog 7 #[.agg (enA e), .int .i64 sq] w fun en w' => en = .returned (.bool true) ∧ Below w.heap.size w w' := by
  have HL := Lib.hid hl
  have Hb := Lib.hid hb
  have HX0 : Hid (Blk (w.alloc (Obj.cells (enA e) 25)) w.heap.size 25 (enA e)) := Lib.hid (Blk.new w 25 (enA e))
  have HB0 : Hid (Below w.heap.size w (w.alloc (Obj.cells (enA e) 25))) := Lib.hid (below_alloc _ _)
  have Hr := Lib.hid hr
  have d1 : decide (1099511627776 < e.f) = false := decide_eq_false h1
  have d2 : decide (sq < 0) = false := decide_eq_false h2
  have d3 : decide (2199023255552 < sq) = true := decide_eq_true h3
  clear hl hb hr h1 h2 h3
  go_enter Try.func7, Try.ntmps7
  go_wp2_with fail
  refine (anchor4_any _).mono ?_
  rintro en w1 ⟨rfl, hb1⟩
  have HX1 := Lib.hid (HX0.out.below hb1 HX0.out.lt)
  have HB1 := Lib.hid (bthen HB0.out hb1)
  clear hb1 HB0 HX0
  have c1 := (HX1.out.cell 1).trans (enA_at1 e)
  go_wp2_with (first | (refine wpl_load rfl _ rfl (w.heap.size) rfl _ _ _ HX1.out Try.underlying25 rfl (info_enA HL.out) ?_; go_frame))
  refine (eright_any e _ HL.out).mono ?_
  rintro en w2 ⟨rfl, hb2⟩
  rw [Hr.out]
  have HX2 := Lib.hid (HX1.out.below hb2 HX1.out.lt)
  have HB2 := Lib.hid (bthen HB1.out hb2)
  clear hb2 HB1 HX1
  clear c1
  have c1 := (HX2.out.cell 1).trans (enA_at1 e)
  go_wp2_with fail
  go_ret
  exact ⟨rfl, HB2.out⟩

set_option maxRecDepth 100000 in
set_option maxHeartbeats 4000000 in
theorem walkGroups_in (e : EnR) (sq : Int) (w : World) (hl : e.y.length = 32) (hb : ∀ c ∈ e.y, c < 256) (n : Nat) (hn : e.c = (n : Nat)) (hr : rB e = true) (h1 : ¬ 1099511627776 < e.f) (h2 : ¬ sq < 0) (h3 : ¬ 2199023255552 < sq) :
    Calls Try.prog 7 #[.agg (enA e), .int .i64 sq] w fun en w' => en = .returned (.bool true) ∧ Below w.heap.size w w' := by
  have HL := Lib.hid hl
  have Hb := Lib.hid hb
  have hz0 := zero_fr
  have HX0 : Hid (Blk (w.alloc (Obj.cells (enA e) 25)) w.heap.size 25 (enA e)) := Lib.hid (Blk.new w 25 (enA e))
  have HB0 : Hid (Below w.heap.size w (w.alloc (Obj.cells (enA e) 25))) := Lib.hid (below_alloc _ _)
  have Hr := Lib.hid hr
  have d1 : decide (1099511627776 < e.f) = false := decide_eq_false h1
  have d2 : decide (sq < 0) = false := decide_eq_false h2
  have d3 : decide (2199023255552 < sq) = false := decide_eq_false h3
  obtain ⟨⟨hf0, hf1⟩, ⟨_, _⟩, ⟨_, _⟩, ⟨hc0, hc1⟩, _, _⟩ := rB_ranges hr
  have Hn := Lib.hid hn
  have Hnr : Hid (n ≤ 4) := Lib.hid (by omega)
  have Hf : Hid (0 ≤ e.f ∧ e.f ≤ 1099511627776) := Lib.hid ⟨hf0, by omega⟩
  have Hs : Hid (0 ≤ sq ∧ sq ≤ 2199023255552) := Lib.hid ⟨by omega, by omega⟩
  clear hl hb hr h1 h2 h3 hf0 hf1 hc0 hc1 hn
  go_enter Try.func7, Try.ntmps7
  go_wp2_with fail
  refine (anchor4_any _).mono ?_
  rintro en w1 ⟨rfl, hb1⟩
  have HX1 := Lib.hid (HX0.out.below hb1 HX0.out.lt)
  have HB1 := Lib.hid (bthen HB0.out hb1)
  clear hb1 HB0 HX0
  go_wp2_with (first | (refine wpl_load rfl _ rfl (w.heap.size) rfl _ _ _ HX1.out Try.underlying25 rfl (info_enA HL.out) ?_; go_frame))
  refine (eright_any e _ HL.out).mono ?_
  rintro en w2 ⟨rfl, hb2⟩
  rw [Hr.out]
  have HX2 := Lib.hid (HX1.out.below hb2 HX1.out.lt)
  have HB2 := Lib.hid (bthen HB1.out hb2)
  clear hb2 HB1 HX1
  have c1 := (HX2.out.cell 1).trans (enA_at1 e)
  have c2 := (HX2.out.cell 2).trans (enA_at2 e)
  rw [Hn.out] at c2
  go_wp2_with fail
  clear c1 c2 d1 d2 d3
  go_loopw [5, 6, 7, 8, 31] (fun v _ _ _ i wr => ∃ j : Nat, j ≤ n ∧ i = .int .i64 j ∧ v = .int .i64 j ∧ Below w2.heap.size w2 wr) (fun _ _ _ _ i _ => n - (intOf i).toNat)
  case atStart => exact ⟨0, Nat.zero_le _, rfl, rfl, Below.refl _ _⟩
  case round =>
    obtain ⟨j, hj, rfl, rfl, hbw⟩ := hrel
    have HBw := Lib.hid hbw
    clear hbw
    have HX3 := Lib.hid (HX2.out.below HBw.out HX2.out.lt)
    have hnn := Hnr.out
    by_cases hlt : j < n
    · have hf := Hf.out
      have hwr : IntKind.i64.wrap (e.f + (j : Int)) = e.f + (j : Int) := by rw [IntKind.wrap_i64]; omega
      have c1 := (HX3.out.cell 1).trans (enA_at1 e)
      have HF : Hid (frmB e 0 0 1 (e.f + (j : Int)) = true) := Lib.hid (groups_frame Hr.out hf.2 (by unfold amB; rw [Hn.out]; simp only [Bool.and_eq_true, decide_eq_true_eq]; omega))
      have hsq : e.f + (j : Int) ≤ 9223372036854775807 := by omega
      have Hsq := Lib.hid hsq
      clear hf hsq
      go_wp2_with (first | (refine wpl_load rfl _ rfl (w.heap.size) rfl _ _ _ HX3.out Try.underlying25 rfl (info_enA HL.out) ?_; go_frame))
      clear hwr
      refine (eframe_any e 0 0 1 (e.f + (j : Int)) _ HL.out Hb.out Hsq.out).mono ?_
      rintro en w4 ⟨rfl, hb4⟩
      rw [frmE_ok HF.out]
      obtain ⟨f, hf⟩ : ∃ f, frmV e 0 0 1 (e.f + (j : Int)) = f := ⟨_, rfl⟩
      have HLf : Hid (f.b.length = 44) := Lib.hid (hf ▸ frmV_len HL.out)
      have hfk : f.k = e.k := by rw [← hf, frmV_ok HF.out]
      rw [hf]
      clear hf c1
      have HX5 : Hid (Blk (w4.alloc (Obj.cells (frA f) 41)) w.heap.size 25 (enA e)) := Lib.hid ((HX3.out.below hb4 HX3.out.lt).alloc _)
      have HN5 : Hid (Blk (w4.alloc (Obj.cells (frA f) 41)) w4.heap.size 41 (frA f)) := Lib.hid (Blk.new _ _ _)
      have HB5 : Hid (Below w2.heap.size w2 (w4.alloc (Obj.cells (frA f) 41))) := Lib.hid (bthen HBw.out (bthen hb4 (below_alloc _ _)))
      clear hb4 HBw HX3
      have c0 := (HX5.out.cell 0).trans (enA_at0 e)
      have d0 := (HN5.out.cell 0).trans (frA_at0 f)
      rw [hfk] at d0
      clear hfk
      go_wp2_with (first | (refine wpl_store_new rfl _ _ rfl (frA (f)) w4 41 (frA fr0) rfl rfl rfl (info_frA HLf.out) ((frA_size fr0_len).trans (frA_size HLf.out).symm) frA_one ?_; go_frame))
      go_roundw
      case rel => exact ⟨j + 1, by omega, by go_num, by go_num, HB5.out⟩
      case measure => simp [intOf]; omega
    · obtain rfl : j = n := by omega
      have HB3 := Lib.hid (bthen HB2.out HBw.out)
      have hs := Hs.out
      have hf := Hf.out
      have Hsq : Hid (sq ≤ 9223372036854775807) := Lib.hid (by omega)
      have hwr : IntKind.i64.wrap (e.f + (j : Int)) = e.f + (j : Int) := by rw [IntKind.wrap_i64]; omega
      clear hs hf HB2 HBw
      go_wp2_with (first | (refine wpl_load rfl _ rfl (w.heap.size) rfl _ _ _ HX3.out Try.underlying25 rfl (info_enA HL.out) ?_; go_frame))
      refine (eframe_any e 0 0 1 sq _ HL.out Hb.out Hsq.out).mono ?_
      rintro en w5 ⟨rfl, hb5⟩
      have HB5 := Lib.hid (bthen HB3.out hb5)
      have HX5 := Lib.hid (HX3.out.below hb5 HX3.out.lt)
      clear hb5 HB3 HX3
      by_cases h4 : e.f ≤ sq
      · by_cases h5 : sq < e.f + (j : Int)
        · have hF := groups_frame Hr.out Hf.out.2 (show amB e sq = true by unfold amB; rw [Hn.out]; simp only [Bool.and_eq_true, decide_eq_true_eq]; omega)
          rw [frmV_ok hF, frmE_ok hF]
          have d4 : decide (e.f ≤ sq) = true := decide_eq_true h4
          have d5 : decide (sq < e.f + (j : Int)) = true := decide_eq_true h5
          clear hF h4 h5
          have HX6 : Hid (Blk (w5.alloc (Obj.cells (frA ⟨e.k, 0, 0, 1, sq, ebod e⟩) 41)) w.heap.size 25 (enA e)) := Lib.hid (HX5.out.alloc _)
          have c1 := (HX6.out.cell 1).trans (enA_at1 e)
          have c2 := (HX6.out.cell 2).trans (enA_at2 e)
          rw [Hn.out] at c2
          go_wp2_with (first | (refine wpl_store_new rfl _ _ rfl (frA (⟨e.k, 0, 0, 1, sq, ebod e⟩)) w5 41 (frA fr0) rfl rfl rfl (info_frA (ebod_length HL.out)) ((frA_size fr0_len).trans (frA_size (ebod_length HL.out)).symm) frA_one ?_; go_frame))
          go_ret
          exact ⟨rfl, bthen HB5.out (below_alloc _ _)⟩
        · have hF : frmB e 0 0 1 sq = false := by unfold frmB amB; rw [Hn.out, decide_eq_false (show ¬ sq - e.f < (j : Int) by omega)]; simp
          rw [frmV_bad hF, frmE_bad hF]
          have d4 : decide (e.f ≤ sq) = true := decide_eq_true h4
          have d5 : decide (sq < e.f + (j : Int)) = false := decide_eq_false h5
          clear hF h4 h5
          have HX6 : Hid (Blk (w5.alloc (Obj.cells (frA fr0) 41)) w.heap.size 25 (enA e)) := Lib.hid (HX5.out.alloc _)
          have c1 := (HX6.out.cell 1).trans (enA_at1 e)
          have c2 := (HX6.out.cell 2).trans (enA_at2 e)
          rw [Hn.out] at c2
          go_wp2_with (first | (refine wpl_store_new rfl _ _ rfl (frA (fr0)) w5 41 (frA fr0) rfl rfl rfl (info_frA fr0_len) ((frA_size fr0_len).trans (frA_size fr0_len).symm) frA_one ?_; go_frame))
          go_ret
          exact ⟨rfl, bthen HB5.out (below_alloc _ _)⟩
      · have hF : frmB e 0 0 1 sq = false := by unfold frmB amB; rw [decide_eq_false h4]; simp
        rw [frmV_bad hF, frmE_bad hF]
        have d4 : decide (e.f ≤ sq) = false := decide_eq_false h4
        clear hF h4
        have HX6 : Hid (Blk (w5.alloc (Obj.cells (frA fr0) 41)) w.heap.size 25 (enA e)) := Lib.hid (HX5.out.alloc _)
        have c1 := (HX6.out.cell 1).trans (enA_at1 e)
        have c2 := (HX6.out.cell 2).trans (enA_at2 e)
        rw [Hn.out] at c2
        go_wp2_with (first | (refine wpl_store_new rfl _ _ rfl (frA (fr0)) w5 41 (frA fr0) rfl rfl rfl (info_frA fr0_len) ((frA_size fr0_len).trans (frA_size fr0_len).symm) frA_one ?_; go_frame))
        go_ret
        exact ⟨rfl, bthen HB5.out (below_alloc _ _)⟩

theorem walkEntryGroups (e : EnR) (sq : Int) (w : World) (he : EnOk e) (h0 : (Lit.int .i64 sq).wf = true) :
    Calls Try.prog 7 #[.agg (enA e), .int .i64 sq] w fun en w' => en = .returned (.bool true) ∧ Below w.heap.size w w' := by
  cases hr : rB e with
  | false => exact walkGroups_bad e sq w he.len he.lt hr
  | true =>
    by_cases h1 : 1099511627776 < e.f
    · exact walkGroups_far e sq w he.len he.lt hr h1
    · by_cases h2 : sq < 0
      · exact walkGroups_neg e sq w he.len he.lt hr h1 h2
      · by_cases h3 : 2199023255552 < sq
        · exact walkGroups_big e sq w he.len he.lt hr h1 h2 h3
        · exact walkGroups_in e sq w he.len he.lt e.c.toNat (by have := rB_ranges hr; omega) hr h1 h2 h3

end Go.Proofs.Ytdjnfikacjfkkaa
