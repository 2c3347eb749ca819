/-
  The walk of CodecOwn.
-/
import Derived.Test.YtamenbchebfplaaCodecD
import Derived.Deep.RegionWith
namespace Go.Proofs.Ytamenbchebfplaa
open Go.RowKit CrcM
set_option linter.unusedVariables false
set_option linter.unnecessarySimpa false
set_option linter.unusedSimpArgs false

set_option maxHeartbeats 400000 in
theorem walkOwn_out (a : Option Addr) (len cap : Nat) (n : Int) (w : World) (hm : len ≤ 9223372036854775807) (h : len = 0 ∨ 200 < len ∨ n < 0 ∨ (len : Int) < n) :
    Calls Try.prog 7 #[.slice a len cap, .int .i64 n] w fun e w' => e = .returned (.bool true) ∧ Below w.heap.size w w' := by
  by_cases h0 : len = 0
  · subst h0
    clear h
    go_enter Try.func7, Try.ntmps7
    go_wp2_with fail
    refine (anchor2_any _).mono ?_
    rintro e w1 ⟨rfl, hb1⟩
    go_wp2_with fail
    go_ret
    exact ⟨rfl, hb1⟩
  · have d0 : ((len : Int) == 0) = false := by rw [beq_eq_false_iff_ne]; omega
    by_cases h1 : 200 < len
    · have d1 : decide ((200 : Int) < (len : Int)) = true := decide_eq_true (by omega)
      clear h h0
      go_enter Try.func7, Try.ntmps7
      go_wp2_with fail
      refine (anchor2_any _).mono ?_
      rintro e w1 ⟨rfl, hb1⟩
      go_wp2_with fail
      go_ret
      exact ⟨rfl, hb1⟩
    · have d1 : decide ((200 : Int) < (len : Int)) = false := decide_eq_false (by omega)
      by_cases h2 : n < 0
      · have d2 : decide (n < 0) = true := decide_eq_true h2
        clear h h0
        go_enter Try.func7, Try.ntmps7
        go_wp2_with fail
        refine (anchor2_any _).mono ?_
        rintro e w1 ⟨rfl, hb1⟩
        go_wp2_with fail
        go_ret
        exact ⟨rfl, hb1⟩
      · have d2 : decide (n < 0) = false := decide_eq_false h2
        have d3 : decide ((len : Int) < n) = true := decide_eq_true (by omega)
        clear h h0
        go_enter Try.func7, Try.ntmps7
        go_wp2_with fail
        refine (anchor2_any _).mono ?_
        rintro e w1 ⟨rfl, hb1⟩
        go_wp2_with fail
        go_ret
        exact ⟨rfl, hb1⟩

/-- A byte more. -/
theorem byte_next (c : Nat) : ((c : Int) + 1) % 256 = (((c + 1) % 256 : Nat) : Int) := by omega

/-- One operation of a region that yields in whatever world is taken first; its slot is told. -/
theorem take_at {P : Program} {md : Region.Mode} {ops : Array Oper} {Q : Exit → Act → World → Prop} {i d : Nat} {oi : Oper} {v : Value} {fuel : Nat} {listed : Array Bool} {a : Act} {w : World} (hi : ops[i]? = some oi) (hd : oi.dst = some d)
    (hs : Region.noSelect ops = true) (hf : Region.free md ops listed i = true) (hr : (Region.ready md ops listed).contains i = true)
    (hQ : ∀ c a w, Q (.panic c) (a.put oi.dst v) w → Q (.panic c) a w) (hy : Yields P ops oi v a)
    (h : wpAny P md ops Q fuel (listed.setIfInBounds i true) (a.put (some d) v) w) : wpAny P md ops Q (fuel + 1) listed a w :=
  wpAny_take hi hs hf hr hQ hy (by rw [hd]; exact h)

/-- One operation of a region that must come next. -/
theorem any_one {P : Program} {md : Region.Mode} {ops : Array Oper} {Q : Exit → Act → World → Prop} {i : Nat} {o : Oper} {fuel : Nat} {listed : Array Bool} {a : Act} {w : World} (ho : ops[i]? = some o)
    (hr : Region.ready md ops listed = [i]) (hw : Region.wanted o (yielded ops a.tmps) = true)
    (h : ∀ K' : Act → World → Prop, (∀ a w, wpAny P md ops Q fuel (listed.setIfInBounds i true) a w → K' a w) → Oper.wp P o a w K' Q) : wpAny P md ops Q (fuel + 1) listed a w :=
  wpAny_ready hr (by simp) (AllReady.cons ho (fun K' hK => by rw [if_pos hw]; exact h K' hK) AllReady.nil)

set_option maxRecDepth 100000 in
set_option maxHeartbeats 4000000 in
theorem walkOwn_in (a : Option Addr) (len cap : Nat) (bs : List Nat) (n : Nat) (w : World) (hr : RowB w a len cap bs) (h0 : 0 < len) (h1 : len ≤ 200) (h2 : n ≤ len) :
    Calls Try.prog 7 #[.slice a len cap, .int .i64 n] w fun e w' => e = .returned (.bool true) ∧ Below w.heap.size w w' := by
  have d0 : ((len : Int) == 0) = false := by rw [beq_eq_false_iff_ne]; omega
  have d1 : decide ((200 : Int) < (len : Int)) = false := decide_eq_false (by omega)
  have d2 : decide ((len : Int) < (n : Int)) = false := decide_eq_false (by omega)
  have d3 : decide ((n : Int) < 0) = false := decide_eq_false (by omega)
  have hl := hr.length
  have Hl := Lib.hid hl
  have Hlt := Lib.hid hr.lt
  have Hr := Lib.hid hr
  clear hr hl
  go_enter Try.func7, Try.ntmps7
  go_wp2_with fail
  refine (anchor2_any _).mono ?_
  rintro e w1 ⟨rfl, hb1⟩
  have HO := Lib.hid (own_made w1 w1.heap.size w1.heap.size rfl (Nat.le_refl _))
  have hz1 := hb1.size
  go_wp2_with (at_builtin; go_loud (refine wpList_append_bytes rfl (.tmp 36) (.tmp 37) rfl w1.heap.size _ 0 [] rfl HO.out a len cap bs rfl (((Hr.out.below hb1).below (below_alloc _ _))) (by omega) (by simp) ?_); go_loud (intro v' w2 hown hgrow; rw [Nat.zero_add, List.nil_append] at hown); go_loud (obtain ⟨g, cap', rfl, hg, hrow, hfz⟩ := own_some hown Hlt.out h0); go_loud (have hb2 : Below w.heap.size w w2 := (hb1.alloc hz1 _).grown hgrow (by simp; omega) (fun k hk => by cases hk; exact hz1); have Hrow := Lib.hid hrow; have Hfz := Lib.hid hfz; have Hb2 := Lib.hid hb2; clear hown hgrow hrow hfz hb2); go_frame)
  refine (newRd_any _ _ _ _ _ Hrow.out (by omega)).mono ?_
  rintro e w3 ⟨r, g3, rfl, hr3, hg3, hn3, hR3, hG3, hB3⟩
  rw [Hl.out] at hR3
  have hz2 : g < w2.heap.size := by obtain ⟨ad, e, h⟩ := Hrow.out.block h0; cases e; exact h
  have hz3 := hB3.size
  have HR3 := Lib.hid hR3
  have HG3 := Lib.hid hG3
  have Hrow3 := Lib.hid (Hrow.out.below hB3)
  have Hb3 := Lib.hid (bthen Hb2.out hB3)
  have Hfz3 : Hid (∀ j, w3.frozen? ⟨g, j, none⟩ = false) := Lib.hid (fun j => (hB3.frozen (p := ⟨g, j, none⟩) hz2).trans (Hfz.out j))
  clear hR3 hG3 hB3 Hrow Hfz Hb2 HO
  go_wp2_with fail
  refine (penBytes_any _ _ [] _ _ _ bs _ (pen_new _ (Blk.new w3 _ _)) (Hrow3.out.below (below_alloc w3 _)) (by simp; omega)).mono ?_
  rintro e w4 ⟨rfl, v, hP4, hK4, hV4⟩
  rw [List.nil_append] at hP4
  have hK4' : Kept (· = w3.heap.size) w3 w4 := (Kept.of_below (S := fun _ => False) (below_alloc w3 (Obj.cells #[.slice none 0 0, .bool false] 27))).andThen hK4 (fun _ _ h => h.elim) (fun i _ h => h.nil)
  have hvb : ∀ b, v.ownBlock = some b → w3.heap.size < b := fun b hb => by
    rcases hV4 with h | ⟨g', h, h'⟩
    · rw [h] at hb; cases hb
    · rw [h] at hb; cases hb; simp at h'; omega
  have HP4 := Lib.hid hP4
  have HR4 := Lib.hid (HR3.out.kept hK4' (by have := HR3.out.lt; omega))
  have HG4 := Lib.hid (HG3.out.kept hK4' (by have := HG3.out.lt; omega))
  have Hrow4 := Lib.hid (Hrow3.out.kept hK4' (fun _ ad e h => by cases e; simp at h; omega))
  have Hfz4 : Hid (∀ j, w4.frozen? ⟨g, j, none⟩ = false) := Lib.hid (fun j => (World.frozen?_of_block (w := w3) (w' := w4) (a := ⟨g, j, none⟩) (hK4'.block g (by omega) (by omega))).trans (Hfz3.out j))
  have Hb4 := Lib.hid (bkept Hb3.out (Nat.le_refl _) hK4' (fun i hi h => by omega))
  have hz4 := hK4'.size
  have Hvb := Lib.hid hvb
  clear hP4 hK4 hV4 hK4' hvb HR3 HG3 Hrow3 Hfz3 Hb3
  generalize w3.heap.size = p at *
  go_wp2_with fail
  go_loopw [8, 45] (fun _ i wr => ∃ (k : Nat) (cs : List Nat), k ≤ len ∧ i = .int .i64 k ∧ RowB wr (some ⟨g, 0, none⟩) len cap' cs ∧ (∀ j, wr.frozen? ⟨g, j, none⟩ = false) ∧ Kept (· = g) w4 wr) (fun _ i _ => len - (intOf i).toNat)
  case atStart => exact ⟨0, bs, Nat.zero_le _, rfl, Hrow4.out, Hfz4.out, Kept.refl _ _⟩
  case round =>
    obtain ⟨k, cs, hk, rfl, hrk, hfk, hkk⟩ := hrel
    have HRk := Lib.hid hrk
    have HFk := Lib.hid hfk
    have HKk := Lib.hid hkk
    have hcm := hrk.max
    unfold maxLen at hcm
    have hle := hrk.le
    clear hrk hfk hkk
    by_cases hlt : k < len
    · have hc := HRk.out.at0 k hlt
      have hf := HFk.out k
      have hx := getD_lt HRk.out.lt k
      have hn := byte_next (cs.getD k 0)
      generalize cs.getD k 0 = c at *
      have hy : (c + 1) % 256 < 256 := Nat.mod_lt _ (by decide)
      generalize (c + 1) % 256 = c' at *
      go_wp2_with fail
      go_roundw
      case rel => exact ⟨k + 1, cs.set k c', by omega, by go_num, HRk.out.set k c' hlt hy, fun j => by rw [World.frozen?_setCell]; exact HFk.out j, HKk.out.setCell (p := ⟨g, k, none⟩) rfl _⟩
      case measure => simp [intOf]; omega
    · have HR5 := Lib.hid (HR4.out.kept HKk.out (by omega))
      have HG5 := Lib.hid (HG4.out.kept HKk.out (by omega))
      have HP5 := Lib.hid (HP4.out.kept HKk.out (by omega) (fun b hb => by have := Hvb.out b hb; omega))
      have Hb5 := Lib.hid (bkept Hb4.out (Nat.le_refl _) HKk.out (fun i hi h => by omega))
      clear HKk HFk HRk HR4 HG4 HP4 Hb4 Hrow4 Hfz4
      obtain ⟨w5, rfl⟩ : ∃ w5 : World, w5 = wr := ⟨_, rfl⟩
      have C := Lib.hid (penOut_ok p v bs w5 HP5.out (by rw [Hl.out]; omega))
      go_wp2_with fail
      clear hcm hle hlt hk
      refine C.out.mono ?_
      rintro e w6 ⟨g6, rfl, hg6, hG6, hB6⟩
      rw [Hl.out]
      have HG6 := Lib.hid hG6
      have HP6 := Lib.hid (HP5.out.kept (Kept.of_below (S := fun _ => False) hB6) (fun h => h) (fun _ _ h => h))
      have HR6 := Lib.hid (HR5.out.below hB6 HR5.out.lt)
      have HG36 := Lib.hid (HG5.out.below hB6 HG5.out.lt)
      have Hb6 := Lib.hid (bthen Hb5.out hB6)
      have hr5 := HR5.out.lt
      have hg35 := HG5.out.lt
      have hp5 := HP5.out.1.lt
      clear hG6 hB6 C HP5 HR5 HG5 Hb5
      have C := Lib.hid (penOut_ok p v bs w6 HP6.out (by rw [Hl.out]; omega))
      go_wp2_with fail
      refine C.out.mono ?_
      rintro e w7 ⟨g7, rfl, hg7, hG7, hB7⟩
      rw [Hl.out]
      have HG67 := Lib.hid (HG6.out.below hB7 HG6.out.lt)
      have HP7 := Lib.hid (HP6.out.kept (Kept.of_below (S := fun _ => False) hB7) (fun h => h) (fun _ _ h => h))
      have HR7 := Lib.hid (HR6.out.below hB7 HR6.out.lt)
      have HG37 := Lib.hid (HG36.out.below hB7 HG36.out.lt)
      have Hb7 := Lib.hid (bthen Hb6.out hB7)
      have hr6 := HR6.out.lt
      have hg36 := HG36.out.lt
      have hp6 := HP6.out.1.lt
      have hg66 := HG6.out.lt
      have hv6 : Hid (∀ b, v.ownBlock = some b → b < w6.heap.size) := Lib.hid (fun b hb => own_lt HP6.out.2.1 hb)
      have HG7 := Lib.hid hG7
      have hz7 := hB7.size
      clear hG7 hB7 C HP6 HR6 HG36 Hb6 HG6
      go_wp2_with fail
      go_loopw [13, 65] (fun _ i wr => ∃ (k : Nat) (cs : List Nat), k ≤ len ∧ i = .int .i64 k ∧ RowB wr (some ⟨g7, 0, none⟩) len len cs ∧ (∀ j, wr.frozen? ⟨g7, j, none⟩ = false) ∧ Kept (· = g7) w7 wr) (fun _ i _ => len - (intOf i).toNat)
      case atStart => exact ⟨0, bs, Nat.zero_le _, rfl, row_of_blk HG7.out Hlt.out len Hl.out (by omega), fun j => HG7.out.frozen j, Kept.refl _ _⟩
      case round =>
        obtain ⟨k, cs, hk, rfl, hrk, hfk, hkk⟩ := hrel
        have HRk := Lib.hid hrk
        have HFk := Lib.hid hfk
        have HKk := Lib.hid hkk
        clear hrk hfk hkk
        by_cases hlt : k < len
        · have hc := HRk.out.at0 k hlt
          have hf := HFk.out k
          have hx := getD_lt HRk.out.lt k
          have hn := byte_next (cs.getD k 0)
          generalize cs.getD k 0 = c at *
          have hy : (c + 1) % 256 < 256 := Nat.mod_lt _ (by decide)
          generalize (c + 1) % 256 = c' at *
          go_wp2_with fail
          go_roundw
          case rel => exact ⟨k + 1, cs.set k c', by omega, by go_num, HRk.out.set k c' hlt hy, fun j => by rw [World.frozen?_setCell]; exact HFk.out j, HKk.out.setCell (p := ⟨g7, k, none⟩) rfl _⟩
          case measure => simp [intOf]; omega
        · have HG68 := Lib.hid (HG67.out.kept HKk.out (by omega))
          have HP8 := Lib.hid (HP7.out.kept HKk.out (by omega) (fun b hb => by have := hv6.out b hb; omega))
          have HR8 := Lib.hid (HR7.out.kept HKk.out (by omega))
          have HG38 := Lib.hid (HG37.out.kept HKk.out (by omega))
          have hws : w.heap.size ≤ g7 := by omega
          have Hb8 := Lib.hid (bkept Hb7.out (Nat.le_refl _) HKk.out (fun i hi h => by omega))
          clear HKk HFk HRk HG67 HP7 HR7 HG37 Hb7 HG7 hv6
          obtain ⟨w8, rfl⟩ : ∃ w8 : World, w8 = wr := ⟨_, rfl⟩
          have C := Lib.hid (penOut_ok p v bs w8 HP8.out (by rw [Hl.out]; omega))
          go_wp2_with fail
          clear hlt hk
          refine C.out.mono ?_
          rintro e w9 ⟨g9, rfl, hg9, hG9, hB9⟩
          rw [Hl.out]
          have hb9 := bthen Hb8.out hB9
          have hr9 := HR8.out.below hB9 HR8.out.lt
          have hg39 := HG38.out.below hB9 HG38.out.lt
          have hg69 := HG68.out.below hB9 HG68.out.lt
          have R6 := row_of_blk hg69 Hlt.out len Hl.out (by omega)
          have R9 := row_of_blk hG9 Hlt.out len Hl.out (by omega)
          have R3 := row_of_blk hg39 Hlt.out len Hl.out (by omega)
          have Ra := Hr.out.below hb9
          have hwr : w.heap.size ≤ r := by omega
          have hr8 := HR8.out.lt
          have hne : ∀ ad, a = some ad → 0 < len → ¬ ad.block = r := fun ad e _ h => by
            obtain ⟨ad', e', h'⟩ := Hr.out.block h0
            rw [e] at e'; cases e'; omega
          have C1 : Hid (∀ w', Kept (fun _ => False) w9 w' → Calls Try.prog 14 #[.slice (some ⟨g6, 0, none⟩) len len, .slice a len cap] w' (Drawn true w')) := Lib.hid (fun w' hk => by
            have h := same_any _ _ _ _ _ _ bs bs w' (R6.kept hk (fun _ _ _ h => h)) (Ra.kept hk (fun _ _ _ h => h))
            rw [decide_eq_true rfl] at h
            exact h)
          have C2 : Hid (∀ w', Kept (fun _ => False) w9 w' → Calls Try.prog 14 #[.slice (some ⟨g9, 0, none⟩) len len, .slice a len cap] w' (Drawn true w')) := Lib.hid (fun w' hk => by
            have h := same_any _ _ _ _ _ _ bs bs w' (R9.kept hk (fun _ _ _ h => h)) (Ra.kept hk (fun _ _ _ h => h))
            rw [decide_eq_true rfl] at h
            exact h)
          have hn3' : ∀ ad, (some ⟨g3, 0, none⟩ : Option Addr) = some ad → ad.block ≠ r := fun ad e => by cases e; exact hn3
          have C3 : Hid (∀ w', Kept (fun _ => False) w9 w' → Calls Try.prog 16 #[.pointer (some ⟨r, 0, none⟩), .int .i64 n] w' (RdGave r (some ⟨g3, 0, none⟩) len len bs n w')) := Lib.hid (fun w' hk => rdBytes_ok r _ len len bs n w' ⟨hr9.kept hk (fun h => h), R3.kept hk (fun _ _ _ h => h), hn3'⟩ h2)
          have C4 : Hid (∀ w', Kept (· = r) w9 w' → Calls Try.prog 14 #[.slice (some ⟨g3, 0, none⟩) n n, .slice a n cap] w' (Drawn true w')) := Lib.hid (fun w' hk => by
            have h := same_any _ _ _ _ _ _ (bs.take n) (bs.take n) w' (((R3.kept hk (fun _ ad e h => hn3' ad e h)).to n h2).recap n (Nat.le_refl _) h2) ((Ra.kept hk (fun _ ad e h => hne ad e h0 h)).to n h2)
            rw [decide_eq_true rfl] at h
            exact h)
          have C5 : Hid (∀ w', Blk w' r 54 #[.slice (slAddr (some ⟨g3, 0, none⟩) len n) (len - n) (len - n), .bool false] → Calls Try.prog 18 #[.pointer (some ⟨r, 0, none⟩)] w' fun e w'' => e = .returned (.int .i64 ((len : Int) - (n : Int))) ∧ w' = w'') := Lib.hid (fun w' hB => by
            have h := rest_any r _ _ _ _ w' hB
            rw [show ((len - n : Nat) : Int) = (len : Int) - (n : Int) by omega] at h
            exact h)
          have s1 := fun w => run_slice_to w a len cap n (by have := Hr.out.le; omega) Hr.out.max
          have Hb9 := Lib.hid hb9
          clear hb9 hr9 hg39 hg69 R6 R9 R3 Ra hne hn3' hG9 hB9 C HG68 HP8 HR8 HG38 Hb8
          go_wp2_with fail
          have hF : Kept (fun _ => False) w9 w9.drew := (Kept.refl _ _).drew
          refine wp_region_any (by kernel_rfl) ?_
          change wpAny _ _ _ _ _ _ _ (World.drew _)
          refine take_at (i := 0) (d := 79) (v := .int .i64 0) rfl (by kernel_rfl) (by kernel_rfl) (by kernel_rfl) (by kernel_rfl) (fun _ _ _ h => h) (Or.inl ⟨by kernel_rfl, fun w => by kernel_rfl⟩) ?_
          refine take_at (i := 1) (d := 80) (v := .bool true) rfl (by kernel_rfl) (by kernel_rfl) (by kernel_rfl) (by kernel_rfl) (fun _ _ _ h => h) (Or.inl ⟨by kernel_rfl, fun w => by kernel_rfl⟩) ?_
          refine take_at (i := 2) (d := 81) (v := .bool true) rfl (by kernel_rfl) (by kernel_rfl) (by kernel_rfl) (by kernel_rfl) (fun _ _ _ h => h) (Or.inl ⟨by kernel_rfl, fun w => by kernel_rfl⟩) ?_
          refine take_at (i := 3) (d := 82) (v := .int .i64 0) rfl (by kernel_rfl) (by kernel_rfl) (by kernel_rfl) (by kernel_rfl) (fun _ _ _ h => h) (Or.inl ⟨by kernel_rfl, fun w => by kernel_rfl⟩) ?_
          refine take_at (i := 4) (d := 83) (v := .bool true) rfl (by kernel_rfl) (by kernel_rfl) (by kernel_rfl) (by kernel_rfl) (fun _ _ _ h => h) (Or.inl ⟨by kernel_rfl, fun w => by kernel_rfl⟩) ?_
          refine take_at (i := 5) (d := 84) (v := .bool true) rfl (by kernel_rfl) (by kernel_rfl) (by kernel_rfl) (by kernel_rfl) (fun _ _ _ h => h) (Or.inl ⟨by kernel_rfl, fun w => by kernel_rfl⟩) ?_
          refine take_at (i := 6) (d := 85) (v := .bool true) rfl (by kernel_rfl) (by kernel_rfl) (by kernel_rfl) (by kernel_rfl) (fun _ _ _ h => h) (Or.inl ⟨by kernel_rfl, fun w => by kernel_rfl⟩) ?_
          refine take_at (i := 7) (d := 86) (v := .int .i64 0) rfl (by kernel_rfl) (by kernel_rfl) (by kernel_rfl) (by kernel_rfl) (fun _ _ _ h => h) (Or.inl ⟨by kernel_rfl, fun w => by kernel_rfl⟩) ?_
          refine take_at (i := 8) (d := 87) (v := .bool true) rfl (by kernel_rfl) (by kernel_rfl) (by kernel_rfl) (by kernel_rfl) (fun _ _ _ h => h) (Or.inl ⟨by kernel_rfl, fun w => by kernel_rfl⟩) ?_
          refine take_at (i := 9) (d := 88) (v := .bool true) rfl (by kernel_rfl) (by kernel_rfl) (by kernel_rfl) (by kernel_rfl) (fun _ _ _ h => h) (Or.inl ⟨by kernel_rfl, fun w => by kernel_rfl⟩) ?_
          refine take_at (i := 10) (d := 89) (v := .bool true) rfl (by kernel_rfl) (by kernel_rfl) (by kernel_rfl) (by kernel_rfl) (fun _ _ _ h => h) (Or.inl ⟨by kernel_rfl, fun w => by kernel_rfl⟩) ?_
          refine take_at (i := 11) (d := 90) (v := .slice (some ⟨g6, 0, none⟩) len len) rfl (by kernel_rfl) (by kernel_rfl) (by kernel_rfl) (by kernel_rfl) (fun _ _ _ h => h) (Or.inl ⟨by kernel_rfl, fun w => by kernel_rfl⟩) ?_
          refine take_at (i := 12) (d := 91) (v := .slice a len cap) rfl (by kernel_rfl) (by kernel_rfl) (by kernel_rfl) (by kernel_rfl) (fun _ _ _ h => h) (Or.inl ⟨by kernel_rfl, fun w => by kernel_rfl⟩) ?_
          go_frame
          refine any_one (i := 13) rfl (by kernel_rfl) (by kernel_rfl) (fun K' hK => ?_)
          go_wp2_with fail
          refine (C1.out _ hF).mono ?_
          rintro e wn ⟨rfl, qn, hqn⟩
          have hF1 : Kept (fun _ => False) w9 wn := by rw [hqn]; exact Kept.drewN hF qn
          clear hqn hF
          refine hK _ _ ?_
          clear hK K'
          refine take_at (i := 14) (d := 93) (v := .bool true) rfl (by kernel_rfl) (by kernel_rfl) (by kernel_rfl) (by kernel_rfl) (fun _ _ _ h => h) (Or.inl ⟨by kernel_rfl, fun w => by kernel_rfl⟩) ?_
          refine take_at (i := 15) (d := 94) (v := .bool true) rfl (by kernel_rfl) (by kernel_rfl) (by kernel_rfl) (by kernel_rfl) (fun _ _ _ h => h) (Or.inl ⟨by kernel_rfl, fun w => by kernel_rfl⟩) ?_
          refine take_at (i := 16) (d := 95) (v := .slice (some ⟨g9, 0, none⟩) len len) rfl (by kernel_rfl) (by kernel_rfl) (by kernel_rfl) (by kernel_rfl) (fun _ _ _ h => h) (Or.inl ⟨by kernel_rfl, fun w => by kernel_rfl⟩) ?_
          refine take_at (i := 17) (d := 96) (v := .slice a len cap) rfl (by kernel_rfl) (by kernel_rfl) (by kernel_rfl) (by kernel_rfl) (fun _ _ _ h => h) (Or.inl ⟨by kernel_rfl, fun w => by kernel_rfl⟩) ?_
          go_frame
          refine any_one (i := 18) rfl (by kernel_rfl) (by kernel_rfl) (fun K' hK => ?_)
          go_wp2_with fail
          refine (C2.out _ hF1).mono ?_
          rintro e wm ⟨rfl, qn, hqn⟩
          have hF2 : Kept (fun _ => False) w9 wm := by rw [hqn]; exact Kept.drewN hF1 qn
          clear hqn hF1
          refine hK _ _ ?_
          clear hK K'
          refine take_at (i := 19) (d := 98) (v := .bool true) rfl (by kernel_rfl) (by kernel_rfl) (by kernel_rfl) (by kernel_rfl) (fun _ _ _ h => h) (Or.inl ⟨by kernel_rfl, fun w => by kernel_rfl⟩) ?_
          refine take_at (i := 20) (d := 99) (v := .bool true) rfl (by kernel_rfl) (by kernel_rfl) (by kernel_rfl) (by kernel_rfl) (fun _ _ _ h => h) (Or.inl ⟨by kernel_rfl, fun w => by kernel_rfl⟩) ?_
          refine take_at (i := 21) (d := 100) (v := .pointer (some ⟨r, 0, none⟩)) rfl (by kernel_rfl) (by kernel_rfl) (by kernel_rfl) (by kernel_rfl) (fun _ _ _ h => h) (Or.inl ⟨by kernel_rfl, fun w => by kernel_rfl⟩) ?_
          refine take_at (i := 22) (d := 101) (v := .int .i64 (n : Nat)) rfl (by kernel_rfl) (by kernel_rfl) (by kernel_rfl) (by kernel_rfl) (fun _ _ _ h => h) (Or.inl ⟨by kernel_rfl, fun w => by kernel_rfl⟩) ?_
          refine take_at (i := 24) (d := 103) (v := .slice a len cap) rfl (by kernel_rfl) (by kernel_rfl) (by kernel_rfl) (by kernel_rfl) (fun _ _ _ h => h) (Or.inl ⟨by kernel_rfl, fun w => by kernel_rfl⟩) ?_
          refine take_at (i := 25) (d := 104) (v := .int .i64 (n : Nat)) rfl (by kernel_rfl) (by kernel_rfl) (by kernel_rfl) (by kernel_rfl) (fun _ _ _ h => h) (Or.inl ⟨by kernel_rfl, fun w => by kernel_rfl⟩) ?_
          go_frame
          refine take_at (i := 26) (d := 105) (v := .slice a n cap) rfl (by kernel_rfl) (by kernel_rfl) (by kernel_rfl) (by kernel_rfl) (fun _ _ _ h => h) (Or.inl ⟨by kernel_rfl, fun w => by go_simp⟩) ?_
          go_frame
          refine any_one (i := 23) rfl (by kernel_rfl) (by kernel_rfl) (fun K' hK => ?_)
          go_wp2_with fail
          refine (C3.out _ hF2).mono ?_
          rintro e wl ⟨rfl, hA3, _, hK3⟩
          have hR3 : Kept (· = r) w9 wl := hF2.andThen hK3 (fun _ _ h => h.elim) (fun _ _ h => h)
          have HB3 := Lib.hid hA3.1
          clear hA3 hK3 hF2
          refine hK _ _ ?_
          clear hK K'
          refine any_one (i := 27) rfl (by kernel_rfl) (by kernel_rfl) (fun K' hK => ?_)
          go_wp2_with fail
          refine (C4.out _ hR3).mono ?_
          rintro e wk ⟨rfl, qn, hqn⟩
          have hR4 : Kept (· = r) w9 wk := by rw [hqn]; exact Kept.drewN hR3 qn
          have HB4 := Lib.hid (show Blk wk r 54 #[.slice (slAddr (some ⟨g3, 0, none⟩) len n) (len - n) (len - n), .bool false] by rw [hqn]; exact Blk.drewN HB3.out qn)
          clear hqn hR3 HB3
          refine hK _ _ ?_
          clear hK K'
          refine take_at (i := 28) (d := 107) (v := .bool true) rfl (by kernel_rfl) (by kernel_rfl) (by kernel_rfl) (by kernel_rfl) (fun _ _ _ h => h) (Or.inl ⟨by kernel_rfl, fun w => by kernel_rfl⟩) ?_
          refine take_at (i := 29) (d := 108) (v := .bool true) rfl (by kernel_rfl) (by kernel_rfl) (by kernel_rfl) (by kernel_rfl) (fun _ _ _ h => h) (Or.inl ⟨by kernel_rfl, fun w => by kernel_rfl⟩) ?_
          refine take_at (i := 30) (d := 109) (v := .pointer (some ⟨r, 0, none⟩)) rfl (by kernel_rfl) (by kernel_rfl) (by kernel_rfl) (by kernel_rfl) (fun _ _ _ h => h) (Or.inl ⟨by kernel_rfl, fun w => by kernel_rfl⟩) ?_
          refine take_at (i := 32) (d := 111) (v := .slice a len cap) rfl (by kernel_rfl) (by kernel_rfl) (by kernel_rfl) (by kernel_rfl) (fun _ _ _ h => h) (Or.inl ⟨by kernel_rfl, fun w => by kernel_rfl⟩) ?_
          refine take_at (i := 33) (d := 112) (v := .int .i64 (len : Nat)) rfl (by kernel_rfl) (by kernel_rfl) (by kernel_rfl) (by kernel_rfl) (fun _ _ _ h => h) (Or.inl ⟨by kernel_rfl, fun w => by go_simp⟩) ?_
          refine take_at (i := 34) (d := 113) (v := .int .i64 (n : Nat)) rfl (by kernel_rfl) (by kernel_rfl) (by kernel_rfl) (by kernel_rfl) (fun _ _ _ h => h) (Or.inl ⟨by kernel_rfl, fun w => by kernel_rfl⟩) ?_
          go_frame
          refine take_at (i := 35) (d := 114) (v := .int .i64 ((len : Int) - (n : Int))) rfl (by kernel_rfl) (by kernel_rfl) (by kernel_rfl) (by kernel_rfl) (fun _ _ _ h => h) (Or.inl ⟨by kernel_rfl, fun w => by (go_simp; rw [IntKind.wrap_i64]; omega)⟩) ?_
          go_frame
          refine any_one (i := 31) rfl (by kernel_rfl) (by kernel_rfl) (fun K' hK => ?_)
          go_wp2_with fail
          refine (C5.out _ HB4.out).mono ?_
          rintro e wj ⟨rfl, rfl⟩
          refine hK _ _ ?_
          clear hK K'
          refine take_at (i := 36) (d := 115) (v := .bool true) rfl (by kernel_rfl) (by kernel_rfl) (by kernel_rfl) (by kernel_rfl) (fun _ _ _ h => h) (Or.inl ⟨by kernel_rfl, fun w => by go_simp⟩) ?_
          refine take_at (i := 37) (d := 116) (v := .bool true) rfl (by kernel_rfl) (by kernel_rfl) (by kernel_rfl) (by kernel_rfl) (fun _ _ _ h => h) (Or.inl ⟨by kernel_rfl, fun w => by kernel_rfl⟩) ?_
          refine take_at (i := 38) (d := 4) (v := .bool true) rfl (by kernel_rfl) (by kernel_rfl) (by kernel_rfl) (by kernel_rfl) (fun _ _ _ h => h) (Or.inl ⟨by kernel_rfl, fun w => by kernel_rfl⟩) ?_
          refine wpAny_done (by kernel_rfl) ?_ _
          go_frame
          go_wp2_with fail
          go_ret
          exact ⟨rfl, bkept Hb9.out (Nat.le_refl _) hR4 (fun i hi h => by omega)⟩

theorem walkCodecOwn (a : Option Addr) (len cap : Nat) (bs : List Nat) (n : Int) (w : World) (hr : RowB w a len cap bs) (hn : (Lit.int .i64 n).wf = true) :
    Calls Try.prog 7 #[.slice a len cap, .int .i64 n] w fun e w' => e = .returned (.bool true) ∧ Below w.heap.size w w' := by
  have hm : len ≤ 9223372036854775807 := by have h1 := hr.max; have h2 := hr.le; unfold maxLen at h1; omega
  by_cases h : len = 0 ∨ 200 < len ∨ n < 0 ∨ (len : Int) < n
  · exact walkOwn_out a len cap n w hm h
  · obtain ⟨k, rfl⟩ : ∃ k : Nat, n = k := ⟨n.toNat, by omega⟩
    exact walkOwn_in a len cap bs k w hr (by omega) (by omega) (by omega)

end Go.Proofs.Ytamenbchebfplaa
