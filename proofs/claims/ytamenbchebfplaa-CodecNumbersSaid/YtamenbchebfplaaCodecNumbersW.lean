/-
  The walk of CodecNumbers.
-/
import Derived.Test.YtamenbchebfplaaCodecD
namespace Go.Proofs.Ytamenbchebfplaa
open Go.RowKit CrcM
set_option linter.unusedVariables false
set_option linter.unnecessarySimpa false
set_option linter.unusedSimpArgs false

set_option maxHeartbeats 400000 in
theorem walkNumbers_out (wd a b : Int) (w : World) (h : fitB wd a = false ∨ fitB wd b = false) :
    Calls Try.prog 6 #[.int .i64 wd, .int .i64 a, .int .i64 b] w fun e w' => e = .returned (.bool true) ∧ Below w.heap.size w w' := by
  cases ha : fitB wd a with
  | false =>
    have Ha := Lib.hid ha
    clear ha h
    go_enter Try.func6, Try.ntmps6
    go_wp2_with fail
    refine (anchor2_any _).mono ?_
    rintro e w1 ⟨rfl, hb1⟩
    go_wp2_with fail
    refine (rfits_any _ _ _).mono ?_; rintro e' w' ⟨rfl, rfl⟩; rw [Ha.out]
    go_wp2_with fail
    go_ret
    exact ⟨rfl, hb1⟩
  | true =>
    have hb : fitB wd b = false := by rcases h with h | h; · rw [ha] at h; cases h
                                      · exact h
    have Ha := Lib.hid ha
    have Hb := Lib.hid hb
    clear ha hb h
    go_enter Try.func6, Try.ntmps6
    go_wp2_with fail
    refine (anchor2_any _).mono ?_
    rintro e w1 ⟨rfl, hb1⟩
    go_wp2_with fail
    refine (rfits_any _ _ _).mono ?_; rintro e' w' ⟨rfl, rfl⟩; rw [Ha.out]
    go_wp2_with fail
    refine (rfits_any _ _ _).mono ?_; rintro e' w' ⟨rfl, rfl⟩; rw [Hb.out]
    go_wp2_with fail
    go_ret
    exact ⟨rfl, hb1⟩

set_option maxRecDepth 100000 in
set_option maxHeartbeats 2000000 in
theorem walkNumbers_in (k x y : Nat) (w : World) (ha : fitB (k : Int) (x : Int) = true) (hb : fitB (k : Int) (y : Int) = true) :
    Calls Try.prog 6 #[.int .i64 k, .int .i64 x, .int .i64 y] w fun e w' => e = .returned (.bool true) ∧ Below w.heap.size w w' := by
  have hw := of_decide_eq_true ha
  have k1 : 1 ≤ k := by omega
  have k7 : k ≤ 7 := by omega
  clear hw
  have Ha := Lib.hid ha
  have Hb := Lib.hid hb
  clear ha hb
  go_enter Try.func6, Try.ntmps6
  go_wp2_with fail
  refine (anchor2_any _).mono ?_
  rintro e w1 ⟨rfl, hb1⟩
  go_wp2_with fail
  refine (rfits_any _ _ _).mono ?_; rintro e' w' ⟨rfl, rfl⟩; rw [Ha.out]
  go_wp2_with fail
  refine (rfits_any _ _ _).mono ?_; rintro e' w' ⟨rfl, rfl⟩; rw [Hb.out]
  go_wp2_with fail
  have hp0 : PenAt ((w1.alloc (Obj.cells #[.slice none 0 0, .bool false] 27)).alloc (Obj.cells #[.slice none 0 0, .bool false] 27)) w1.heap.size (.slice none 0 0) [] := pen_new _ ((Blk.new w1 _ _).alloc _)
  have hq0 : PenAt ((w1.alloc (Obj.cells #[.slice none 0 0, .bool false] 27)).alloc (Obj.cells #[.slice none 0 0, .bool false] 27)) (w1.heap.size + 1) (.slice none 0 0) [] := pen_new _ (by have := Blk.new (w1.alloc (Obj.cells #[.slice none 0 0, .bool false] 27)) 27 #[.slice none 0 0, .bool false]; simpa using this)
  have hbw : Below w.heap.size w ((w1.alloc (Obj.cells #[.slice none 0 0, .bool false] 27)).alloc (Obj.cells #[.slice none 0 0, .bool false] 27)) := bthen hb1 (bthen (below_alloc _ _) (below_alloc _ _))
  have hz1 : w.heap.size ≤ w1.heap.size := hb1.size
  have hz2 : w1.heap.size + 2 ≤ ((w1.alloc (Obj.cells #[.slice none 0 0, .bool false] 27)).alloc (Obj.cells #[.slice none 0 0, .bool false] 27)).heap.size := by simp
  generalize hW : ((w1.alloc (Obj.cells #[.slice none 0 0, .bool false] 27)).alloc (Obj.cells #[.slice none 0 0, .bool false] 27)) = w2 at *
  clear hW
  generalize hP : w1.heap.size = p at *
  clear hP hb1
  have C := Lib.hid (penNum_ok p _ [] k x w2 hp0 Ha.out (by decide))
  have Hq := Lib.hid hq0
  have Hbw := Lib.hid hbw
  clear hp0 hq0 hbw
  refine C.out.mono ?_
  rintro e w3 ⟨rfl, v, hP3, hK3, hV3⟩
  have hv0 : ∀ g, (Value.slice none 0 0).ownBlock = some g → False := fun g h => by cases h
  have hq3 : PenAt w3 (p + 1) (.slice none 0 0) [] := Hq.out.kept hK3 (fun h => by have := h.nil; omega) (fun g h => (hv0 g h).elim)
  have hb3 : Below w.heap.size w w3 := bkept Hbw.out (Nat.le_refl _) hK3 (fun i hi h => by have := h.nil; omega)
  have hvb : ∀ g, v.ownBlock = some g → w2.heap.size ≤ g := fun g hg => by
    rcases hV3 with h | ⟨g', h, h'⟩
    · rw [h] at hg; cases hg
    · rw [h] at hg; cases hg; exact h'
  rw [List.nil_append] at hP3
  have hz3 := hK3.size
  have C2 := Lib.hid (penNum_ok (p + 1) _ [] k y w3 hq3 Hb.out (by decide))
  have Hp3 := Lib.hid hP3
  have Hb3 := Lib.hid hb3
  have Hvb := Lib.hid hvb
  clear hP3 hK3 hV3 hq3 hb3 hvb hv0 Hq Hbw C
  go_wp2_with fail
  refine C2.out.mono ?_
  rintro e w4 ⟨rfl, v', hQ4, hK4, hV4⟩
  have hp4 : PenAt w4 p v (leb k x) := Hp3.out.kept hK4 (fun h => by have := h.nil; omega) (fun g hg h => by have := Hvb.out g hg; have := h.nil; omega)
  have hb4 : Below w.heap.size w w4 := bkept Hb3.out (Nat.le_refl _) hK4 (fun i hi h => by have := h.nil; omega)
  rw [List.nil_append] at hQ4
  have C3 := Lib.hid (penOut_ok p v _ w4 hp4 (by rw [leb_length]; omega))
  have Hq4 := Lib.hid hQ4
  have Hb4 := Lib.hid hb4
  clear hp4 hQ4 hK4 hV4 hb4 Hp3 Hb3 Hvb C2
  go_wp2_with fail
  refine C3.out.mono ?_
  rintro e w5 ⟨g5, rfl, hg5, hG5, hB5⟩
  have C4 := Lib.hid (penOut_ok (p + 1) v' _ w5 (Hq4.out.kept (Kept.of_below (S := fun _ => False) hB5) (fun h => h) (fun _ _ h => h)) (by rw [leb_length]; omega))
  have Hb5 := Lib.hid (bthen Hb4.out hB5)
  have HG5 := Lib.hid hG5
  rw [leb_length] at *
  clear hg5 hG5 hB5 C3 Hq4 Hb4
  go_wp2_with fail
  refine C4.out.mono ?_
  rintro e w6 ⟨g6, rfl, hg6, hG6, hB6⟩
  have HG6 := Lib.hid (row_of_blk hG6 (leb_lt _ _) k (leb_length _ _) (by omega))
  have HR6 := Lib.hid (row_of_blk (HG5.out.below hB6 HG5.out.lt) (leb_lt _ _) k (leb_length _ _) (by omega))
  have Hb6 := Lib.hid (bthen Hb5.out hB6)
  rw [leb_length] at *
  have C5 := Lib.hid (newRd_any _ _ _ _ w6 HR6.out (by omega))
  clear hg6 hG6 hB6 C4 HG5 Hb5
  go_wp2_with fail
  refine C5.out.mono ?_
  rintro e w7 ⟨r, g7, rfl, hr7, hg7, hn7, hR7, hG7, hB7⟩
  rw [leb_length] at hR7
  have C6 := Lib.hid (rdNum_ok r (some ⟨g7, 0, none⟩) k k (leb k x) k w7 ⟨hR7, row_of_blk hG7 (leb_lt _ _) k (leb_length _ _) (by omega), fun ad h => by cases h; exact hn7⟩ k1 k7 (Nat.le_refl _))
  have HB7 := Lib.hid hB7
  clear hR7 hG7 hB7 C5 hn7 hg7
  go_wp2_with fail
  refine C6.out.mono ?_
  rintro e w8 ⟨rfl, hA8, hK8⟩
  rw [List.take_of_length_le (by rw [leb_length]; exact Nat.le_refl _), leb_back k x Ha.out]
  have hb8 : Below w6.heap.size w6 w8 := bkept HB7.out (Nat.le_refl _) hK8 (fun i hi h => by omega)
  have C7 := Lib.hid (same_any _ _ _ _ _ _ _ _ w8 (HR6.out.below hb8) (HG6.out.below hb8))
  have HB8 := Lib.hid (bthen Hb6.out hb8)
  have Hi := Lib.hid (show decide (leb k x = leb k y) = decide (x = y) by rw [Bool.eq_iff_iff, decide_eq_true_iff, decide_eq_true_iff]; exact leb_inj k x y Ha.out Hb.out)
  rw [Hi.out] at C7
  clear hA8 hK8 hb8 C6 HB7 HR6 HG6 Hb6 hr7
  go_wp2_with fail
  refine C7.out.mono ?_
  rintro e w9 ⟨rfl, q, rfl⟩
  by_cases hxy : x = y
  · subst hxy
    rw [decide_eq_true rfl]
    go_wp2_with fail
    go_ret
    exact ⟨rfl, below_drewN HB8.out q⟩
  · have h1 : ((x : Int) == (y : Int)) = false := by rw [beq_eq_false_iff_ne]; omega
    rw [decide_eq_false hxy]
    go_wp2_with fail
    go_ret
    exact ⟨rfl, below_drewN HB8.out q⟩

theorem walkCodecNumbers (wd : Int) (a : Int) (b : Int) (w : World) (h1 : (Lit.int .i64 wd).wf = true) (h2 : (Lit.int .i64 a).wf = true) (h3 : (Lit.int .i64 b).wf = true) :
    Calls Try.prog 6 #[.int .i64 wd, .int .i64 a, .int .i64 b] w fun e w' => e = .returned (.bool true) ∧ Below w.heap.size w w' := by
  by_cases ha : fitB wd a = true
  · by_cases hb : fitB wd b = true
    · have h1 := of_decide_eq_true ha
      have h2 := of_decide_eq_true hb
      obtain ⟨k, rfl⟩ : ∃ k : Nat, wd = k := ⟨wd.toNat, by omega⟩
      obtain ⟨x, rfl⟩ : ∃ x : Nat, a = x := ⟨a.toNat, by omega⟩
      obtain ⟨y, rfl⟩ : ∃ y : Nat, b = y := ⟨b.toNat, by omega⟩
      exact walkNumbers_in k x y w ha hb
    · exact walkNumbers_out wd a b w (.inr (by simpa using hb))
  · exact walkNumbers_out wd a b w (.inl (by simpa using ha))

end Go.Proofs.Ytamenbchebfplaa
