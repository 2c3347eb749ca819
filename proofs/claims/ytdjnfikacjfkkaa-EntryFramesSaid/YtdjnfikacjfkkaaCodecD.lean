/-
  Contracts of the document's own answers of layer 2 (Num, Read), and of the anchor.
-/
import Derived.Test.YtdjnfikacjfkkaaCodecC
import Derived.Test.YtdjnfikacjfkkaaBaseB
namespace Go.Proofs.Ytdjnfikacjfkkaa
open Go.RowKit CrcM
set_option linter.unusedVariables false
set_option linter.unnecessarySimpa false
set_option linter.unusedSimpArgs false

/-- What the document's Num tells: a row of the call's own. -/
def RNumPost (bs : List Nat) (w : World) (e : Ending) (w' : World) : Prop :=
  ∃ a cap, e = .returned (.slice a bs.length cap) ∧ RowB w' a bs.length cap bs ∧ (∀ ad, a = some ad → w.heap.size ≤ ad.block) ∧ Below w.heap.size w w'

theorem div_next (x j : Nat) : x / 2 ^ (8 * j) / 256 = x / 2 ^ (8 * (j + 1)) := by
  rw [Nat.div_div_eq_div_mul, show 8 * (j + 1) = 8 * j + 8 by omega, Nat.pow_add]

set_option maxRecDepth 100000 in
set_option maxHeartbeats 1000000 in
theorem rnum_any (k x : Nat) (w : World) (hk : k ≤ 1000000) (hx : x < 9223372036854775808) :
    Calls Try.prog 25 #[.int .i64 k, .int .i64 x] w (RNumPost (leb k x) w) := by
  go_enter Try.func25, Try.ntmps25
  go_wp2_with fail
  go_loopw [1, 5, 6] (fun t v i wr => ∃ j : Nat, j ≤ k ∧ i = .int .i64 j ∧ t = .int .i64 (x / 2 ^ (8 * j) : Nat) ∧ wr.ownsRow w.heap.size 5 1 v j (bvals (leb j x)) ∧ Below w.heap.size w wr) (fun _ _ i _ => k - (intOf i).toNat)
  case atStart => exact ⟨0, Nat.zero_le _, rfl, by simp, World.ownsRow_nil w _ _ _, Below.refl _ _⟩
  case round =>
    obtain ⟨j, hj, rfl, rfl, hO, hB⟩ := hrel
    have HO := Lib.hid hO
    have HB := Lib.hid hB
    have hsz := hB.size
    clear hO hB
    by_cases hlt : j < k
    · have hy := Lib.hid (leb_succ j x)
      have hn := Lib.hid (div_next x j)
      have hyx : x / 2 ^ (8 * j) ≤ x := Nat.div_le_self _ _
      generalize x / 2 ^ (8 * j) = y at *
      have hv : (y : Int) % 256 = ((y % 256 : Nat) : Int) := by omega
      have hz : y % 256 < 256 := Nat.mod_lt _ (by decide)
      have Hy : Hid (leb (j + 1) x = leb j x ++ [y % 256]) := hy
      clear hy
      generalize y % 256 = z at *
      go_wp2_with (refine wpList_append_bytes rfl (.tmp 12) (.tmp 16) rfl w.heap.size _ j (leb j x) rfl (HO.out.alloc _) _ 1 1 [z] rfl (row_one _ wr.heap.size z _ hz (heap_alloc_new wr _)) (by omega) (by simp; omega) ?_; intro v' w1 hown hgrow; have HO1 := Lib.hid hown; have HB1 : Hid (Below w.heap.size w w1) := Lib.hid ((HB.out.alloc hsz _).grown hgrow (by simp; omega) (fun g hg => (HO.out.lt g hg).1)); clear hown hgrow; go_frame)
      go_roundw
      case rel => exact ⟨j + 1, by omega, by go_num, by rw [← hn.out]; go_num, by rw [Hy.out]; exact HO1.out, HB1.out⟩
      case measure => simp [intOf]; omega
    · obtain rfl : j = k := by omega
      go_wp2_with fail
      go_ret
      obtain ⟨a, cap, rfl, hr⟩ := own_row HO.out (leb_lt _ _)
      have hl := leb_length j x
      refine ⟨a, cap, ret_val (by rw [hl]; rfl), by rw [hl]; exact hr, fun ad had => ?_, HB.out⟩
      subst had
      exact (HO.out.lt _ rfl).1

/-- Numbers from behind. -/
theorem num_drop (bs : List Nat) (j : Nat) (h : j < bs.length) : num (bs.drop j) = bs.getD j 0 + 256 * num (bs.drop (j + 1)) := by
  rw [List.drop_eq_getElem_cons h]
  show bs[j] + 256 * num (bs.drop (j + 1)) = _
  simp [List.getD, h]

set_option maxRecDepth 100000 in
set_option maxHeartbeats 1000000 in
theorem rread_any (a : Option Addr) (n cap : Nat) (bs : List Nat) (w : World) (h : RowB w a n cap bs) (h7 : n ≤ 7) :
    Calls Try.prog 26 #[.slice a n cap] w fun e w' => e = .returned (.int .i64 (num bs : Nat)) ∧ w = w' := by
  by_cases h0 : n = 0
  · subst h0
    have e1 : bs = [] := List.length_eq_zero_iff.1 h.length
    subst e1
    clear h
    go_enter Try.func26, Try.ntmps26
    go_wp2_with fail
    refine wp_loop_rounds 1 ?_
    rw [rounds_succ]
    go_wp2_with fail
    go_ret
    exact ⟨rfl, rfl⟩
  · obtain ⟨b, off, rfl, hc⟩ := h.cells (by omega)
    have Hc := Lib.hid hc
    have Hl := Lib.hid h.length
    have Hb := Lib.hid h.lt
    have hle := h.le
    have hm : cap ≤ 9223372036854775807 := by have := h.max; unfold maxLen at this; omega
    clear h hc
    go_enter Try.func26, Try.ntmps26
    go_wp2_with fail
    go_loop [3, 4] (fun t i => ∃ j : Nat, j ≤ n ∧ i = .int .i64 ((j : Int) - 1) ∧ t = .int .i64 (num (bs.drop j) : Nat)) (fun _ i => ((intOf i) + 1).toNat)
    case atStart => exact ⟨n, Nat.le_refl _, rfl, by rw [List.drop_of_length_le (by rw [Hl.out]; exact Nat.le_refl _)]; rfl⟩
    case round =>
      obtain ⟨j, hj, rfl, rfl⟩ := hrel
      by_cases hlt : 0 < j
      · obtain ⟨i, rfl⟩ : ∃ i, j = i + 1 := ⟨j - 1, by omega⟩
        have hck := Hc.out i (by omega)
        have hC0 : bs.getD i 0 < 256 := getD_lt Hb.out i
        have hn := Lib.hid (num_drop bs i (by rw [Hl.out]; omega))
        have hT : num (bs.drop (i + 1)) < 281474976710656 := by
          have h1 := num_lt (bs.drop (i + 1)) (fun c hc => Hb.out c (List.mem_of_mem_drop hc))
          have : (bs.drop (i + 1)).length ≤ 6 := by rw [List.length_drop, Hl.out]; omega
          exact Nat.lt_of_lt_of_le h1 (Nat.le_trans (Nat.pow_le_pow_right (by decide) (Nat.mul_le_mul_left 8 this)) (by decide))
        generalize bs.getD i 0 = c at *
        generalize num (bs.drop (i + 1)) = t at *
        rw [show ((i + 1 : Nat) : Int) - 1 = (i : Int) by omega]
        go_wp2_with fail
        go_round
        case rel => exact ⟨i, by omega, rfl, by rw [hn.out]; go_num⟩
        case measure => simp [intOf]
      · obtain rfl : j = 0 := by omega
        rw [List.drop_zero]
        go_wp2_with fail
        go_ret
        exact ⟨rfl, rfl⟩

theorem penNum_okI (WD X : Int) (p : Nat) (v : Value) (bs : List Nat) (wd x : Nat) (hWD : WD = wd) (hX : X = x) (w : World) (hp : PenAt w p v bs) (hf : fitB wd x = true) (hs : bs.length + 7 ≤ 1000000000) :
    Calls Try.prog 29 #[.pointer (some ⟨p, 0, none⟩), .int .i64 WD, .int .i64 X] w (PenWrote p v bs (leb wd x) w) := by
  subst hWD hX; exact penNum_ok p v bs wd x w hp hf hs

/-- A new pen. -/
theorem pen_new {w : World} (p : Nat) (h : Blk w p 61 #[.slice none 0 0, .bool false]) : PenAt w p (.slice none 0 0) [] := ⟨h, World.ownsRow_nil w _ _ _, by simp⟩

theorem leb_inj (k x y : Nat) (hx : fitB (k : Int) (x : Int) = true) (hy : fitB (k : Int) (y : Int) = true) : leb k x = leb k y ↔ x = y := by
  have h1 := of_decide_eq_true hx
  have h2 := of_decide_eq_true hy
  rw [Int.toNat_natCast, pow256, pow256'] at h1 h2
  constructor
  · intro h
    have := congrArg num h
    rw [leb_num, leb_num, Nat.mod_eq_of_lt (by omega), Nat.mod_eq_of_lt (by omega)] at this
    exact this
  · rintro rfl; rfl
theorem leb_back (k x : Nat) (hx : fitB (k : Int) (x : Int) = true) : num (leb k x) = x := by
  have h1 := of_decide_eq_true hx
  rw [Int.toNat_natCast, pow256, pow256'] at h1
  rw [leb_num, Nat.mod_eq_of_lt (by omega)]

end Go.Proofs.Ytdjnfikacjfkkaa
