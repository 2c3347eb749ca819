/-
  The document's Same: two slices of bytes.
-/
import Derived.Test.YtamenbchebfplaaBaseA
namespace Go.Proofs.Ytamenbchebfplaa
open Go.RowKit CrcM
set_option linter.unusedVariables false
set_option linter.unnecessarySimpa false
set_option linter.unusedSimpArgs false

/-- The world of a call that only draws. -/
def Drawn (b : Bool) (w : World) (e : Ending) (w' : World) : Prop := e = .returned (.bool b) ∧ ∃ n, w' = w.drewN n

set_option maxHeartbeats 400000 in
theorem same_len (a b : Option Addr) (la ca lb cb : Nat) (w : World) (hne : la ≠ lb) :
    Calls Try.prog 14 #[.slice a la ca, .slice b lb cb] w (Drawn false w) := by
  have h1 := bne_int hne
  go_enter Try.func14, Try.ntmps14
  go_wp2_with fail
  go_ret
  exact ⟨rfl, 0, rfl⟩

theorem take_eq_succ {xs bs : List Nat} {k : Nat} (ha : k < xs.length) (hb : k < bs.length) (h : xs.take k = bs.take k) (e : xs.getD k 0 = bs.getD k 0) : xs.take (k + 1) = bs.take (k + 1) := by
  rw [take_snoc_nat xs k ha, take_snoc_nat bs k hb, h, e]

set_option maxRecDepth 100000 in
set_option maxHeartbeats 1000000 in
theorem same_zero (a b : Option Addr) (ca cb : Nat) (w : World) :
    Calls Try.prog 14 #[.slice a 0 ca, .slice b 0 cb] w (Drawn true w) := by
  go_enter Try.func14, Try.ntmps14
  go_wp2_with fail
  refine wp_loop_rounds 1 ?_
  rw [rounds_succ]
  go_wp2_with fail
  go_ret
  exact ⟨rfl, 0, rfl⟩

set_option maxRecDepth 100000 in
set_option maxHeartbeats 1000000 in
theorem same_some (b1 o1 b2 o2 len ca cb : Nat) (xs bs : List Nat) (w : World) (hla : xs.length = len) (hlb : bs.length = len) (hca : len ≤ ca) (hcb : len ≤ cb) (hma : ca ≤ 9223372036854775807) (hmb : cb ≤ 9223372036854775807)
    (hA : ∀ i, i < len → w.cell? ⟨b1, o1 + i, none⟩ = some (.int .u8 (xs.getD i 0 : Nat))) (hB : ∀ i, i < len → w.cell? ⟨b2, o2 + i, none⟩ = some (.int .u8 (bs.getD i 0 : Nat))) :
    Calls Try.prog 14 #[.slice (some ⟨b1, o1, none⟩) len ca, .slice (some ⟨b2, o2, none⟩) len cb] w (Drawn (decide (xs = bs)) w) := by
  have HA := Lib.hid hA
  have HB := Lib.hid hB
  have Hla := Lib.hid hla
  have Hlb := Lib.hid hlb
  clear hA hB hla hlb
  go_enter Try.func14, Try.ntmps14
  go_wp2_with fail
  go_loopw [5] (fun i wr => ∃ (k q : Nat), k ≤ len ∧ i = .int .i64 k ∧ xs.take k = bs.take k ∧ wr = w.drewN q) (fun i _ => len - (intOf i).toNat)
  case atStart => exact ⟨0, 0, Nat.zero_le _, rfl, rfl, rfl⟩
  case round =>
    obtain ⟨k, q, hk, rfl, ht, rfl⟩ := hrel
    have Ht := Lib.hid ht
    clear ht
    by_cases hlt : k < len
    · have cA := HA.out k hlt
      have cB := HB.out k hlt
      have hk0 : (0 : Int) ≤ (k : Int) := by omega
      have hk1 : (k : Int) < (len : Int) := by omega
      by_cases he : xs.getD k 0 = bs.getD k 0
      · have Hn := Lib.hid (take_eq_succ (by rw [Hla.out]; exact hlt) (by rw [Hlb.out]; exact hlt) Ht.out he)
        rw [he] at cA
        generalize bs.getD k 0 = x at *
        clear he
        go_wp2_with fail
        go_quiet (fail)
        go_wp2_with fail
        go_roundw
        case rel => exact ⟨k + 1, q + nq, by omega, by go_num, Hn.out, rfl⟩
        case measure => simp [intOf]; omega
      · have hne := bne_int he
        have Hf : Hid (decide (xs = bs) = false) := Lib.hid (decide_eq_false (fun e => he (by rw [e])))
        generalize xs.getD k 0 = x at *
        generalize bs.getD k 0 = y at *
        clear he
        go_wp2_with fail
        go_quiet (fail)
        go_wp2_with fail
        go_ret
        exact ⟨by rw [Hf.out]; rfl, q + nq, by rw [World.drewN_drewN]⟩
    · obtain rfl : k = len := by omega
      have Hf : Hid (decide (xs = bs) = true) := Lib.hid (decide_eq_true (by
        have := Ht.out
        rwa [List.take_of_length_le (by rw [Hla.out]; exact Nat.le_refl _), List.take_of_length_le (by rw [Hlb.out]; exact Nat.le_refl _)] at this))
      go_wp2_with fail
      go_ret
      exact ⟨by rw [Hf.out]; rfl, q, rfl⟩

theorem same_any (a b : Option Addr) (la ca lb cb : Nat) (xs bs : List Nat) (w : World) (ha : RowB w a la ca xs) (hb : RowB w b lb cb bs) :
    Calls Try.prog 14 #[.slice a la ca, .slice b lb cb] w (Drawn (decide (xs = bs)) w) := by
  by_cases hl : la = lb
  · subst hl
    by_cases h0 : la = 0
    · subst h0
      have e1 : xs = [] := List.length_eq_zero_iff.1 ha.length
      have e2 : bs = [] := List.length_eq_zero_iff.1 hb.length
      subst e1 e2
      exact same_zero a b ca cb w
    · obtain ⟨b1, o1, rfl, h1⟩ := ha.cells (by omega)
      obtain ⟨b2, o2, rfl, h2⟩ := hb.cells (by omega)
      have m1 := ha.max
      have m2 := hb.max
      unfold maxLen at m1 m2
      exact same_some b1 o1 b2 o2 la ca cb xs bs w ha.length hb.length ha.le hb.le (by omega) (by omega) h1 h2
  · have e : decide (xs = bs) = false := decide_eq_false (fun e => hl (by rw [← ha.length, ← hb.length, e]))
    rw [e]
    exact same_len a b la ca lb cb w hl

end Go.Proofs.Ytamenbchebfplaa
