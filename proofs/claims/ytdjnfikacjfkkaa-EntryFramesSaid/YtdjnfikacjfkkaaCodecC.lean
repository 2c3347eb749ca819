/-
  Contracts of layer 2 (codec), third part: readers.
-/
import Derived.Test.YtdjnfikacjfkkaaCodecB
namespace Go.Proofs.Ytdjnfikacjfkkaa
open Go.RowKit CrcM
set_option linter.unusedVariables false
set_option linter.unnecessarySimpa false
set_option linter.unusedSimpArgs false

/-- A reader that has these bytes left, in this row. -/
def RdA (w : World) (r : Nat) (a : Option Addr) (n cap : Nat) (bs : List Nat) : Prop :=
  Blk w r 73 #[.slice a n cap, .bool false] ∧ RowB w a n cap bs ∧ ∀ ad, a = some ad → ad.block ≠ r
/-- A reader that went wrong. -/
def RdBad (w : World) (r : Nat) : Prop := Blk w r 73 #[.slice none 0 0, .bool true]

/-- What New tells. -/
def NewPost (bs : List Nat) (w : World) (e : Ending) (w' : World) : Prop :=
  ∃ r g, e = .returned (.pointer (some ⟨r, 0, none⟩)) ∧ w.heap.size ≤ r ∧ w.heap.size ≤ g ∧ g ≠ r ∧ Blk w' r 73 #[.slice (some ⟨g, 0, none⟩) bs.length bs.length, .bool false] ∧ Blk w' g 5 (bA bs) ∧ Below w.heap.size w w'

set_option maxHeartbeats 400000 in
theorem newRd_any (a : Option Addr) (len cap : Nat) (bs : List Nat) (w : World) (hr : RowB w a len cap bs) (hs : len ≤ 1000000000) :
    Calls Try.prog 32 #[.slice a len cap] w (NewPost bs w) := by
  have hl := hr.length
  subst hl
  have C := Lib.hid (own_any a bs.length cap bs w hr hs)
  clear hr
  go_enter Try.func32, Try.ntmps32
  go_wp2_with fail
  refine C.out.mono ?_
  rintro e' w2 ⟨g, rfl, hg, hG, hB⟩
  have HG := Lib.hid hG
  clear hG
  go_wp2_with fail
  go_ret
  exact ⟨w2.heap.size, g, rfl, hB.size, hg, Nat.ne_of_lt HG.out.lt, Blk.new _ _ _, HG.out.alloc _, bthen hB (below_alloc w2 _)⟩

theorem i64_or_nat (a b : Nat) (ha : a < 9223372036854775808) (hb : b < 9223372036854775808) : bits .or .i64 (a : Int) (b : Int) = ((a ||| b : Nat) : Int) := by
  have hx : a ||| b < 2 ^ 63 := Nat.or_lt_two_pow (by omega) (by omega)
  show IntKind.i64.wrap ((BitVec.ofInt 64 (a : Int) ||| BitVec.ofInt 64 (b : Int)).toNat : Int) = _
  rw [BitVec.toNat_or, ofInt_u64 a (by omega), ofInt_u64 b (by omega), IntKind.wrap_i64]
  omega

theorem slAddr_block (a : Option Addr) (cap lo : Nat) (ad : Addr) (h : slAddr a cap lo = some ad) : ∃ ad', a = some ad' ∧ ad'.block = ad.block := by
  unfold slAddr at h
  split at h
  · exact ⟨ad, h, rfl⟩
  · cases a with
    | none => cases h
    | some x => obtain rfl := Option.some.inj h; exact ⟨x, rfl, by unfold Addr.add; split <;> rfl⟩

/-- What a call tells of a reader that is wrong behind it, beside a value v. -/
def RdSpoilt (v : Value) (r : Nat) (w : World) (e : Ending) (w' : World) : Prop := e = .returned v ∧ RdBad w' r ∧ Kept (· = r) w w'

set_option maxHeartbeats 400000 in
theorem fail_any (r : Nat) (v : Value) (b : Bool) (w : World) (hB : Blk w r 73 #[v, .bool b]) :
    Calls Try.prog 39 #[.pointer (some ⟨r, 0, none⟩)] w (RdSpoilt (.tuple #[]) r w) := by
  have c0 : w.cell? ⟨r, 0, none⟩ = some v := hB.cell 0
  have c1 : w.cell? ⟨r, 1, none⟩ = some (.bool b) := hB.cell 1
  have f0 := hB.frozen 0
  have f1 := hB.frozen 1
  have HB := Lib.hid hB
  clear hB
  go_enter Try.func39, Try.ntmps39
  go_wp2_with fail
  go_end0
  exact ⟨rfl, (HB.out.set 0 _).set 1 _, ((Kept.refl (· = r) w).setCell (p := ⟨r, 0, none⟩) rfl _).setCell (p := ⟨r, 1, none⟩) rfl _⟩

set_option maxHeartbeats 400000 in
theorem rdBytes_wrong (r : Nat) (a : Option Addr) (n cap : Nat) (b : Bool) (x : Int) (w : World) (hB : Blk w r 73 #[.slice a n cap, .bool b]) (hx : x < 0 ∨ (n : Int) < x) :
    Calls Try.prog 34 #[.pointer (some ⟨r, 0, none⟩), .int .i64 x] w (RdSpoilt (.slice none 0 0) r w) := by
  have c0 : w.cell? ⟨r, 0, none⟩ = some (.slice a n cap) := hB.cell 0
  have C := Lib.hid (fail_any r _ _ w hB)
  clear hB
  by_cases h0 : x < 0
  · clear hx
    go_enter Try.func34, Try.ntmps34
    go_wp2_with fail
    refine C.out.mono ?_
    rintro e' w2 ⟨rfl, h1, h2⟩
    have H := Lib.hid (And.intro h1 h2)
    clear h1 h2
    go_wp2_with fail
    go_ret
    exact ⟨rfl, H.out.1, H.out.2⟩
  · have hx' : (n : Int) < x := by omega
    clear hx
    go_enter Try.func34, Try.ntmps34
    go_wp2_with fail
    refine C.out.mono ?_
    rintro e' w2 ⟨rfl, h1, h2⟩
    have H := Lib.hid (And.intro h1 h2)
    clear h1 h2
    go_wp2_with fail
    go_ret
    exact ⟨rfl, H.out.1, H.out.2⟩

/-- What Bytes tells: the first x bytes; the others are left. -/
def RdGave (r : Nat) (a : Option Addr) (n cap : Nat) (bs : List Nat) (x : Nat) (w : World) (e : Ending) (w' : World) : Prop :=
  e = .returned (.slice a x x) ∧ RdA w' r (slAddr a cap x) (n - x) (cap - x) (bs.drop x) ∧ RowB w' a x x (bs.take x) ∧ Kept (· = r) w w'

set_option maxHeartbeats 400000 in
theorem rdBytes_raw (r : Nat) (a : Option Addr) (n cap : Nat) (b : Bool) (x : Nat) (w : World) (hB : Blk w r 73 #[.slice a n cap, .bool b]) (hx : x ≤ n) (hn : n ≤ cap) (hm : cap ≤ maxLen) :
    Calls Try.prog 34 #[.pointer (some ⟨r, 0, none⟩), .int .i64 x] w fun e w' => e = .returned (.slice a x x) ∧ w' = w.setCell ⟨r, 0, none⟩ (.slice (slAddr a cap x) (n - x) (cap - x)) := by
  have c0 : w.cell? ⟨r, 0, none⟩ = some (.slice a n cap) := hB.cell 0
  have f0 := hB.frozen 0
  have s1 := fun w => run_sliceAt_three w a n cap x (by omega) hm
  have s2 := fun w => run_sliceAt_from w a n cap x hx hn hm
  clear hB hm
  have d0 : decide ((n : Int) < (x : Int)) = false := decide_eq_false (by omega)
  go_enter Try.func34, Try.ntmps34
  go_wp2_with fail
  go_ret
  exact ⟨rfl, rfl⟩

theorem rdBytes_ok (r : Nat) (a : Option Addr) (n cap : Nat) (bs : List Nat) (x : Nat) (w : World) (h : RdA w r a n cap bs) (hx : x ≤ n) :
    Calls Try.prog 34 #[.pointer (some ⟨r, 0, none⟩), .int .i64 x] w (RdGave r a n cap bs x w) := by
  obtain ⟨hB, hR, hne⟩ := h
  refine (rdBytes_raw r a n cap false x w hB hx hR.le hR.max).mono ?_
  rintro e w' ⟨rfl, rfl⟩
  have hk : Kept (· = r) w (w.setCell ⟨r, 0, none⟩ (.slice (slAddr a cap x) (n - x) (cap - x))) := (Kept.refl (· = r) w).setCell (p := ⟨r, 0, none⟩) rfl _
  have hR' := hR.kept hk (fun _ ad he => hne ad he)
  refine ⟨rfl, ⟨hB.set 0 _, hR'.from x hx, fun ad had => ?_⟩, (hR'.to x hx).recap x (Nat.le_refl _) (Nat.le_trans hx hR.le), hk⟩
  obtain ⟨ad', e1, e2⟩ := slAddr_block a cap x ad had
  rw [← e2]; exact hne ad' e1

theorem rdBytes_okI (X : Int) (r : Nat) (a : Option Addr) (n cap : Nat) (bs : List Nat) (x : Nat) (hX : X = x) (w : World) (h : RdA w r a n cap bs) (hx : x ≤ n) :
    Calls Try.prog 34 #[.pointer (some ⟨r, 0, none⟩), .int .i64 X] w (RdGave r a n cap bs x w) := by
  subst hX; exact rdBytes_ok r a n cap bs x w h hx

/-- A reader is as it was where its blocks are. -/
theorem RdA.keptD {w w' : World} {r : Nat} {a : Option Addr} {n cap : Nat} {bs : List Nat} (h : RdA w r a n cap bs) (k : Kept (fun _ => False) w w') : RdA w' r a n cap bs :=
  ⟨h.1.kept k (fun h => h), h.2.1.kept k (fun _ _ _ h => h), h.2.2⟩

/-- A reader that went wrong stays so, and tells nothing. -/
theorem rdBytes_bad (r : Nat) (x : Int) (w : World) (h : RdBad w r) :
    Calls Try.prog 34 #[.pointer (some ⟨r, 0, none⟩), .int .i64 x] w (RdSpoilt (.slice none 0 0) r w) := by
  by_cases h0 : x = 0
  · subst h0
    refine (rdBytes_raw r none 0 0 true 0 w h (Nat.le_refl _) (Nat.le_refl _) (Nat.zero_le _)).mono ?_
    rintro e w' ⟨rfl, rfl⟩
    exact ⟨rfl, Blk.set h 0 _, (Kept.refl (· = r) w).setCell (p := ⟨r, 0, none⟩) rfl _⟩
  · exact rdBytes_wrong r none 0 0 true x w h (by omega)

/-- What Done tells. -/
def doneN (b : Bool) (n : Nat) : Int := if b = true ∨ 0 < n then 14 else 0
theorem doneN_bad (n : Nat) : doneN true n = 14 := by simp [doneN]
theorem doneN_left (b : Bool) (n : Nat) (h : 0 < n) : doneN b n = 14 := by unfold doneN; rw [if_pos (.inr h)]
theorem doneN_ok : doneN false 0 = 0 := by simp [doneN]

/-- What Num tells of a reader that is wrong behind it. -/
theorem rdNum_wid (r : Nat) (v : Value) (b : Bool) (wd : Int) (w : World) (hB : Blk w r 73 #[v, .bool b]) (hw : widB wd = false) :
    Calls Try.prog 33 #[.pointer (some ⟨r, 0, none⟩), .int .i64 wd] w (RdSpoilt (.int .i64 0) r w) := by
  have Hw := Lib.hid hw
  have C := Lib.hid (fail_any r v b w hB)
  clear hB hw
  go_enter Try.func33, Try.ntmps33
  go_wp2_with (go_at_call 38; refine (isWidth_any _ _).mono ?_; rintro e' w' ⟨rfl, rfl⟩; rw [Hw.out])
  refine C.out.mono ?_
  rintro e' w2 ⟨rfl, h1, h2⟩
  have H := Lib.hid (And.intro h1 h2)
  clear h1 h2
  go_wp2_with fail
  go_ret
  exact ⟨rfl, H.out.1, H.out.2⟩

set_option maxHeartbeats 400000 in
theorem rdNum_few (r : Nat) (a : Option Addr) (n cap : Nat) (b : Bool) (wd : Int) (w : World) (hB : Blk w r 73 #[.slice a n cap, .bool b]) (hw : widB wd = true) (hx : (n : Int) < wd) :
    Calls Try.prog 33 #[.pointer (some ⟨r, 0, none⟩), .int .i64 wd] w (RdSpoilt (.int .i64 0) r w) := by
  have Hw := Lib.hid hw
  have C := Lib.hid (rdBytes_wrong r a n cap b wd w hB (.inr hx))
  clear hB hw
  go_enter Try.func33, Try.ntmps33
  go_wp2_with (go_at_call 38; refine (isWidth_any _ _).mono ?_; rintro e' w' ⟨rfl, rfl⟩; rw [Hw.out])
  refine C.out.mono ?_
  rintro e' w2 ⟨rfl, h1, h2⟩
  have H := Lib.hid (And.intro h1 h2)
  clear h1 h2
  go_wp2_with fail
  refine wp_loop_rounds 1 ?_
  rw [rounds_succ]
  go_wp2_with fail
  go_ret
  exact ⟨rfl, H.out.1, H.out.2⟩

/-- A reader that went wrong stays so, and tells 0. -/
theorem rdNum_bad (r : Nat) (wd : Int) (w : World) (h : RdBad w r) :
    Calls Try.prog 33 #[.pointer (some ⟨r, 0, none⟩), .int .i64 wd] w (RdSpoilt (.int .i64 0) r w) := by
  cases hw : widB wd with
  | true => exact rdNum_few r none 0 0 true wd w h hw (by have := of_decide_eq_true hw; omega)
  | false => exact rdNum_wid r _ true wd w h hw

/-- Where the width is none, or too few bytes are left. -/
theorem rdNum_wrong (r : Nat) (a : Option Addr) (n cap : Nat) (b : Bool) (wd : Int) (w : World) (hB : Blk w r 73 #[.slice a n cap, .bool b]) (h : wd < 1 ∨ 7 < wd ∨ (n : Int) < wd) :
    Calls Try.prog 33 #[.pointer (some ⟨r, 0, none⟩), .int .i64 wd] w (RdSpoilt (.int .i64 0) r w) := by
  by_cases hw : 1 ≤ wd ∧ wd ≤ 7
  · exact rdNum_few r a n cap b wd w hB (decide_eq_true hw) (by omega)
  · exact rdNum_wid r _ b wd w hB (decide_eq_false hw)

/-- What Num tells of a sound reader. -/
def RdTold (r : Nat) (a : Option Addr) (n cap : Nat) (bs : List Nat) (k : Nat) (w : World) (e : Ending) (w' : World) : Prop :=
  e = .returned (.int .i64 (num (bs.take k) : Nat)) ∧ RdA w' r (slAddr a cap k) (n - k) (cap - k) (bs.drop k) ∧ Kept (· = r) w w'

theorem num7_lt (bs : List Nat) (hb : ∀ c ∈ bs, c < 256) (k : Nat) (hk : k ≤ 7) : num (bs.take k) < 72057594037927936 := by
  have h1 := num_lt (bs.take k) (fun c hc => hb c (List.mem_of_mem_take hc))
  have : (bs.take k).length ≤ 7 := by simp; omega
  exact Nat.lt_of_lt_of_le h1 (Nat.le_trans (Nat.pow_le_pow_right (by decide) (Nat.mul_le_mul_left 8 this)) (by decide))

theorem int_next (bs : List Nat) (k : Nat) (hk : k < 7) (hl : k < bs.length) (hb : ∀ c ∈ bs, c < 256) :
    bits BinOp.or IntKind.i64 ((num (bs.take k) : Nat) : Int) (wrap64 (((bs.getD k 0 : Nat) : Int) * 2 ^ (8 * k))) = ((num (bs.take (k + 1)) : Nat) : Int) := by
  have ht : ∀ c ∈ bs.take k, c < 256 := fun c hc => hb c (List.mem_of_mem_take hc)
  have h1 := num7_lt bs hb k (by omega)
  have hlen : (bs.take k).length = k := by simp; omega
  have hp : 2 ^ (8 * k) ≤ 2 ^ 48 := Nat.pow_le_pow_right (by decide) (by omega)
  have hc := getD_lt hb k
  have h2 : bs.getD k 0 * 2 ^ (8 * k) < 9223372036854775808 := by
    have : bs.getD k 0 * 2 ^ (8 * k) ≤ 255 * 2 ^ 48 := Nat.mul_le_mul (by omega) hp
    omega
  rw [take_snoc_nat bs k hl, num_snoc _ _ ht, hlen]
  have e : (((bs.getD k 0 : Nat) : Int) * 2 ^ (8 * k)) = ((bs.getD k 0 * 2 ^ (8 * k) : Nat) : Int) := by
    rw [Int.natCast_mul, Int.natCast_pow]; rfl
  rw [e, show wrap64 ((bs.getD k 0 * 2 ^ (8 * k) : Nat) : Int) = ((bs.getD k 0 * 2 ^ (8 * k) : Nat) : Int) from by unfold wrap64; omega]
  exact i64_or_nat _ _ (by omega) h2

set_option maxRecDepth 100000 in
set_option maxHeartbeats 1000000 in
theorem rdNum_ok (r : Nat) (a : Option Addr) (n cap : Nat) (bs : List Nat) (k : Nat) (w : World) (h : RdA w r a n cap bs) (h1 : 1 ≤ k) (h7 : k ≤ 7) (hx : k ≤ n) :
    Calls Try.prog 33 #[.pointer (some ⟨r, 0, none⟩), .int .i64 k] w (RdTold r a n cap bs k w) := by
  have Hw := Lib.hid (show widB (k : Int) = true from decide_eq_true ⟨by omega, by omega⟩)
  have C := Lib.hid (rdBytes_ok r a n cap bs k w h hx)
  have Hl := Lib.hid h.2.1.length
  have Hb := Lib.hid h.2.1.lt
  clear h
  go_enter Try.func33, Try.ntmps33
  go_wp2_with (go_at_call 38; refine (isWidth_any _ _).mono ?_; rintro e' w' ⟨rfl, rfl⟩; rw [Hw.out])
  refine C.out.mono ?_
  rintro e' w2 ⟨rfl, h2, h3, h4⟩
  have H2 := Lib.hid h2
  have H4 := Lib.hid h4
  obtain ⟨b, off, rfl, hc⟩ := h3.cells (by omega)
  have Hc := Lib.hid hc
  clear h2 h3 h4 hc C
  go_wp2_with fail
  go_loop [6, 7, 18] (fun t _ i => ∃ j : Nat, j ≤ k ∧ i = .int .i64 j ∧ t = .int .i64 (num (bs.take j) : Nat)) (fun _ _ i => k - (intOf i).toNat)
  case atStart => exact ⟨0, Nat.zero_le _, rfl, rfl⟩
  case round =>
    obtain ⟨j, hj, rfl, rfl⟩ := hrel
    by_cases hlt : j < k
    · have hck := Hc.out j hlt
      rw [show (bs.take k).getD j 0 = bs.getD j 0 by simp [List.getD, List.getElem?_take_of_lt hlt]] at hck
      have hC0 : bs.getD j 0 < 256 := getD_lt Hb.out j
      have hn := Lib.hid (int_next bs j (by omega) (by rw [Hl.out]; omega) Hb.out)
      generalize bs.getD j 0 = c at *
      generalize num (bs.take j) = t at *
      go_wp2_with fail
      go_round
      case rel => exact ⟨j + 1, by omega, by go_num, by rw [← hn.out]⟩
      case measure => simp [intOf]; omega
    · obtain rfl : j = k := by omega
      go_wp2_with fail
      go_ret
      exact ⟨rfl, H2.out, H4.out⟩

end Go.Proofs.Ytdjnfikacjfkkaa
