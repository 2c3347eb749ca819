/-
  Layer 3 (frame), ninth part: what is written is read; what a pattern does.
-/
import Derived.Test.YtdjnfikacjfkkaaFrameG
namespace Go.Proofs.Ytdjnfikacjfkkaa
open Go.RowKit CrcM
set_option linter.unusedVariables false
set_option linter.unnecessarySimpa false
set_option linter.unusedSimpArgs false

theorem leb_drop (k s j : Nat) (h : k ≤ j) : (leb k s).drop j = [] := List.drop_of_length_le (by rw [leb_length]; exact h)
theorem leb_take (k s j : Nat) (h : k ≤ j) : (leb k s).take j = leb k s := List.take_of_length_le (by rw [leb_length]; exact h)

/-- The middle part of three. -/
theorem part_mid {α : Type} (a b c : List α) (j k : Nat) (ha : a.length = j) (hb : b.length = k) : ((a ++ b ++ c).drop j).take k = b := by
  subst ha hb
  rw [List.append_assoc, List.drop_left, List.take_left]

theorem ahead_k (f : FrR) : ((ahead f).drop 0).take 1 = leb 1 f.k.toNat := by
  have := part_mid [] (leb 1 f.k.toNat) (leb 1 1 ++ leb 2 f.z.toNat ++ leb 2 f.o.toNat ++ leb 4 f.e.toNat ++ leb 6 f.s.toNat ++ f.b) 0 1 rfl (leb_length _ _)
  rw [← this]; congr 2; all_goals simp [ahead]
theorem ahead_v (f : FrR) : ((ahead f).drop 1).take 1 = leb 1 1 := by
  have := part_mid (leb 1 f.k.toNat) (leb 1 1) (leb 2 f.z.toNat ++ leb 2 f.o.toNat ++ leb 4 f.e.toNat ++ leb 6 f.s.toNat ++ f.b) 1 1 (leb_length _ _) (leb_length _ _)
  rw [← this]; congr 2; all_goals simp [ahead]
theorem ahead_z (f : FrR) : ((ahead f).drop 2).take 2 = leb 2 f.z.toNat := by
  have := part_mid (leb 1 f.k.toNat ++ leb 1 1) (leb 2 f.z.toNat) (leb 2 f.o.toNat ++ leb 4 f.e.toNat ++ leb 6 f.s.toNat ++ f.b) 2 2 (by simp [leb_length]) (leb_length _ _)
  rw [← this]; congr 2; all_goals simp [ahead]
theorem ahead_o (f : FrR) : ((ahead f).drop 4).take 2 = leb 2 f.o.toNat := by
  have := part_mid (leb 1 f.k.toNat ++ leb 1 1 ++ leb 2 f.z.toNat) (leb 2 f.o.toNat) (leb 4 f.e.toNat ++ leb 6 f.s.toNat ++ f.b) 4 2 (by simp [leb_length]) (leb_length _ _)
  rw [← this]; congr 2; all_goals simp [ahead]
theorem ahead_e (f : FrR) : ((ahead f).drop 6).take 4 = leb 4 f.e.toNat := by
  have := part_mid (leb 1 f.k.toNat ++ leb 1 1 ++ leb 2 f.z.toNat ++ leb 2 f.o.toNat) (leb 4 f.e.toNat) (leb 6 f.s.toNat ++ f.b) 6 4 (by simp [leb_length]) (leb_length _ _)
  rw [← this]; congr 2; all_goals simp [ahead]
theorem ahead_s (f : FrR) : ((ahead f).drop 10).take 6 = leb 6 f.s.toNat := by
  have := part_mid (leb 1 f.k.toNat ++ leb 1 1 ++ leb 2 f.z.toNat ++ leb 2 f.o.toNat ++ leb 4 f.e.toNat) (leb 6 f.s.toNat) f.b 10 6 (by simp [leb_length]) (leb_length _ _)
  rw [← this]; congr 2; all_goals simp [ahead]
theorem ahead_b (f : FrR) (h : f.b.length = 44) : ((ahead f).drop 16).take 44 = f.b := by
  have := part_mid (leb 1 f.k.toNat ++ leb 1 1 ++ leb 2 f.z.toNat ++ leb 2 f.o.toNat ++ leb 4 f.e.toNat ++ leb 6 f.s.toNat) f.b [] 16 44 (by simp [leb_length]) h
  rw [← this]; congr 2; all_goals simp [ahead]

/-- A number that fits is read as it was. -/
theorem num_back (k : Nat) (x : Int) (h0 : 0 ≤ x) (h : x.toNat < 2 ^ (8 * k)) : ((num (leb k x.toNat) : Nat) : Int) = x := by
  rw [leb_num, Nat.mod_eq_of_lt h]; omega

theorem rd_ahead (f : FrR) (hr : rightB f = true) (hl : f.b.length = 44) : rd (ahead f) = f := by
  obtain ⟨⟨h1, h2⟩, ⟨h3, h4⟩, ⟨h5, h6⟩, ⟨h7, h8⟩, h9, h10⟩ := (right_iff f).1 hr
  unfold rd
  rw [ahead_k, ahead_z, ahead_o, ahead_e, ahead_s, ahead_b f hl, num_back 1 f.k (by omega) (by omega), num_back 2 f.z h3 (by omega), num_back 2 f.o h5 (by omega), num_back 4 f.e (by omega) (by omega), num_back 6 f.s h9 (by omega)]
theorem ver_ahead (f : FrR) : ver (ahead f) = 1 := by unfold ver; rw [ahead_v]; decide

theorem sec_take (f : FrR) (hl : f.b.length = 44) : (sec f).take 60 = ahead f := sealed_take _ 60 (ahead_length hl)

/-- What is written is read. -/
theorem dec_sec (f : FrR) (hr : rightB f = true) (hl : f.b.length = 44) (hb : ∀ c ∈ f.b, c < 256) : decE (sec f) = 0 ∧ decF (sec f) = f := by
  have h1 : soundB (sec f) = true := decide_eq_true (sealed_sound (ahead f) 60 (ahead_length hl) (ahead_lt hb))
  have h2 : formB (sec f) = true := by unfold formB; rw [sec_take f hl, ver_ahead, rd_ahead f hr hl, hr]; rfl
  unfold decE decF
  rw [h1, h2, sec_take f hl, rd_ahead f hr hl]
  simp

theorem sec_inj (f g : FrR) (hf : rightB f = true) (hg : rightB g = true) (hlf : f.b.length = 44) (hlg : g.b.length = 44) : sec f = sec g ↔ f = g := by
  constructor
  · intro h
    rw [← rd_ahead f hf hlf, ← rd_ahead g hg hlg, ← sec_take f hlf, ← sec_take g hlg, h]
  · intro h; rw [h]

/-- A pattern that is no multiple is found, and no other one by the sum. -/
theorem spoilt_iff (f : FrR) (q : List Nat) (hl : f.b.length = 44) (hb : ∀ c ∈ f.b, c < 256) (hq : q.length = 64) (hqb : ∀ c ∈ q, c < 256) : soundB (zx (sec f) q 64) = decide (ovr 0 q = 0) := by
  have h := pattern_spec (ahead f) q 60 (ahead_lt hb) hqb (ahead_length hl) hq
  unfold soundB
  rw [Bool.eq_iff_iff, decide_eq_true_eq, decide_eq_true_eq]
  exact h
theorem decE_sum (bs : List Nat) : (decE bs == 11) = !soundB bs := by
  unfold decE
  cases soundB bs
  · rfl
  · cases formB bs <;> rfl

theorem zx_twice (xs q : List Nat) (hx : xs.length = 64) (hxb : ∀ c ∈ xs, c < 256) : zx (zx xs q 64) q 64 = xs := by
  apply list_eq_of_getD (n := 64) (zx_length _ _ _) hx
  intro i hi
  have h1 : ∀ a b : List Nat, (zx a b 64).getD i 0 = a.getD i 0 ^^^ b.getD i 0 := fun a b => by simp [zx, List.getD, hi]
  rw [h1, h1, Nat.xor_assoc, Nat.xor_self, Nat.xor_zero]

/-- At tells the place of another frame. -/
theorem at_sec (f : FrR) (zn of : Int) (hr : rightB f = true) (hl : f.b.length = 44) (hb : ∀ c ∈ f.b, c < 256) :
    (f.z = zn ∧ f.o = of → atE (sec f) zn of = 0 ∧ atF (sec f) zn of = f) ∧ (¬ (f.z = zn ∧ f.o = of) → atE (sec f) zn of = 12 ∧ atF (sec f) zn of = fr0) := by
  obtain ⟨h1, h2⟩ := dec_sec f hr hl hb
  unfold atE atF
  rw [h1, h2]
  constructor
  · intro h; simp [h]
  · intro h; simp only [true_and, if_true]; rw [if_neg h, if_neg h]; exact ⟨rfl, rfl⟩

end Go.Proofs.Ytdjnfikacjfkkaa
