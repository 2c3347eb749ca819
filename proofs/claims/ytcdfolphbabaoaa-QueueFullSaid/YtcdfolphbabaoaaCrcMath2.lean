/-
  More of the plain mathematics of layer 1: numbers of lists of bytes; patterns.
-/
import Derived.Test.YtcdfolphbabaoaaCrcMath
namespace Go.Proofs.Ytcdfolphbabaoaa.CrcM
set_option linter.unusedVariables false
set_option linter.unnecessarySimpa false

theorem num_lt (b : List Nat) (h : ∀ c ∈ b, c < 256) : num b < 2 ^ (8 * b.length) := by
  induction b with
  | nil => simp [num]
  | cons c b ih =>
    have hc := h c (by simp)
    have := ih (fun x hx => h x (by simp [hx]))
    have e : 2 ^ (8 * (c :: b).length) = 256 * 2 ^ (8 * b.length) := by
      rw [List.length_cons, Nat.mul_succ, Nat.pow_add, Nat.mul_comm]
    rw [e]; show c + 256 * num b < _
    omega

theorem num_append (a b : List Nat) (ha : ∀ c ∈ a, c < 256) : num (a ++ b) = num a ^^^ (2 ^ (8 * a.length) * num b) := by
  have e : num (a ++ b) = num a + 2 ^ (8 * a.length) * num b := by
    induction a with
    | nil => simp [num]
    | cons c a ih =>
      have := ih (fun x hx => ha x (by simp [hx]))
      have e : 2 ^ (8 * (c :: a).length) = 256 * 2 ^ (8 * a.length) := by
        rw [List.length_cons, Nat.mul_succ, Nat.pow_add, Nat.mul_comm]
      rw [e]
      show c + 256 * num (a ++ b) = c + 256 * num a + _
      rw [this, Nat.mul_add, Nat.add_assoc, Nat.mul_assoc]
  rw [e, add_eq_xor (num_lt a ha)]

theorem num_zeros (n : Nat) : num (List.replicate n 0) = 0 := by
  induction n with
  | zero => rfl
  | succ n ih => rw [List.replicate_succ]; show 0 + 256 * num _ = 0; rw [ih]

theorem num_set (b : List Nat) : ∀ (i x : Nat), i < b.length → (∀ c ∈ b, c < 256) → x < 256 → num (b.set i (b.getD i 0 ^^^ x)) = num b ^^^ (2 ^ (8 * i) * x) := by
  induction b with
  | nil => intro i x h; simp at h
  | cons c b ih =>
    intro i x hi hb hx
    have hc := hb c (by simp)
    cases i with
    | zero =>
      have hcx : c ^^^ x < 256 := Nat.xor_lt_two_pow (n := 8) hc hx
      show num ((c ^^^ x) :: b) = _
      rw [num_cons hcx, num_cons hc]
      simp only [Nat.mul_zero, Nat.pow_zero, Nat.one_mul]
      rw [Nat.xor_assoc, Nat.xor_comm x, Nat.xor_assoc]
    | succ i =>
      have h1 := ih i x (by simpa using hi) (fun y hy => hb y (by simp [hy])) hx
      show num (c :: b.set i (b.getD i 0 ^^^ x)) = _
      rw [num_cons hc, num_cons hc, h1]
      have e : 2 ^ (8 * (i + 1)) * x = 2 ^ 8 * (2 ^ (8 * i) * x) := by
        rw [Nat.mul_succ, Nat.add_comm, Nat.pow_add, Nat.mul_assoc]
      have e2 : 2 ^ 8 * (num b ^^^ 2 ^ (8 * i) * x) = (2 ^ 8 * num b) ^^^ (2 ^ 8 * (2 ^ (8 * i) * x)) := by
        apply Nat.eq_of_testBit_eq; intro k
        simp only [Nat.testBit_xor, Nat.testBit_two_pow_mul]
        by_cases hk : 8 ≤ k <;> simp [hk]
      rw [e, e2, Nat.xor_assoc]

/-- A burst, pushed along, and halved at least as far: not 0. -/
theorem hvs_burst {k j x : Nat} (hx : x < 4294967296) (h0 : x ≠ 0) (hj : j ≤ k) : hvs k (2 ^ j * x) ≠ 0 := by
  intro h
  obtain ⟨d, rfl⟩ := Nat.exists_eq_add_of_le hj
  rw [hvs_add, hvs_pow] at h
  exact h0 (hvs_eq_zero d hx h)

theorem xor_cancel {a b c : Nat} (h : a ^^^ b = a ^^^ c) : b = c := by
  have := congrArg (fun x => a ^^^ x) h
  simpa [← Nat.xor_assoc, Nat.xor_self] using this

theorem xor_ne {a b : Nat} (h : b ≠ 0) : a ^^^ b ≠ a := by
  intro e
  exact h (xor_cancel (a := a) (by simpa using e))

theorem set_lt {b : List Nat} {i x : Nat} (h : ∀ c ∈ b, c < 256) (hx : x < 256) : ∀ c ∈ b.set i x, c < 256 := by
  intro c hc
  rcases List.mem_or_eq_of_mem_set hc with h1 | h1
  · exact h c h1
  · omega

/-- One bit that is turned turns the word that is gone on to. -/
theorem ovr_flip (r : Nat) (b : List Nat) (i x : Nat) (hi : i < b.length) (hb : ∀ c ∈ b, c < 256) (hx : x < 256) (h0 : x ≠ 0) :
    ovr r (b.set i (b.getD i 0 ^^^ x)) ≠ ovr r b := by
  have hg : b.getD i 0 < 256 := by
    have : b.getD i 0 = b[i] := by simp [List.getD, hi]
    rw [this]; exact hb _ (List.getElem_mem _)
  rw [ovr_num _ r (set_lt hb (Nat.xor_lt_two_pow (n := 8) hg hx)), ovr_num b r hb, num_set b i x hi hb hx, List.length_set, ← Nat.xor_assoc, hvs_xor]
  exact xor_ne (hvs_burst (by omega) h0 (by omega))

theorem num_testBit (b : List Nat) : ∀ (i k : Nat), k < 8 → (∀ c ∈ b, c < 256) → (num b).testBit (8 * i + k) = (b.getD i 0).testBit k := by
  induction b with
  | nil => intro i k _ _; simp [num]
  | cons c b ih =>
    intro i k hk hb
    have hc := hb c (by simp)
    rw [num_cons hc, Nat.testBit_xor, Nat.testBit_two_pow_mul]
    cases i with
    | zero => simp [show ¬ 8 ≤ k by omega]
    | succ i =>
      have hcf : c.testBit (8 * (i + 1) + k) = false := Nat.testBit_lt_two_pow (Nat.lt_of_lt_of_le hc (by
        rw [show 256 = 2 ^ 8 from rfl]; exact Nat.pow_le_pow_right (by decide) (by omega)))
      have h8 : 8 ≤ 8 * (i + 1) + k := by omega
      have e : 8 * (i + 1) + k - 8 = 8 * i + k := by omega
      rw [hcf, e, ih i k hk (fun x hx => hb x (by simp [hx]))]
      simp [h8]

theorem or_bit {x k : Nat} (h : x.testBit k = false) : x ||| 2 ^ k = x ^^^ 2 ^ k := by
  apply Nat.eq_of_testBit_eq; intro i
  rw [Nat.testBit_or, Nat.testBit_xor, Nat.testBit_two_pow]
  by_cases e : k = i
  · subst e; simp [h]
  · simp [e]

theorem num_or (b : List Nat) (i k : Nat) (hi : i < b.length) (hb : ∀ c ∈ b, c < 256) (hk : k < 8) (h : (num b).testBit (8 * i + k) = false) :
    num (b.set i (b.getD i 0 ||| 2 ^ k)) = num b ^^^ 2 ^ (8 * i + k) := by
  rw [num_testBit b i k hk hb] at h
  have hp : 2 ^ k < 256 := Nat.lt_of_lt_of_le (Nat.pow_lt_pow_right (by decide) hk) (by decide)
  rw [or_bit h, num_set b i _ hi hb hp, ← Nat.pow_add]

/-- No bit comes back within 4,000 steps. -/
def chk : Nat → Nat → Bool
  | 0, _ => true
  | k + 1, r => (hv r != 1) && chk k (hv r)
theorem chk_spec (k : Nat) : ∀ r, chk k r = true → ∀ d, 1 ≤ d → d ≤ k → hvs d r ≠ 1 := by
  induction k with
  | zero => intro r _ d h1 h2; omega
  | succ k ih =>
    intro r h d h1 h2
    simp only [chk, Bool.and_eq_true, bne_iff_ne] at h
    obtain ⟨d', rfl⟩ : ∃ d', d = d' + 1 := ⟨d - 1, by omega⟩
    cases d' with
    | zero => exact h.1
    | succ d' => exact ih (hv r) h.2 (d' + 1) (by omega) (by omega)
theorem chk_4000 : chk 4000 1 = true := by decide +kernel

theorem two_bits {n a b : Nat} (hab : a < b) (hb : b < 8 * n) (hn : n ≤ 500) : hvs (8 * n) (2 ^ a ^^^ 2 ^ b) ≠ 0 := by
  have h1 := chk_spec 4000 1 chk_4000 (b - a) (by omega) (by omega)
  obtain ⟨d, hd⟩ : ∃ d, b = a + d := ⟨b - a, by omega⟩
  obtain ⟨m, hm⟩ : ∃ m, 8 * n = a + (d + m) := ⟨8 * n - b, by omega⟩
  have e : 2 ^ a ^^^ 2 ^ b = (2 ^ a * 1) ^^^ (2 ^ a * 2 ^ d) := by rw [hd, Nat.pow_add, Nat.mul_one]
  have e2 : hvs d (2 ^ d) = 1 := by have := hvs_pow d 1; rwa [Nat.mul_one] at this
  rw [hm, hvs_add, e, hvs_xor, hvs_pow, hvs_pow, hvs_add, hvs_xor, e2]
  intro h0
  have hx : hvs d 1 ^^^ 1 < 4294967296 := Nat.xor_lt_two_pow (n := 32) (hvs_lt32 d (by decide)) (by decide)
  have := hvs_eq_zero m hx h0
  have h2 : hvs d 1 = 1 := by
    have := congrArg (fun x => x ^^^ 1) this
    simpa [Nat.xor_assoc, Nat.xor_self] using this
  rw [show d = b - a by omega] at h2
  exact h1 h2

theorem pattern_or {word m : Nat} : word % 2 ^ (m + 1) = if word.testBit m then word % 2 ^ m + 2 ^ m else word % 2 ^ m := by
  rw [Nat.pow_succ, Nat.mod_mul, Nat.testBit_eq_decide_div_mod_eq]
  have := Nat.mod_two_eq_zero_or_one (word / 2 ^ m)
  rcases this with h | h <;> simp [h]

theorem num_snoc (a : List Nat) (c : Nat) (ha : ∀ x ∈ a, x < 256) : num (a ++ [c]) = num a ||| (c * 2 ^ (8 * a.length)) := by
  have e : num (a ++ [c]) = num a + 2 ^ (8 * a.length) * c := by
    have h := num_append a [c] ha
    rw [show num [c] = c from by simp [num]] at h
    rw [h, add_eq_xor (num_lt a ha)]
  rw [e, Nat.add_comm, Nat.two_pow_add_eq_or_of_lt (num_lt a ha), Nat.or_comm, Nat.mul_comm]

/-- The lowest bytes of a word, the lowest first. -/
def leb (k s : Nat) : List Nat := (List.range k).map fun i => s / 2 ^ (8 * i) % 256
theorem leb_length (k s : Nat) : (leb k s).length = k := by simp [leb]
theorem leb_succ (k s : Nat) : leb (k + 1) s = leb k s ++ [s / 2 ^ (8 * k) % 256] := by simp [leb, List.range_succ]
theorem leb_lt (k s : Nat) : ∀ c ∈ leb k s, c < 256 := by
  intro c hc; obtain ⟨i, _, rfl⟩ := List.mem_map.1 hc; exact Nat.mod_lt _ (by decide)
theorem leb_num (s : Nat) : ∀ k, num (leb k s) = s % 2 ^ (8 * k) := by
  intro k
  induction k with
  | zero => simp [leb, num, Nat.mod_one]
  | succ k ih =>
    have h := num_append (leb k s) [s / 2 ^ (8 * k) % 256] (leb_lt k s)
    rw [leb_succ, h, ← add_eq_xor (num_lt _ (leb_lt k s)), leb_length, ih, show num [s / 2 ^ (8 * k) % 256] = s / 2 ^ (8 * k) % 256 from by simp [num]]
    rw [Nat.mul_succ, Nat.pow_add, Nat.mod_mul]

/-- What is sealed. -/
def sealed (b : List Nat) : List Nat := b ++ leb 4 (sm b)
theorem sealed_length (b : List Nat) : (sealed b).length = b.length + 4 := by simp [sealed, leb_length]
theorem sealed_lt {b : List Nat} (h : ∀ c ∈ b, c < 256) : ∀ c ∈ sealed b, c < 256 := by
  intro c hc
  rcases List.mem_append.1 hc with h1 | h1
  · exact h c h1
  · exact leb_lt _ _ c h1

end Go.Proofs.Ytcdfolphbabaoaa.CrcM
