import Derived.KernelRfl
import Derived.WalkKit
import Derived.BigQuiet
import Derived.Deep.QuietTactic
import Derived.WalkSmall
import Derived.Lib.Hide
import Derived.Test.YtajkajgnjcnolaaProg
import Derived.WalkSpells
import Derived.WalkLawsBesides
import Derived.Deep.MidRow
import Derived.Deep.RegionHeld3
import Derived.Deep.RegionHeld
import Derived.OrdersHeld
import Derived.OpenShut
import Derived.Laws.StructEq
import Derived.ChangeKeysEq
import Derived.ChangeSame
import Derived.WideShapes
import Derived.Deep.Slices
import Derived.Lib.SlBytesConst
import Derived.Laws.BitsAllLaws
import Derived.Laws.CopyOwn
import Derived.IntWalk
import Derived.Deep.DeepCutAuto
import Derived.RegionTactic
import Derived.Deep.RegionWith
import Derived.Deep.Fields
/-
  The plain mathematics of layer 1 (crc): a word gone on by bytes is the list's number, halved as often as it has bits. No Go text here.
-/
namespace Go.Proofs.Ytajkajgnjcnolaa.CrcM

/-- The generator's word. -/
def poly : Nat := 2197175160
/-- One bit on. -/
def hv (r : Nat) : Nat := if r % 2 = 1 then (r / 2) ^^^ poly else r / 2
/-- Some bits on. -/
def hvs : Nat → Nat → Nat
  | 0, r => r
  | k + 1, r => hvs k (hv r)
/-- A byte on, as the document says it. -/
def stp (r c : Nat) : Nat := hvs 8 (r ^^^ c)
/-- Bytes on. -/
def ovr (r : Nat) (b : List Nat) : Nat := b.foldl stp r
/-- A table's word. -/
def tw (c : Nat) : Nat := hvs 8 c
/-- A byte on, as the table does it. -/
def gst (r c : Nat) : Nat := tw ((r % 256) ^^^ c) ^^^ (r / 256)
/-- The number of bytes, the first one lowest. -/
def num : List Nat → Nat
  | [] => 0
  | c :: b => c + 256 * num b

theorem hv_xor (a b : Nat) : hv (a ^^^ b) = hv a ^^^ hv b := by
  have hm : (a ^^^ b) % 2 = (a % 2 + b % 2) % 2 := by
    have := @Nat.xor_mod_two_pow a b 1; simp only [Nat.pow_one] at this; rw [this]
    rcases Nat.mod_two_eq_zero_or_one a with ha | ha <;> rcases Nat.mod_two_eq_zero_or_one b with hb | hb <;> simp [ha, hb]
  have hd : (a ^^^ b) / 2 = (a / 2) ^^^ (b / 2) := by
    apply Nat.eq_of_testBit_eq; intro i; simp [Nat.testBit_div_two, Nat.testBit_xor]
  unfold hv
  rcases Nat.mod_two_eq_zero_or_one a with ha | ha <;> rcases Nat.mod_two_eq_zero_or_one b with hb | hb <;> simp only [hm, hd, ha, hb]
  · simp
  · simp [Nat.xor_assoc]
  · simp only [Nat.zero_ne_one, if_false, if_true]
    rw [Nat.xor_assoc, Nat.xor_assoc, Nat.xor_comm poly]
  · simp only [Nat.reduceAdd, Nat.reduceMod, if_true, Nat.zero_ne_one, if_false]
    rw [Nat.xor_assoc, ← Nat.xor_assoc poly, Nat.xor_comm poly, Nat.xor_assoc (b/2), Nat.xor_self, Nat.xor_zero]

theorem hvs_xor (k : Nat) : ∀ a b : Nat, hvs k (a ^^^ b) = hvs k a ^^^ hvs k b := by
  induction k with
  | zero => intro a b; rfl
  | succ k ih => intro a b; simp only [hvs, hv_xor, ih]

theorem hv_zero : hv 0 = 0 := rfl
theorem hvs_zero (k : Nat) : hvs k 0 = 0 := by
  induction k with
  | zero => rfl
  | succ k ih => simpa [hvs, hv_zero] using ih

theorem hvs_add (j k : Nat) : ∀ r, hvs (j + k) r = hvs k (hvs j r) := by
  induction j with
  | zero => intro r; simp [hvs]
  | succ j ih => intro r; rw [Nat.succ_add]; simp only [hvs, ih]

theorem hvs_succ (k r : Nat) : hvs (k + 1) r = hv (hvs k r) := by rw [hvs_add]; rfl

theorem hv_two (q : Nat) : hv (2 * q) = q := by unfold hv; rw [if_neg (by omega)]; omega

theorem hvs_pow (k : Nat) : ∀ q, hvs k (2 ^ k * q) = q := by
  induction k with
  | zero => intro q; simp [hvs]
  | succ k ih =>
    intro q
    have e : 2 ^ (k + 1) * q = 2 * (2 ^ k * q) := by rw [Nat.pow_succ]; rw [Nat.mul_comm (2 ^ k) 2, Nat.mul_assoc]
    rw [e]; simp only [hvs, hv_two, ih]

theorem hv_lt {r n : Nat} (hn : 32 ≤ n) (h : r < 2 ^ n) : hv r < 2 ^ n := by
  have hp : poly < 2 ^ n := Nat.lt_of_lt_of_le (by decide : poly < 2 ^ 32) (Nat.pow_le_pow_right (by omega) hn)
  unfold hv; split
  · exact Nat.xor_lt_two_pow (by omega) hp
  · omega

theorem hv_lt32 {r : Nat} (h : r < 4294967296) : hv r < 4294967296 := hv_lt (n := 32) (Nat.le_refl _) h

theorem hvs_lt32 (k : Nat) : ∀ {r : Nat}, r < 4294967296 → hvs k r < 4294967296 := by
  induction k with
  | zero => intro r h; exact h
  | succ k ih => intro r h; exact ih (hv_lt32 h)

/-- A number of more than 32 bits loses one by each step. -/
theorem hvs_lt (k : Nat) : ∀ {n r : Nat}, 32 ≤ n → r < 2 ^ (n + k) → hvs k r < 2 ^ n := by
  induction k with
  | zero => intro n r _ h; simpa [hvs] using h
  | succ k ih =>
    intro n r hn h
    refine ih hn ?_
    have h2 : r / 2 < 2 ^ (n + k) := by rw [← Nat.add_assoc, Nat.pow_succ] at h; omega
    have hp : poly < 2 ^ (n + k) := Nat.lt_of_lt_of_le (by decide : poly < 2 ^ 32) (Nat.pow_le_pow_right (by omega) (by omega))
    unfold hv; split
    · exact Nat.xor_lt_two_pow h2 hp
    · exact h2

theorem hv_eq_zero {r : Nat} (h : r < 4294967296) (h0 : hv r = 0) : r = 0 := by
  unfold hv at h0; split at h0
  · have e : r / 2 = poly := by
      have := congrArg (fun x => x ^^^ poly) h0
      simpa [Nat.xor_assoc, Nat.xor_self] using this
    have : poly = 2197175160 := rfl
    omega
  · omega

theorem hvs_eq_zero (k : Nat) : ∀ {r : Nat}, r < 4294967296 → hvs k r = 0 → r = 0 := by
  induction k with
  | zero => intro r _ h; exact h
  | succ k ih => intro r hr h; exact hv_eq_zero hr (ih (hv_lt32 hr) h)

theorem add_eq_xor {k a b : Nat} (h : a < 2 ^ k) : a + 2 ^ k * b = a ^^^ (2 ^ k * b) := by
  rw [Nat.add_comm, Nat.two_pow_add_eq_or_of_lt h]
  apply Nat.eq_of_testBit_eq; intro i
  rw [Nat.testBit_or, Nat.testBit_xor]
  by_cases hi : i < k
  · have : (2 ^ k * b).testBit i = false := by rw [Nat.testBit_two_pow_mul]; simp; omega
    simp [this]
  · have : a.testBit i = false := Nat.testBit_lt_two_pow (Nat.lt_of_lt_of_le h (Nat.pow_le_pow_right (by omega) (by omega)))
    simp [this]

theorem num_cons {c : Nat} (hc : c < 256) (b : List Nat) : num (c :: b) = c ^^^ (2 ^ 8 * num b) := by
  show c + 2 ^ 8 * num b = _
  exact add_eq_xor hc

theorem ovr_num (b : List Nat) : ∀ r, (∀ c ∈ b, c < 256) → ovr r b = hvs (8 * b.length) (r ^^^ num b) := by
  induction b with
  | nil => intro r _; simp [ovr, num, hvs]
  | cons c b ih =>
    intro r h
    have hc := h c (by simp)
    have h8 : 8 * (c :: b).length = 8 + 8 * b.length := by simp; omega
    rw [h8, hvs_add, num_cons hc, ← Nat.xor_assoc, hvs_xor 8 (r ^^^ c), hvs_pow]
    exact ih (stp r c) (fun x hx => h x (by simp [hx]))

theorem gst_stp (r c : Nat) : gst r c = stp r c := by
  have e : r = (r % 256) ^^^ (2 ^ 8 * (r / 256)) := by
    rw [← add_eq_xor (k := 8) (Nat.mod_lt _ (by decide))]; omega
  unfold gst stp tw
  conv => rhs; rw [e, Nat.xor_assoc, Nat.xor_comm (2 ^ 8 * _), ← Nat.xor_assoc, hvs_xor, hvs_pow]

theorem stp_lt {r c : Nat} (hr : r < 4294967296) (hc : c < 256) : stp r c < 4294967296 :=
  hvs_lt32 8 (Nat.xor_lt_two_pow (n := 32) hr (by omega))

theorem ovr_lt (b : List Nat) : ∀ {r : Nat}, r < 4294967296 → (∀ c ∈ b, c < 256) → ovr r b < 4294967296 := by
  induction b with
  | nil => intro r h _; exact h
  | cons c b ih => intro r h hb; exact ih (stp_lt h (hb c (by simp))) (fun x hx => hb x (by simp [hx]))

theorem ovr_append (r : Nat) (a b : List Nat) : ovr r (a ++ b) = ovr (ovr r a) b := by simp [ovr]
theorem ovr_snoc (r : Nat) (a : List Nat) (c : Nat) : ovr r (a ++ [c]) = stp (ovr r a) c := by simp [ovr]

theorem tw_lt {c : Nat} (h : c < 256) : tw c < 4294967296 := hvs_lt32 8 (by omega)

/-- The sum: all bits turned. -/
def sm (b : List Nat) : Nat := ovr 4294967295 b ^^^ 4294967295
theorem sm_lt {b : List Nat} (h : ∀ c ∈ b, c < 256) : sm b < 4294967296 :=
  Nat.xor_lt_two_pow (n := 32) (ovr_lt b (by decide) h) (by decide)
theorem not32 {x : Nat} (h : x < 4294967296) : x ^^^ 4294967295 = 4294967295 - x := by
  have := BitVec.toNat_not (x := BitVec.ofNat 32 x)
  have e2 : (~~~ BitVec.ofNat 32 x) = BitVec.ofNat 32 x ^^^ BitVec.allOnes 32 := (BitVec.xor_allOnes).symm
  rw [e2, BitVec.toNat_xor, BitVec.toNat_ofNat, BitVec.toNat_allOnes] at this
  rw [Nat.mod_eq_of_lt (by simpa using h)] at this
  simpa using this

end Go.Proofs.Ytajkajgnjcnolaa.CrcM

/-
  More of the plain mathematics of layer 1: numbers of lists of bytes; patterns.
-/
namespace Go.Proofs.Ytajkajgnjcnolaa.CrcM
set_option linter.unusedVariables false
set_option linter.unnecessarySimpa false

theorem num_lt (b : List Nat) (h : ∀ c ∈ b, c < 256) : num b < 2 ^ (8 * b.length) := by
  induction b with
  | nil => simp [num]
  | cons c b ih =>
    have hc := h c (by simp)
    have := ih (fun x hx => h x (by simp [hx]))
    have e : 2 ^ (8 * (c :: b).length) = 256 * 2 ^ (8 * b.length) := by
      rw [List.length_cons, Nat.mul_succ, Nat.pow_add, Nat.mul_comm]
    rw [e]; show c + 256 * num b < _
    omega

theorem num_append (a b : List Nat) (ha : ∀ c ∈ a, c < 256) : num (a ++ b) = num a ^^^ (2 ^ (8 * a.length) * num b) := by
  have e : num (a ++ b) = num a + 2 ^ (8 * a.length) * num b := by
    induction a with
    | nil => simp [num]
    | cons c a ih =>
      have := ih (fun x hx => ha x (by simp [hx]))
      have e : 2 ^ (8 * (c :: a).length) = 256 * 2 ^ (8 * a.length) := by
        rw [List.length_cons, Nat.mul_succ, Nat.pow_add, Nat.mul_comm]
      rw [e]
      show c + 256 * num (a ++ b) = c + 256 * num a + _
      rw [this, Nat.mul_add, Nat.add_assoc, Nat.mul_assoc]
  rw [e, add_eq_xor (num_lt a ha)]

theorem num_zeros (n : Nat) : num (List.replicate n 0) = 0 := by
  induction n with
  | zero => rfl
  | succ n ih => rw [List.replicate_succ]; show 0 + 256 * num _ = 0; rw [ih]

theorem num_set (b : List Nat) : ∀ (i x : Nat), i < b.length → (∀ c ∈ b, c < 256) → x < 256 → num (b.set i (b.getD i 0 ^^^ x)) = num b ^^^ (2 ^ (8 * i) * x) := by
  induction b with
  | nil => intro i x h; simp at h
  | cons c b ih =>
    intro i x hi hb hx
    have hc := hb c (by simp)
    cases i with
    | zero =>
      have hcx : c ^^^ x < 256 := Nat.xor_lt_two_pow (n := 8) hc hx
      show num ((c ^^^ x) :: b) = _
      rw [num_cons hcx, num_cons hc]
      simp only [Nat.mul_zero, Nat.pow_zero, Nat.one_mul]
      rw [Nat.xor_assoc, Nat.xor_comm x, Nat.xor_assoc]
    | succ i =>
      have h1 := ih i x (by simpa using hi) (fun y hy => hb y (by simp [hy])) hx
      show num (c :: b.set i (b.getD i 0 ^^^ x)) = _
      rw [num_cons hc, num_cons hc, h1]
      have e : 2 ^ (8 * (i + 1)) * x = 2 ^ 8 * (2 ^ (8 * i) * x) := by
        rw [Nat.mul_succ, Nat.add_comm, Nat.pow_add, Nat.mul_assoc]
      have e2 : 2 ^ 8 * (num b ^^^ 2 ^ (8 * i) * x) = (2 ^ 8 * num b) ^^^ (2 ^ 8 * (2 ^ (8 * i) * x)) := by
        apply Nat.eq_of_testBit_eq; intro k
        simp only [Nat.testBit_xor, Nat.testBit_two_pow_mul]
        by_cases hk : 8 ≤ k <;> simp [hk]
      rw [e, e2, Nat.xor_assoc]

/-- A burst, pushed along, and halved at least as far: not 0. -/
theorem hvs_burst {k j x : Nat} (hx : x < 4294967296) (h0 : x ≠ 0) (hj : j ≤ k) : hvs k (2 ^ j * x) ≠ 0 := by
  intro h
  obtain ⟨d, rfl⟩ := Nat.exists_eq_add_of_le hj
  rw [hvs_add, hvs_pow] at h
  exact h0 (hvs_eq_zero d hx h)

theorem xor_cancel {a b c : Nat} (h : a ^^^ b = a ^^^ c) : b = c := by
  have := congrArg (fun x => a ^^^ x) h
  simpa [← Nat.xor_assoc, Nat.xor_self] using this

theorem xor_ne {a b : Nat} (h : b ≠ 0) : a ^^^ b ≠ a := by
  intro e
  exact h (xor_cancel (a := a) (by simpa using e))

theorem set_lt {b : List Nat} {i x : Nat} (h : ∀ c ∈ b, c < 256) (hx : x < 256) : ∀ c ∈ b.set i x, c < 256 := by
  intro c hc
  rcases List.mem_or_eq_of_mem_set hc with h1 | h1
  · exact h c h1
  · omega

/-- One bit that is turned turns the word that is gone on to. -/
theorem ovr_flip (r : Nat) (b : List Nat) (i x : Nat) (hi : i < b.length) (hb : ∀ c ∈ b, c < 256) (hx : x < 256) (h0 : x ≠ 0) :
    ovr r (b.set i (b.getD i 0 ^^^ x)) ≠ ovr r b := by
  have hg : b.getD i 0 < 256 := by
    have : b.getD i 0 = b[i] := by simp [List.getD, hi]
    rw [this]; exact hb _ (List.getElem_mem _)
  rw [ovr_num _ r (set_lt hb (Nat.xor_lt_two_pow (n := 8) hg hx)), ovr_num b r hb, num_set b i x hi hb hx, List.length_set, ← Nat.xor_assoc, hvs_xor]
  exact xor_ne (hvs_burst (by omega) h0 (by omega))

theorem num_testBit (b : List Nat) : ∀ (i k : Nat), k < 8 → (∀ c ∈ b, c < 256) → (num b).testBit (8 * i + k) = (b.getD i 0).testBit k := by
  induction b with
  | nil => intro i k _ _; simp [num]
  | cons c b ih =>
    intro i k hk hb
    have hc := hb c (by simp)
    rw [num_cons hc, Nat.testBit_xor, Nat.testBit_two_pow_mul]
    cases i with
    | zero => simp [show ¬ 8 ≤ k by omega]
    | succ i =>
      have hcf : c.testBit (8 * (i + 1) + k) = false := Nat.testBit_lt_two_pow (Nat.lt_of_lt_of_le hc (by
        rw [show 256 = 2 ^ 8 from rfl]; exact Nat.pow_le_pow_right (by decide) (by omega)))
      have h8 : 8 ≤ 8 * (i + 1) + k := by omega
      have e : 8 * (i + 1) + k - 8 = 8 * i + k := by omega
      rw [hcf, e, ih i k hk (fun x hx => hb x (by simp [hx]))]
      simp [h8]

theorem or_bit {x k : Nat} (h : x.testBit k = false) : x ||| 2 ^ k = x ^^^ 2 ^ k := by
  apply Nat.eq_of_testBit_eq; intro i
  rw [Nat.testBit_or, Nat.testBit_xor, Nat.testBit_two_pow]
  by_cases e : k = i
  · subst e; simp [h]
  · simp [e]

theorem num_or (b : List Nat) (i k : Nat) (hi : i < b.length) (hb : ∀ c ∈ b, c < 256) (hk : k < 8) (h : (num b).testBit (8 * i + k) = false) :
    num (b.set i (b.getD i 0 ||| 2 ^ k)) = num b ^^^ 2 ^ (8 * i + k) := by
  rw [num_testBit b i k hk hb] at h
  have hp : 2 ^ k < 256 := Nat.lt_of_lt_of_le (Nat.pow_lt_pow_right (by decide) hk) (by decide)
  rw [or_bit h, num_set b i _ hi hb hp, ← Nat.pow_add]

/-- No bit comes back within 4,000 steps. -/
def chk : Nat → Nat → Bool
  | 0, _ => true
  | k + 1, r => (hv r != 1) && chk k (hv r)
theorem chk_spec (k : Nat) : ∀ r, chk k r = true → ∀ d, 1 ≤ d → d ≤ k → hvs d r ≠ 1 := by
  induction k with
  | zero => intro r _ d h1 h2; omega
  | succ k ih =>
    intro r h d h1 h2
    simp only [chk, Bool.and_eq_true, bne_iff_ne] at h
    obtain ⟨d', rfl⟩ : ∃ d', d = d' + 1 := ⟨d - 1, by omega⟩
    cases d' with
    | zero => exact h.1
    | succ d' => exact ih (hv r) h.2 (d' + 1) (by omega) (by omega)
theorem chk_4000 : chk 4000 1 = true := by decide +kernel

theorem two_bits {n a b : Nat} (hab : a < b) (hb : b < 8 * n) (hn : n ≤ 500) : hvs (8 * n) (2 ^ a ^^^ 2 ^ b) ≠ 0 := by
  have h1 := chk_spec 4000 1 chk_4000 (b - a) (by omega) (by omega)
  obtain ⟨d, hd⟩ : ∃ d, b = a + d := ⟨b - a, by omega⟩
  obtain ⟨m, hm⟩ : ∃ m, 8 * n = a + (d + m) := ⟨8 * n - b, by omega⟩
  have e : 2 ^ a ^^^ 2 ^ b = (2 ^ a * 1) ^^^ (2 ^ a * 2 ^ d) := by rw [hd, Nat.pow_add, Nat.mul_one]
  have e2 : hvs d (2 ^ d) = 1 := by have := hvs_pow d 1; rwa [Nat.mul_one] at this
  rw [hm, hvs_add, e, hvs_xor, hvs_pow, hvs_pow, hvs_add, hvs_xor, e2]
  intro h0
  have hx : hvs d 1 ^^^ 1 < 4294967296 := Nat.xor_lt_two_pow (n := 32) (hvs_lt32 d (by decide)) (by decide)
  have := hvs_eq_zero m hx h0
  have h2 : hvs d 1 = 1 := by
    have := congrArg (fun x => x ^^^ 1) this
    simpa [Nat.xor_assoc, Nat.xor_self] using this
  rw [show d = b - a by omega] at h2
  exact h1 h2

theorem pattern_or {word m : Nat} : word % 2 ^ (m + 1) = if word.testBit m then word % 2 ^ m + 2 ^ m else word % 2 ^ m := by
  rw [Nat.pow_succ, Nat.mod_mul, Nat.testBit_eq_decide_div_mod_eq]
  have := Nat.mod_two_eq_zero_or_one (word / 2 ^ m)
  rcases this with h | h <;> simp [h]

theorem num_snoc (a : List Nat) (c : Nat) (ha : ∀ x ∈ a, x < 256) : num (a ++ [c]) = num a ||| (c * 2 ^ (8 * a.length)) := by
  have e : num (a ++ [c]) = num a + 2 ^ (8 * a.length) * c := by
    have h := num_append a [c] ha
    rw [show num [c] = c from by simp [num]] at h
    rw [h, add_eq_xor (num_lt a ha)]
  rw [e, Nat.add_comm, Nat.two_pow_add_eq_or_of_lt (num_lt a ha), Nat.or_comm, Nat.mul_comm]

/-- The lowest bytes of a word, the lowest first. -/
def leb (k s : Nat) : List Nat := (List.range k).map fun i => s / 2 ^ (8 * i) % 256
theorem leb_length (k s : Nat) : (leb k s).length = k := by simp [leb]
theorem leb_succ (k s : Nat) : leb (k + 1) s = leb k s ++ [s / 2 ^ (8 * k) % 256] := by simp [leb, List.range_succ]
theorem leb_lt (k s : Nat) : ∀ c ∈ leb k s, c < 256 := by
  intro c hc; obtain ⟨i, _, rfl⟩ := List.mem_map.1 hc; exact Nat.mod_lt _ (by decide)
theorem leb_num (s : Nat) : ∀ k, num (leb k s) = s % 2 ^ (8 * k) := by
  intro k
  induction k with
  | zero => simp [leb, num, Nat.mod_one]
  | succ k ih =>
    have h := num_append (leb k s) [s / 2 ^ (8 * k) % 256] (leb_lt k s)
    rw [leb_succ, h, ← add_eq_xor (num_lt _ (leb_lt k s)), leb_length, ih, show num [s / 2 ^ (8 * k) % 256] = s / 2 ^ (8 * k) % 256 from by simp [num]]
    rw [Nat.mul_succ, Nat.pow_add, Nat.mod_mul]

/-- What is sealed. -/
def sealed (b : List Nat) : List Nat := b ++ leb 4 (sm b)
theorem sealed_length (b : List Nat) : (sealed b).length = b.length + 4 := by simp [sealed, leb_length]
theorem sealed_lt {b : List Nat} (h : ∀ c ∈ b, c < 256) : ∀ c ∈ sealed b, c < 256 := by
  intro c hc
  rcases List.mem_append.1 hc with h1 | h1
  · exact h c h1
  · exact leb_lt _ _ c h1

end Go.Proofs.Ytajkajgnjcnolaa.CrcM

/-
  Blocks known whole; worlds that differ in some blocks alone. No Go text here.
-/
namespace Go.Proofs.Ytajkajgnjcnolaa
open Go.RowKit
set_option linter.unusedVariables false

/-- Old blocks outside of S are as they were. -/
structure Kept (S : Nat → Prop) (w w' : World) : Prop where
  os : w'.os = w.os
  tape : w'.tape = w.tape
  output : w'.output = w.output
  size : w.heap.size ≤ w'.heap.size
  block : ∀ k, k < w.heap.size → ¬ S k → w'.heap[k]? = w.heap[k]?

section
variable {S T U : Nat → Prop} {w w' a b c : World}
theorem Kept.refl (S : Nat → Prop) (w : World) : Kept S w w := ⟨rfl, rfl, rfl, Nat.le_refl _, fun _ _ _ => rfl⟩
theorem Kept.andThen (h : Kept S a b) (k : Kept T b c) (hs : ∀ i, i < a.heap.size → S i → U i) (ht : ∀ i, i < a.heap.size → T i → U i) : Kept U a c :=
  ⟨k.os.trans h.os, k.tape.trans h.tape, k.output.trans h.output, Nat.le_trans h.size k.size,
    fun i hi hu => (k.block i (Nat.lt_of_lt_of_le hi h.size) (fun t => hu (ht i hi t))).trans (h.block i hi (fun s => hu (hs i hi s)))⟩
theorem Kept.trans (h : Kept S a b) (k : Kept S b c) : Kept S a c := h.andThen k (fun _ _ h => h) (fun _ _ h => h)
theorem Kept.mono (h : Kept S a b) (hs : ∀ i, i < a.heap.size → S i → U i) : Kept U a b := h.andThen (Kept.refl U b) hs (fun _ _ h => h)
theorem Kept.of_below (h : Below w.heap.size w w') : Kept S w w' := ⟨h.os, h.tape, h.output, h.size, fun k hk _ => h.block k hk⟩
theorem Kept.below {B : Nat} (h : Kept S w w') (hB : B ≤ w.heap.size) (hs : ∀ k, k < B → ¬ S k) : Below B w w' :=
  ⟨h.os, h.tape, h.output, h.size, fun k hk => h.block k (Nat.lt_of_lt_of_le hk hB) (hs k hk)⟩
theorem bkept {B : Nat} (h : Below B a b) (hB : B ≤ a.heap.size) (k : Kept S b c) (hn : ∀ i, i < B → ¬ S i) : Below B a c :=
  h.trans (k.below (Nat.le_trans hB h.size) hn)
theorem Kept.setCell (h : Kept S a w) {p : Addr} (hp : S p.block) (u : Value) : Kept S a (w.setCell p u) :=
  ⟨h.os, h.tape, h.output, by have := h.size; simpa [World.setCell] using this, fun k hk hn => (Below.heap_setCell _ _ _ _ (fun e => hn (by rw [e]; exact hp))).trans (h.block k hk hn)⟩
theorem Kept.alloc (h : Kept S a w) (o : Obj) : Kept S a (w.alloc o) := h.andThen (Kept.of_below (S := S) ((Below.refl _ _).alloc (Nat.le_refl _) o)) (fun _ _ h => h) (fun _ _ h => h)
theorem Kept.drew (h : Kept S a w) : Kept S a w.drew := ⟨h.os, h.tape, h.output, h.size, h.block⟩
theorem Kept.drewN (h : Kept S a w) (n : Nat) : Kept S a (w.drewN n) := h.andThen (Kept.of_below (S := S) (below_drewN (Below.refl _ _) n)) (fun _ _ h => h) (fun _ _ h => h)
theorem Kept.grown {row : Option Nat} (h : Kept S a w) (hg : w.grownBy w' row) (hr : ∀ g, row = some g → S g) : Kept S a w' :=
  h.andThen (T := S) ⟨hg.os, hg.tape, hg.output, hg.size, fun k hk hn => hg.block k hk (fun e => hn (hr k e.symm))⟩ (fun _ _ h => h) (fun _ _ h => h)
end

/-- Block g is just these cells. -/
def Blk (w : World) (g : Nat) (t : TypeId) (cs : Array Value) : Prop := w.heap[g]? = some (.cells cs t (0, 0))

section
variable {S : Nat → Prop} {w w' : World} {g : Nat} {t : TypeId} {cs : Array Value}
theorem Blk.lt (h : Blk w g t cs) : g < w.heap.size := by
  by_cases hl : g < w.heap.size
  · exact hl
  · unfold Blk at h; rw [Array.getElem?_eq_none (by omega)] at h; cases h
theorem Blk.cell (h : Blk w g t cs) (i : Nat) : w.cell? ⟨g, i, none⟩ = cs[i]? := cell_of_row w g i cs t (0, 0) h
theorem Blk.frozen (h : Blk w g t cs) (i : Nat) : w.frozen? ⟨g, i, none⟩ = false := frozen_of_row w g i cs _ h
theorem Blk.new (w : World) (t : TypeId) (cs : Array Value) : Blk (w.alloc (.cells cs t)) w.heap.size t cs := heap_alloc_new w _
theorem Blk.set (h : Blk w g t cs) (i : Nat) (u : Value) : Blk (w.setCell ⟨g, i, none⟩ u) g t (cs.setIfInBounds i u) := by
  unfold Blk at *; exact heap_setCell_same _ _ _ _ _ _ h
theorem Blk.far (h : Blk w g t cs) {p : Addr} (hp : g ≠ p.block) (u : Value) : Blk (w.setCell p u) g t cs := (Below.heap_setCell w p u g hp).trans h
theorem Blk.kept (h : Blk w g t cs) (k : Kept S w w') (hn : ¬ S g) : Blk w' g t cs := (k.block g h.lt hn).trans h
theorem Blk.below {B : Nat} (h : Blk w g t cs) (hb : Below B w w') (hg : g < B) : Blk w' g t cs := (hb.block g hg).trans h
theorem Blk.alloc (h : Blk w g t cs) (o : Obj) : Blk (w.alloc o) g t cs := (Below.heap_alloc w o g h.lt).trans h
theorem Blk.drewN (h : Blk w g t cs) (n : Nat) : Blk (w.drewN n) g t cs := h.below (below_drewN (Below.refl w.heap.size _) n) h.lt
theorem Blk.grown {row : Option Nat} (h : Blk w g t cs) (hg : w.grownBy w' row) (hn : some g ≠ row) : Blk w' g t cs := (hg.block g h.lt hn).trans h
theorem Blk.unlike {g' : Nat} {t' : TypeId} {cs' : Array Value} (h : Blk w g t cs) (h' : Blk w g' t' cs') (hne : t ≠ t') : g ≠ g' := by
  rintro rfl
  unfold Blk at h h'
  rw [h] at h'
  cases h'
  exact hne rfl
theorem own_unlike {base : Nat} {e : TypeId} {size n : Nat} {v : Value} {xs : List Value} (h : w.ownsRow base e size v n xs) (hg : Blk w g t cs) (hne : e ≠ t) : some g ≠ v.ownBlock := by
  rcases h.2 with ⟨rfl, _⟩ | ⟨g', cap, cur, rfl, _, hh, _⟩
  · simp [Value.ownBlock]
  · intro he
    have : g = g' := by simpa [Value.ownBlock] using he
    subst this
    exact Blk.unlike (t := e) hh hg hne rfl
theorem own_kept {base : Nat} {e : TypeId} {size n : Nat} {v : Value} {xs : List Value} (h : w.ownsRow base e size v n xs) (k : Kept S w w') (hn : ∀ g, v.ownBlock = some g → ¬ S g) : w'.ownsRow base e size v n xs := by
  obtain ⟨h1, h2⟩ := h
  refine ⟨h1, ?_⟩
  rcases h2 with h2 | ⟨g, cap, cur, rfl, hg, hh, r⟩
  · exact .inl h2
  · exact .inr ⟨g, cap, cur, rfl, hg, Blk.kept (t := e) (cs := cur) hh k (hn g rfl), r⟩
theorem own_slice {base : Nat} {e : TypeId} {size n : Nat} {v : Value} {xs : List Value} (h : w.ownsRow base e size v n xs) : ∃ a cap, v = .slice a n cap := by
  rcases h.2 with ⟨rfl, rfl⟩ | ⟨g', cap, cur, rfl, _, hh, _⟩
  · exact ⟨none, 0, rfl⟩
  · exact ⟨_, _, rfl⟩
theorem own_lt {base : Nat} {e : TypeId} {size n : Nat} {v : Value} {xs : List Value} (h : w.ownsRow base e size v n xs) {g : Nat} (hg : v.ownBlock = some g) : g < w.heap.size := by
  rcases h.2 with ⟨rfl, _⟩ | ⟨g', cap, cur, rfl, _, hh, _⟩
  · simp [Value.ownBlock] at hg
  · obtain rfl : g' = g := by simpa [Value.ownBlock] using hg
    exact Blk.lt (t := e) (cs := cur) hh
/-- The same row, told with another lower bound of its block. -/
theorem own_base {base base' : Nat} {e : TypeId} {size n : Nat} {v : Value} {xs : List Value} (h : w.ownsRow base e size v n xs) (hb : ∀ g, v.ownBlock = some g → base' ≤ g) : w.ownsRow base' e size v n xs := by
  obtain ⟨h1, h2⟩ := h
  refine ⟨h1, ?_⟩
  rcases h2 with h2 | ⟨g, cap, cur, rfl, hg, hh, r⟩
  · exact .inl h2
  · exact .inr ⟨g, cap, cur, rfl, hb g rfl, hh, r⟩
end

end Go.Proofs.Ytajkajgnjcnolaa

/-
  What all layers' texts share: steps over structs and arrays that are read and written whole; steps of a region that draws its order.
-/
namespace Go.Proofs.Ytajkajgnjcnolaa
open Go.RowKit
set_option linter.unusedVariables false
set_option linter.unnecessarySimpa false
set_option linter.unusedSimpArgs false

theorem ret_int {k : IntKind} {a b : Int} (h : a = b) : Ending.returned (.int k a) = .returned (.int k b) := by rw [h]
theorem ret_val {a b : Value} (h : a = b) : Ending.returned a = .returned b := by rw [h]
theorem ret_bool {a b : Bool} (h : a = b) : Ending.returned (.bool a) = .returned (.bool b) := by rw [h]
theorem below_alloc (w : World) (o : Obj) : Below w.heap.size w (w.alloc o) := (Below.refl _ _).alloc (Nat.le_refl _) _
theorem bthen {w w1 w2 : World} (h : Below w.heap.size w w1) (k : Below w1.heap.size w1 w2) : Below w.heap.size w w2 := h.trans (k.mono h.size)
/-- A call that leaves the world, or makes memory alone, keeps this. -/
theorem bel_next {wb w w' : World} (h : Below wb.heap.size wb w) (hb : Below w.heap.size w w') : Below wb.heap.size wb w' := h.trans (hb.mono h.size)
theorem setRow_new (w : World) (C D : Array Value) (t : TypeId) : (w.alloc (Obj.cells C t)).setRow w.heap.size D = w.alloc (Obj.cells D t) := by
  have hm : ∀ (a : Array Obj) (x : Obj) (f : Obj → Obj), (a.push x).modify a.size f = a.push (f x) := by
    intro a x f
    apply Array.ext
    · simp
    · intro i h1 h2
      simp only [Array.getElem_modify, Array.getElem_push]
      by_cases h : a.size = i
      · subst h; simp
      · have hi : i < a.size := by simp at h1; omega
        simp [h, hi]
  unfold World.setRow
  show ({ w.alloc (.cells C t) with heap := (w.heap.push (.cells C t)).modify w.heap.size _ } : World) = _
  rw [hm]
  rfl
/-- Is v from a to b? -/
def wB (v a b : Int) : Bool := decide (a ≤ v) && decide (v ≤ b)
theorem wB_iff (v a b : Int) : wB v a b = true ↔ a ≤ v ∧ v ≤ b := by simp [wB]

theorem Kept.setRow {S : Nat → Prop} {w0 w : World} (h : Kept S w0 w) {g : Nat} (hg : S g) (cs : Array Value) : Kept S w0 (w.setRow g cs) := by
  refine ⟨h.os, h.tape, h.output, ?_, fun k hk hn => ?_⟩
  · have := h.size; unfold World.setRow; simpa using this
  · rw [← h.block k hk hn]
    unfold World.setRow
    show (w.heap.modify g _)[k]? = w.heap[k]?
    rw [Array.getElem?_modify, if_neg (fun e => hn (by rw [← e]; exact hg))]
theorem Blk.setRow {w : World} {g : Nat} {t : TypeId} {old cs : Array Value} (h : Blk w g t old) : Blk (w.setRow g cs) g t cs := setRow_heap w g old cs t (0, 0) h
section
variable {P : Program} {w : World} {ops : Array Oper} {rest : List Oper} {o : Oper} {a : Act} {Q : Exit → Act → World → Prop}
/-- A struct or an array is read whole. -/
theorem wpl_load (hgd : o.guard = none) {ty : TypeId} (x : Operand) (ho : o.op = .load ty x) (g : Nat) (hx : a.eval x = .pointer (some ⟨g, 0, none⟩)) (t : TypeId) (cs : Array Value) (d : TypeDesc) (hg : Blk w g t cs)
    (hu : P.underlying ty = some d) (hd : (match d with | .struct _ | .array _ _ => true | _ => false) = true) (hi : (P.info? ty).map (·.size) = some cs.size)
    (h : wpList P ops Q rest (a.put o.dst (.agg cs)) w) : wpList P ops Q (o :: rest) a w :=
  wpList_load_row hgd ty x ho g hx t cs (0, 0) d hg hu hd hi h
/-- As above, where the operation has a guard that lets it be. -/
theorem wpl_load_g (hw : Region.wanted o (yielded ops a.tmps) = true) {ty : TypeId} (x : Operand) (ho : o.op = .load ty x) (g : Nat) (hx : a.eval x = .pointer (some ⟨g, 0, none⟩)) (t : TypeId) (cs : Array Value) (d : TypeDesc) (hg : Blk w g t cs)
    (hu : P.underlying ty = some d) (hd : (match d with | .struct _ | .array _ _ => true | _ => false) = true) (hi : (P.info? ty).map (·.size) = some cs.size)
    (h : wpList P ops Q rest (a.put o.dst (.agg cs)) w) : wpList P ops Q (o :: rest) a w := by
  unfold wpList
  rw [if_pos hw]
  exact .inl (wp_load_row ty x ho g hx t cs (0, 0) d hg hu hd hi h)
/-- A struct or an array is made of constants. -/
theorem wpl_build (hw : Region.wanted o (yielded ops a.tmps) = true) (ty : TypeId) (parts : Array (Nat × Operand)) (ho : o.op = .build ty parts) (v : Value) (hrun : ∀ w, (execOp a.eval o).run P w = .ok (.value v) w)
    (h : wpList P ops Q rest (a.put o.dst v) w) : wpList P ops Q (o :: rest) a w := by
  unfold wpList
  rw [if_pos hw]
  refine .inl ?_
  unfold Oper.wp
  rw [hrun w]
  exact h
/-- A struct or an array is written whole. -/
theorem wpl_store (hgd : o.guard = none) {ty : TypeId} (x y : Operand) (ho : o.op = .store ty x y) (g : Nat) (cs : Array Value) (hx : a.eval x = .pointer (some ⟨g, 0, none⟩)) (hy : a.eval y = .agg cs) (t : TypeId) (old : Array Value) (hg : Blk w g t old)
    (hi : (P.info? ty).map (·.size) = some cs.size) (hold : old.size = cs.size) (h1 : cs.all (·.oneCell') = true)
    (h : ∀ w', Blk w' g t cs → Kept (· = g) w w' → wpList P ops Q rest (a.put o.dst undef) w') : wpList P ops Q (o :: rest) a w :=
  wpList_store_row hgd ty x y ho g cs hx hy t old hg hi hold h1 (h _ (Blk.setRow hg) ((Kept.refl (· = g) w).setRow rfl cs))
/-- As above, into a block that was just made. -/
theorem wpl_store_new (hgd : o.guard = none) {ty : TypeId} (x y : Operand) (ho : o.op = .store ty x y) (cs : Array Value) (w0 : World) (t : TypeId) (old : Array Value) (hw : w = w0.alloc (.cells old t)) (hx : a.eval x = .pointer (some ⟨w0.heap.size, 0, none⟩)) (hy : a.eval y = .agg cs)
    (hi : (P.info? ty).map (·.size) = some cs.size) (hold : old.size = cs.size) (h1 : cs.all (·.oneCell') = true)
    (h : wpList P ops Q rest (a.put o.dst undef) (w0.alloc (.cells cs t))) : wpList P ops Q (o :: rest) a w := by
  subst hw
  refine wpList_store_row hgd ty x y ho w0.heap.size cs hx hy t old (heap_alloc_new w0 _) hi hold h1 ?_
  rwa [setRow_new]
/-- An operation that yields this value here. -/
theorem wpl_run (hw : Region.wanted o (yielded ops a.tmps) = true) (v : Value) (hrun : (execOp a.eval o).run P w = .ok (.value v) w) (h : wpList P ops Q rest (a.put o.dst v) w) : wpList P ops Q (o :: rest) a w := by
  unfold wpList
  rw [if_pos hw]
  refine .inl ?_
  unfold Oper.wp
  rw [hrun]
  exact h
end

/-- One operation of a region that yields in whatever world is taken first; its slot is told. -/
theorem take_one {P : Program} {md : Region.Mode} {ops : Array Oper} {Q : Exit → Act → World → Prop} {i d : Nat} {oi : Oper} {v : Value} {fuel : Nat} {listed : Array Bool} {a : Act} {w : World} (hi : ops[i]? = some oi) (hd : oi.dst = some d)
    (hs : Region.noSelect ops = true) (hf : Region.free md ops listed i = true) (hr : (Region.ready md ops listed).contains i = true)
    (hQ : ∀ c a w, Q (.panic c) (a.put oi.dst v) w → Q (.panic c) a w) (hy : Yields P ops oi v a)
    (h : wpAny P md ops Q fuel (listed.setIfInBounds i true) (a.put (some d) v) w) : wpAny P md ops Q (fuel + 1) listed a w :=
  wpAny_take hi hs hf hr hQ hy (by rw [hd]; exact h)
/-- One operation of a region that must come next. -/
theorem next_one {P : Program} {md : Region.Mode} {ops : Array Oper} {Q : Exit → Act → World → Prop} {i : Nat} {o : Oper} {fuel : Nat} {listed : Array Bool} {a : Act} {w : World} (ho : ops[i]? = some o)
    (hr : Region.ready md ops listed = [i]) (hw : Region.wanted o (yielded ops a.tmps) = true)
    (h : ∀ K' : Act → World → Prop, (∀ a w, wpAny P md ops Q fuel (listed.setIfInBounds i true) a w → K' a w) → Oper.wp P o a w K' Q) : wpAny P md ops Q (fuel + 1) listed a w :=
  wpAny_ready hr (by simp) (AllReady.cons ho (fun K' hK => by rw [if_pos hw]; exact h K' hK) AllReady.nil)
theorem results_cell_slot {P : Program} {fn : Func} {p q : Tmp} {ty : TypeId} (h : fn.results = #[.cell p ty, .tmp q]) (tmps : Array Value) (w : World) (g : Nat) (t : TypeId) (cs : Array Value) (v : Value) (d : TypeDesc)
    (hp : tmps.getD p undef = .pointer (some ⟨g, 0, none⟩)) (hq : tmps.getD q undef = v) (hg : Blk w g t cs)
    (hu : P.underlying ty = some d) (hd : (match d with | .struct _ | .array _ _ => true | _ => false) = true) (hi : (P.info? ty).map (·.size) = some cs.size) :
    (results fn tmps).run P w = .ok (.tuple #[.agg cs, v]) w := by
  have hp' : tmps[p]?.getD undef = .pointer (some ⟨g, 0, none⟩) := by simpa using hp
  have hq' : tmps[q]?.getD undef = v := by simpa using hq
  simp [results, h, hp', hq', asAddr, run_loadVar_row w g t ty cs (0, 0) d hg hu hd hi]

section
variable {P : Program} {md : Region.Mode} {ops : Array Oper} {Q : Exit → Act → World → Prop} {S : World → Prop}
/-- One operation of a region that yields in each world that meets S is taken first. -/
theorem takeH {i d : Nat} {oi : Oper} {v : Value} {fuel : Nat} {listed : Array Bool} {a : Act} {w : World} (hS : S w) (hi : ops[i]? = some oi) (hd : oi.dst = some d)
    (hs : Region.noSelect ops = true) (hf : Region.free md ops listed i = true) (hr : (Region.ready md ops listed).contains i = true)
    (hQ : ∀ c a w, Q (.panic c) (a.put oi.dst v) w → Q (.panic c) a w) (hy : YieldsIf P ops S oi v a)
    (h : wpAnyH P md ops Q S fuel (listed.setIfInBounds i true) (a.put (some d) v) w) : wpAnyH P md ops Q S (fuel + 1) listed a w :=
  wpAnyH_take hi hs hf hr hQ hy hS (by rw [hd]; exact h)
theorem wpOp_of {i : Nat} {o : Oper} {a : Act} {w : World} {K : Act → World → Prop} (ho : ops[i]? = some o) (hw : Region.wanted o (yielded ops a.tmps) = true) (h : ∀ K' : Act → World → Prop, (∀ a w, K a w → K' a w) → Oper.wp P o a w K' Q) : wpOp P ops Q i K a w := by
  refine wpOp_step ho (fun K' hK => ?_)
  rw [if_pos hw]
  exact h K' hK
/-- One operation of a region that must come next; S is shown anew behind it. -/
theorem nextH {i : Nat} {o : Oper} {fuel : Nat} {listed : Array Bool} {a : Act} {w : World} (ho : ops[i]? = some o)
    (hr : Region.ready md ops listed = [i]) (hw : Region.wanted o (yielded ops a.tmps) = true)
    (h : ∀ K' : Act → World → Prop, Shut (∀ a w, S w ∧ wpAnyH P md ops Q S fuel (listed.setIfInBounds i true) a w → K' a w) → Oper.wp P o a w K' Q) : wpAnyH P md ops Q S (fuel + 1) listed a w :=
  wpAnyH_all hr (by simp) (fun j hj => by
    obtain rfl : j = i := by simpa using hj
    exact wpOp_of ho hw h)
/-- Either of two. -/
theorem nextH2 {i k : Nat} {o o' : Oper} {fuel : Nat} {listed : Array Bool} {a : Act} {w : World} (ho : ops[i]? = some o) (ho' : ops[k]? = some o')
    (hr : Region.ready md ops listed = [i, k]) (hw : Region.wanted o (yielded ops a.tmps) = true) (hw' : Region.wanted o' (yielded ops a.tmps) = true)
    (h : ∀ K' : Act → World → Prop, Shut (∀ a w, S w ∧ wpAnyH P md ops Q S fuel (listed.setIfInBounds i true) a w → K' a w) → Oper.wp P o a w K' Q)
    (h' : ∀ K' : Act → World → Prop, Shut (∀ a w, S w ∧ wpAnyH P md ops Q S fuel (listed.setIfInBounds k true) a w → K' a w) → Oper.wp P o' a w K' Q) : wpAnyH P md ops Q S (fuel + 1) listed a w :=
  wpAnyH_all hr (by simp) (fun j hj => by
    have hj' : j = i ∨ j = k := by simpa using hj
    rcases hj' with rfl | rfl
    · exact wpOp_of ho hw h
    · exact wpOp_of ho' hw' h')
/-- A region whose ends are one frame: what follows is walked once. -/
theorem region_cut {id : Nat} {b : Bool} {a : Act} {w : World} (af : Act) (R : World → Prop) (h : (∀ w', R w' → Q .normal af w') → (Code.region id ops b).wp P Q a w) (h' : ∀ w', R w' → Q .normal af w') : (Code.region id ops b).wp P Q a w := h h'
/-- A load, run. -/
theorem exec_load {o : Oper} {a : Act} {w : World} {ty : TypeId} (x : Operand) (ho : o.op = .load ty x) (g : Nat) (hx : a.eval x = .pointer (some ⟨g, 0, none⟩)) {t : TypeId} {cs : Array Value} {d : TypeDesc} (hg : Blk w g t cs)
    (hu : P.underlying ty = some d) (hd : (match d with | .struct _ | .array _ _ => true | _ => false) = true) (hi : (P.info? ty).map (·.size) = some cs.size) : (execOp a.eval o).run P w = .ok (.value (.agg cs)) w := by
  unfold execOp
  simp only [ho, hx, Instr.loadAt, Instr.sureAddr, Sem.run_bind, Sem.run_pure, Result.andThen_ok, run_loadVar_row w g t ty cs (0, 0) d hg hu hd hi]
end

section
variable {P : Program} {o : Oper} {a : Act} {w : World}

theorem run_guard_int (w : World) (op : BinOp) (t : TypeId) (x y : Operand) (k k' : IntKind) (i j : Int) : (eqGuard op t x y (.int k i) (.int k' j)).run P w = .ok () w := by
  cases op <;> simp [eqGuard]

/-- What two ints give. -/
theorem exec_bin {op : BinOp} {ty rt : TypeId} (x y : Operand) (ho : o.op = .binOp op ty x y rt) {k k' : IntKind} (i j : Int) (hx : a.eval x = .int k i) (hy : a.eval y = .int k' j) {v : Value} (hr : (binOp op ty (.int k i) (.int k' j)).run P w = .ok v w) :
    (execOp a.eval o).run P w = .ok (.value v) w := by
  unfold execOp
  simp only [ho, hx, hy, Sem.run_bind, run_guard_int, Result.andThen_ok, hr, Sem.run_pure]

theorem exec_add {ty rt : TypeId} (x y : Operand) (ho : o.op = .binOp .add ty x y rt) (i j k : Int) (hx : a.eval x = .int .i64 i) (hy : a.eval y = .int .i64 j) (h : i + j = k) (hk : -9223372036854775808 ≤ k ∧ k ≤ 9223372036854775807) :
    (execOp a.eval o).run P w = .ok (.value (.int .i64 k)) w := by
  subst h
  refine exec_bin x y ho i j hx hy ?_
  rw [binOp_add]; simp only [Op.intArith, Sem.run_pure, IntWalk.i64_in _ hk]
theorem exec_sub {ty rt : TypeId} (x y : Operand) (ho : o.op = .binOp .sub ty x y rt) (i j k : Int) (hx : a.eval x = .int .i64 i) (hy : a.eval y = .int .i64 j) (h : i - j = k) (hk : -9223372036854775808 ≤ k ∧ k ≤ 9223372036854775807) :
    (execOp a.eval o).run P w = .ok (.value (.int .i64 k)) w := by
  subst h
  refine exec_bin x y ho i j hx hy ?_
  rw [binOp_sub]; simp only [Op.intArith, Sem.run_pure, IntWalk.i64_in _ hk]
theorem exec_mul {ty rt : TypeId} (x y : Operand) (ho : o.op = .binOp .mul ty x y rt) (i j k : Int) (hx : a.eval x = .int .i64 i) (hy : a.eval y = .int .i64 j) (h : i * j = k) (hk : -9223372036854775808 ≤ k ∧ k ≤ 9223372036854775807) :
    (execOp a.eval o).run P w = .ok (.value (.int .i64 k)) w := by
  subst h
  refine exec_bin x y ho i j hx hy ?_
  rw [binOp_mul]; simp only [Op.intArith, Sem.run_pure, IntWalk.i64_in _ hk]
/-- A shift to the right by a constant. -/
theorem exec_shr {ty rt : TypeId} (x y : Operand) (ho : o.op = .binOp .shr ty x y rt) (i k : Int) (n : Nat) {q : IntKind} (hx : a.eval x = .int .i64 i) (hy : a.eval y = .int q n) (hn : n ≤ 64) (h : i.fdiv (2 ^ n) = k) :
    (execOp a.eval o).run P w = .ok (.value (.int .i64 k)) w := by
  subst h
  refine exec_bin x y ho i n hx hy ?_
  have e : min (n : Int).toNat IntKind.i64.bits = n := by rw [Int.toNat_natCast]; exact Nat.min_eq_left hn
  rw [binOp_shr]; simp only [Op.shift, if_neg (show ¬ ((n : Int) < 0) by omega), Sem.run_pure, e]
/-- A quotient of a number that isn't below nought. -/
theorem exec_quo {ty rt : TypeId} (x y : Operand) (ho : o.op = .binOp .quo ty x y rt) (i j k : Int) (hx : a.eval x = .int .i64 i) (hy : a.eval y = .int .i64 j) (hi : 0 ≤ i ∧ i ≤ 9223372036854775807) (hj : 1 ≤ j) (h : i / j = k) :
    (execOp a.eval o).run P w = .ok (.value (.int .i64 k)) w := by
  subst h
  refine exec_bin x y ho i j hx hy ?_
  rw [binOp_quo]; simp only [Op.intDiv, if_neg (show ¬ j = 0 by omega), Sem.run_pure, IntWalk.i64_quo i j ⟨hi.1, hi.2, hj⟩]
theorem exec_lss {ty rt : TypeId} (x y : Operand) (ho : o.op = .binOp .lss ty x y rt) {q q' : IntKind} (i j : Int) (hx : a.eval x = .int q i) (hy : a.eval y = .int q' j) (b : Bool) (h : decide (i < j) = b) (hq : q = q') : (execOp a.eval o).run P w = .ok (.value (.bool b)) w := by
  subst h hq
  exact exec_bin x y ho i j hx hy (by rw [binOp_lss]; rfl)
theorem exec_leq {ty rt : TypeId} (x y : Operand) (ho : o.op = .binOp .leq ty x y rt) {q q' : IntKind} (i j : Int) (hx : a.eval x = .int q i) (hy : a.eval y = .int q' j) (b : Bool) (h : decide (i ≤ j) = b) (hq : q = q') : (execOp a.eval o).run P w = .ok (.value (.bool b)) w := by
  subst h hq
  exact exec_bin x y ho i j hx hy (by rw [binOp_leq]; rfl)
theorem exec_gtr {ty rt : TypeId} (x y : Operand) (ho : o.op = .binOp .gtr ty x y rt) {q q' : IntKind} (i j : Int) (hx : a.eval x = .int q i) (hy : a.eval y = .int q' j) (b : Bool) (h : decide (i > j) = b) (hq : q = q') : (execOp a.eval o).run P w = .ok (.value (.bool b)) w := by
  subst h hq
  exact exec_bin x y ho i j hx hy (by rw [binOp_gtr]; rfl)
theorem exec_geq {ty rt : TypeId} (x y : Operand) (ho : o.op = .binOp .geq ty x y rt) {q q' : IntKind} (i j : Int) (hx : a.eval x = .int q i) (hy : a.eval y = .int q' j) (b : Bool) (h : decide (i ≥ j) = b) (hq : q = q') : (execOp a.eval o).run P w = .ok (.value (.bool b)) w := by
  subst h hq
  exact exec_bin x y ho i j hx hy (by rw [binOp_geq]; rfl)
theorem exec_eql {ty rt : TypeId} (x y : Operand) (ho : o.op = .binOp .eql ty x y rt) {q q' : IntKind} (i j : Int) (hx : a.eval x = .int q i) (hy : a.eval y = .int q' j) (b : Bool) (h : decide (i = j) = b) (hq : q = q') : (execOp a.eval o).run P w = .ok (.value (.bool b)) w := by
  subst h hq
  exact exec_bin x y ho i j hx hy (by rw [binOp_eql]; rfl)
theorem exec_neq {ty rt : TypeId} (x y : Operand) (ho : o.op = .binOp .neq ty x y rt) {q q' : IntKind} (i j : Int) (hx : a.eval x = .int q i) (hy : a.eval y = .int q' j) (b : Bool) (h : (!decide (i = j)) = b) (hq : q = q') : (execOp a.eval o).run P w = .ok (.value (.bool b)) w := by
  subst h hq
  exact exec_bin x y ho i j hx hy (by rw [binOp_neq]; rfl)

/-- A cell that is read. -/
theorem exec_cell {ty : TypeId} (x : Operand) (ho : o.op = .load ty x) (p : Addr) (hx : a.eval x = .pointer (some p)) {k k' : IntKind} (z : Int) (hu : P.underlying ty = some (.int k')) (hc : w.cell? p = some (.int k z)) : (execOp a.eval o).run P w = .ok (.value (.int k z)) w := by
  unfold execOp
  have ha : (isAgg ty).run P w = .ok false w := by simp [isAgg, run_underlying hu]
  simp only [ho, hx, Instr.loadAt, Instr.sureAddr, Sem.run_bind, Sem.run_pure, Result.andThen_ok, loadVar, ha]
  simp [hc]
end

end Go.Proofs.Ytajkajgnjcnolaa

