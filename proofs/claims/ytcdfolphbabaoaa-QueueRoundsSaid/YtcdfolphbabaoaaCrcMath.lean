/-
  The plain mathematics of layer 1 (crc): a word gone on by bytes is the list's number, halved as often as it has bits. No Go text here.
-/
import Derived.KernelRfl
namespace Go.Proofs.Ytcdfolphbabaoaa.CrcM

/-- The generator's word. -/
def poly : Nat := 2197175160
/-- One bit on. -/
def hv (r : Nat) : Nat := if r % 2 = 1 then (r / 2) ^^^ poly else r / 2
/-- Some bits on. -/
def hvs : Nat → Nat → Nat
  | 0, r => r
  | k + 1, r => hvs k (hv r)
/-- A byte on, as the document says it. -/
def stp (r c : Nat) : Nat := hvs 8 (r ^^^ c)
/-- Bytes on. -/
def ovr (r : Nat) (b : List Nat) : Nat := b.foldl stp r
/-- A table's word. -/
def tw (c : Nat) : Nat := hvs 8 c
/-- A byte on, as the table does it. -/
def gst (r c : Nat) : Nat := tw ((r % 256) ^^^ c) ^^^ (r / 256)
/-- The number of bytes, the first one lowest. -/
def num : List Nat → Nat
  | [] => 0
  | c :: b => c + 256 * num b

theorem hv_xor (a b : Nat) : hv (a ^^^ b) = hv a ^^^ hv b := by
  have hm : (a ^^^ b) % 2 = (a % 2 + b % 2) % 2 := by
    have := @Nat.xor_mod_two_pow a b 1; simp only [Nat.pow_one] at this; rw [this]
    rcases Nat.mod_two_eq_zero_or_one a with ha | ha <;> rcases Nat.mod_two_eq_zero_or_one b with hb | hb <;> simp [ha, hb]
  have hd : (a ^^^ b) / 2 = (a / 2) ^^^ (b / 2) := by
    apply Nat.eq_of_testBit_eq; intro i; simp [Nat.testBit_div_two, Nat.testBit_xor]
  unfold hv
  rcases Nat.mod_two_eq_zero_or_one a with ha | ha <;> rcases Nat.mod_two_eq_zero_or_one b with hb | hb <;> simp only [hm, hd, ha, hb]
  · simp
  · simp [Nat.xor_assoc]
  · simp only [Nat.zero_ne_one, if_false, if_true]
    rw [Nat.xor_assoc, Nat.xor_assoc, Nat.xor_comm poly]
  · simp only [Nat.reduceAdd, Nat.reduceMod, if_true, Nat.zero_ne_one, if_false]
    rw [Nat.xor_assoc, ← Nat.xor_assoc poly, Nat.xor_comm poly, Nat.xor_assoc (b/2), Nat.xor_self, Nat.xor_zero]

theorem hvs_xor (k : Nat) : ∀ a b : Nat, hvs k (a ^^^ b) = hvs k a ^^^ hvs k b := by
  induction k with
  | zero => intro a b; rfl
  | succ k ih => intro a b; simp only [hvs, hv_xor, ih]

theorem hv_zero : hv 0 = 0 := rfl
theorem hvs_zero (k : Nat) : hvs k 0 = 0 := by
  induction k with
  | zero => rfl
  | succ k ih => simpa [hvs, hv_zero] using ih

theorem hvs_add (j k : Nat) : ∀ r, hvs (j + k) r = hvs k (hvs j r) := by
  induction j with
  | zero => intro r; simp [hvs]
  | succ j ih => intro r; rw [Nat.succ_add]; simp only [hvs, ih]

theorem hvs_succ (k r : Nat) : hvs (k + 1) r = hv (hvs k r) := by rw [hvs_add]; rfl

theorem hv_two (q : Nat) : hv (2 * q) = q := by unfold hv; rw [if_neg (by omega)]; omega

theorem hvs_pow (k : Nat) : ∀ q, hvs k (2 ^ k * q) = q := by
  induction k with
  | zero => intro q; simp [hvs]
  | succ k ih =>
    intro q
    have e : 2 ^ (k + 1) * q = 2 * (2 ^ k * q) := by rw [Nat.pow_succ]; rw [Nat.mul_comm (2 ^ k) 2, Nat.mul_assoc]
    rw [e]; simp only [hvs, hv_two, ih]

theorem hv_lt {r n : Nat} (hn : 32 ≤ n) (h : r < 2 ^ n) : hv r < 2 ^ n := by
  have hp : poly < 2 ^ n := Nat.lt_of_lt_of_le (by decide : poly < 2 ^ 32) (Nat.pow_le_pow_right (by omega) hn)
  unfold hv; split
  · exact Nat.xor_lt_two_pow (by omega) hp
  · omega

theorem hv_lt32 {r : Nat} (h : r < 4294967296) : hv r < 4294967296 := hv_lt (n := 32) (Nat.le_refl _) h

theorem hvs_lt32 (k : Nat) : ∀ {r : Nat}, r < 4294967296 → hvs k r < 4294967296 := by
  induction k with
  | zero => intro r h; exact h
  | succ k ih => intro r h; exact ih (hv_lt32 h)

/-- A number of more than 32 bits loses one by each step. -/
theorem hvs_lt (k : Nat) : ∀ {n r : Nat}, 32 ≤ n → r < 2 ^ (n + k) → hvs k r < 2 ^ n := by
  induction k with
  | zero => intro n r _ h; simpa [hvs] using h
  | succ k ih =>
    intro n r hn h
    refine ih hn ?_
    have h2 : r / 2 < 2 ^ (n + k) := by rw [← Nat.add_assoc, Nat.pow_succ] at h; omega
    have hp : poly < 2 ^ (n + k) := Nat.lt_of_lt_of_le (by decide : poly < 2 ^ 32) (Nat.pow_le_pow_right (by omega) (by omega))
    unfold hv; split
    · exact Nat.xor_lt_two_pow h2 hp
    · exact h2

theorem hv_eq_zero {r : Nat} (h : r < 4294967296) (h0 : hv r = 0) : r = 0 := by
  unfold hv at h0; split at h0
  · have e : r / 2 = poly := by
      have := congrArg (fun x => x ^^^ poly) h0
      simpa [Nat.xor_assoc, Nat.xor_self] using this
    have : poly = 2197175160 := rfl
    omega
  · omega

theorem hvs_eq_zero (k : Nat) : ∀ {r : Nat}, r < 4294967296 → hvs k r = 0 → r = 0 := by
  induction k with
  | zero => intro r _ h; exact h
  | succ k ih => intro r hr h; exact hv_eq_zero hr (ih (hv_lt32 hr) h)

theorem add_eq_xor {k a b : Nat} (h : a < 2 ^ k) : a + 2 ^ k * b = a ^^^ (2 ^ k * b) := by
  rw [Nat.add_comm, Nat.two_pow_add_eq_or_of_lt h]
  apply Nat.eq_of_testBit_eq; intro i
  rw [Nat.testBit_or, Nat.testBit_xor]
  by_cases hi : i < k
  · have : (2 ^ k * b).testBit i = false := by rw [Nat.testBit_two_pow_mul]; simp; omega
    simp [this]
  · have : a.testBit i = false := Nat.testBit_lt_two_pow (Nat.lt_of_lt_of_le h (Nat.pow_le_pow_right (by omega) (by omega)))
    simp [this]

theorem num_cons {c : Nat} (hc : c < 256) (b : List Nat) : num (c :: b) = c ^^^ (2 ^ 8 * num b) := by
  show c + 2 ^ 8 * num b = _
  exact add_eq_xor hc

theorem ovr_num (b : List Nat) : ∀ r, (∀ c ∈ b, c < 256) → ovr r b = hvs (8 * b.length) (r ^^^ num b) := by
  induction b with
  | nil => intro r _; simp [ovr, num, hvs]
  | cons c b ih =>
    intro r h
    have hc := h c (by simp)
    have h8 : 8 * (c :: b).length = 8 + 8 * b.length := by simp; omega
    rw [h8, hvs_add, num_cons hc, ← Nat.xor_assoc, hvs_xor 8 (r ^^^ c), hvs_pow]
    exact ih (stp r c) (fun x hx => h x (by simp [hx]))

theorem gst_stp (r c : Nat) : gst r c = stp r c := by
  have e : r = (r % 256) ^^^ (2 ^ 8 * (r / 256)) := by
    rw [← add_eq_xor (k := 8) (Nat.mod_lt _ (by decide))]; omega
  unfold gst stp tw
  conv => rhs; rw [e, Nat.xor_assoc, Nat.xor_comm (2 ^ 8 * _), ← Nat.xor_assoc, hvs_xor, hvs_pow]

theorem stp_lt {r c : Nat} (hr : r < 4294967296) (hc : c < 256) : stp r c < 4294967296 :=
  hvs_lt32 8 (Nat.xor_lt_two_pow (n := 32) hr (by omega))

theorem ovr_lt (b : List Nat) : ∀ {r : Nat}, r < 4294967296 → (∀ c ∈ b, c < 256) → ovr r b < 4294967296 := by
  induction b with
  | nil => intro r h _; exact h
  | cons c b ih => intro r h hb; exact ih (stp_lt h (hb c (by simp))) (fun x hx => hb x (by simp [hx]))

theorem ovr_append (r : Nat) (a b : List Nat) : ovr r (a ++ b) = ovr (ovr r a) b := by simp [ovr]
theorem ovr_snoc (r : Nat) (a : List Nat) (c : Nat) : ovr r (a ++ [c]) = stp (ovr r a) c := by simp [ovr]

theorem tw_lt {c : Nat} (h : c < 256) : tw c < 4294967296 := hvs_lt32 8 (by omega)

/-- The sum: all bits turned. -/
def sm (b : List Nat) : Nat := ovr 4294967295 b ^^^ 4294967295
theorem sm_lt {b : List Nat} (h : ∀ c ∈ b, c < 256) : sm b < 4294967296 :=
  Nat.xor_lt_two_pow (n := 32) (ovr_lt b (by decide) h) (by decide)
theorem not32 {x : Nat} (h : x < 4294967296) : x ^^^ 4294967295 = 4294967295 - x := by
  have := BitVec.toNat_not (x := BitVec.ofNat 32 x)
  have e2 : (~~~ BitVec.ofNat 32 x) = BitVec.ofNat 32 x ^^^ BitVec.allOnes 32 := (BitVec.xor_allOnes).symm
  rw [e2, BitVec.toNat_xor, BitVec.toNat_ofNat, BitVec.toNat_allOnes] at this
  rw [Nat.mod_eq_of_lt (by simpa using h)] at this
  simpa using this

end Go.Proofs.Ytcdfolphbabaoaa.CrcM
