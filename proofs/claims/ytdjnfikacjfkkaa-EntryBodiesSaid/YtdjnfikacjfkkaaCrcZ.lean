/-
  Exclusive ors of lists of bytes.
-/
import Derived.Test.YtdjnfikacjfkkaaCrcF
namespace Go.Proofs.Ytdjnfikacjfkkaa
open Go.RowKit CrcM
set_option linter.unusedVariables false
set_option linter.unnecessarySimpa false
set_option linter.unusedSimpArgs false

/-- The first k bytes of an exclusive or. -/
def zx (xs ys : List Nat) (k : Nat) : List Nat := (List.range k).map fun i => xs.getD i 0 ^^^ ys.getD i 0
theorem zx_length (xs ys : List Nat) (k : Nat) : (zx xs ys k).length = k := by simp [zx]
theorem zx_succ (xs ys : List Nat) (k : Nat) : zx xs ys (k + 1) = zx xs ys k ++ [xs.getD k 0 ^^^ ys.getD k 0] := by simp [zx, List.range_succ]
theorem zx_lt {xs ys : List Nat} (hx : ∀ c ∈ xs, c < 256) (hy : ∀ c ∈ ys, c < 256) (k : Nat) : ∀ c ∈ zx xs ys k, c < 256 := by
  intro c hc; obtain ⟨i, _, rfl⟩ := List.mem_map.1 hc; exact Nat.xor_lt_two_pow (n := 8) (getD_lt hx i) (getD_lt hy i)
theorem ovr_zeros (n : Nat) : ovr 0 (zeros n) = 0 := by rw [ovr_num _ 0 (zeros_lt n), zeros_num]; exact hvs_zero _
theorem xor_mul (k x y : Nat) : 2 ^ k * x ^^^ 2 ^ k * y = 2 ^ k * (x ^^^ y) := by
  apply Nat.eq_of_testBit_eq; intro i
  simp only [Nat.testBit_xor, Nat.testBit_two_pow_mul]
  by_cases hk : k ≤ i <;> simp [hk]
theorem num_one (a : List Nat) (c : Nat) (ha : ∀ x ∈ a, x < 256) : num (a ++ [c]) = num a ^^^ 2 ^ (8 * a.length) * c := by
  rw [num_append a [c] ha, show num [c] = c from by simp [num]]
theorem num_zx (xs ys : List Nat) (hx : ∀ c ∈ xs, c < 256) (hy : ∀ c ∈ ys, c < 256) : ∀ k, k ≤ xs.length → k ≤ ys.length → num (zx xs ys k) = num (xs.take k) ^^^ num (ys.take k) := by
  intro k
  induction k with
  | zero => intro _ _; simp [zx, num]
  | succ k ih =>
    intro h1 h2
    have hl1 : (xs.take k).length = k := by simp; omega
    have hl2 : (ys.take k).length = k := by simp; omega
    rw [zx_succ, num_one _ _ (zx_lt hx hy k), zx_length, ih (by omega) (by omega), take_snoc_nat xs k (by omega), take_snoc_nat ys k (by omega),
      num_one _ _ (fun c hc => hx c (List.mem_of_mem_take hc)), num_one _ _ (fun c hc => hy c (List.mem_of_mem_take hc)), hl1, hl2, ← xor_mul]
    simp only [Nat.xor_assoc]
    congr 1
    simp only [← Nat.xor_assoc]
    rw [Nat.xor_comm (num (List.take k ys))]

theorem getD_app (a b : List Nat) (i : Nat) : (a ++ b).getD i 0 = if i < a.length then a.getD i 0 else b.getD (i - a.length) 0 := by
  simp only [List.getD, List.getElem?_append]
  split <;> rfl

theorem zx_take (xs ys : List Nat) (n m : Nat) (h : n ≤ m) : (zx xs ys m).take n = zx (xs.take n) (ys.take n) n := by
  unfold zx
  rw [← List.map_take, List.take_range, Nat.min_eq_left h]
  apply List.map_congr_left
  intro i hi
  have hi' : i < n := by simpa using hi
  simp [List.getD, List.getElem?_take_of_lt hi']

theorem zx_drop (xs ys : List Nat) (n m : Nat) : (zx xs ys (n + m)).drop n = zx (xs.drop n) (ys.drop n) m := by
  apply List.ext_getElem
  · simp [zx]
  · intro i h1 h2
    simp [zx] at h2
    simp [zx, List.getD, List.getElem?_drop]

theorem num_zx_full (xs ys : List Nat) (n : Nat) (hx : ∀ c ∈ xs, c < 256) (hy : ∀ c ∈ ys, c < 256) (h1 : xs.length = n) (h2 : ys.length = n) : num (zx xs ys n) = num xs ^^^ num ys := by
  rw [num_zx xs ys hx hy n (by omega) (by omega), List.take_of_length_le (by omega), List.take_of_length_le (by omega)]

/-- What is sealed, with a pattern put in, is opened just if the pattern is a multiple. -/
theorem pattern_spec (xs qs : List Nat) (n : Nat) (hx : ∀ c ∈ xs, c < 256) (hq : ∀ c ∈ qs, c < 256) (hl : xs.length = n) (hm : qs.length = n + 4) :
    sm ((zx (sealed xs) qs (n + 4)).take n) = num ((zx (sealed xs) qs (n + 4)).drop n) ↔ ovr 0 qs = 0 := by
  have hq1 : ∀ c ∈ qs.take n, c < 256 := fun c hc => hq c (List.mem_of_mem_take hc)
  have hq2 : ∀ c ∈ qs.drop n, c < 256 := fun c hc => hq c (List.mem_of_mem_drop hc)
  have l1 : (qs.take n).length = n := by simp; omega
  have l2 : (qs.drop n).length = 4 := by simp; omega
  have hsl : (leb 4 (sm xs)).length = 4 := leb_length _ _
  have e1 : num ((zx (sealed xs) qs (n + 4)).drop n) = sm xs ^^^ num (qs.drop n) := by
    rw [zx_drop, num_zx_full _ _ 4 (fun c hc => sealed_lt hx c (List.mem_of_mem_drop hc)) hq2 (by rw [List.length_drop, sealed_length]; omega) l2]
    congr 1
    have : (sealed xs).drop n = leb 4 (sm xs) := by subst hl; simp [sealed]
    rw [this, leb_num, Nat.mod_eq_of_lt (sm_lt hx)]
  have t1 : (sealed xs).take n = xs := by subst hl; simp [sealed]
  have e2 : sm ((zx (sealed xs) qs (n + 4)).take n) = sm xs ^^^ hvs (8 * n) (num (qs.take n)) := by
    rw [zx_take _ _ n (n + 4) (by omega), t1]
    unfold sm
    rw [ovr_num _ _ (zx_lt hx hq1 n), ovr_num _ _ hx, zx_length, hl, num_zx_full xs (qs.take n) n hx hq1 hl l1, ← Nat.xor_assoc, hvs_xor]
    simp only [Nat.xor_assoc]
    congr 1
    exact Nat.xor_comm _ _
  have e3 : ovr 0 qs = hvs 32 (hvs (8 * n) (num (qs.take n)) ^^^ num (qs.drop n)) := by
    conv => lhs; rw [← List.take_append_drop n qs]
    rw [ovr_append, ovr_num _ _ hq2, ovr_num _ _ hq1, Nat.zero_xor, l1, l2]
  have b1 : hvs (8 * n) (num (qs.take n)) < 4294967296 := by
    have := ovr_lt (qs.take n) (r := 0) (by decide) hq1
    rwa [ovr_num _ _ hq1, Nat.zero_xor, l1] at this
  have b2 : num (qs.drop n) < 4294967296 := by
    have := num_lt _ hq2
    rw [l2] at this
    exact this
  rw [e1, e2, e3]
  constructor
  · intro h
    rw [xor_cancel h, Nat.xor_self, hvs_zero]
  · intro h
    have h0 := hvs_eq_zero 32 (Nat.xor_lt_two_pow (n := 32) b1 b2) h
    have h1 : hvs (8 * n) (num (qs.take n)) = num (qs.drop n) := by
      have := congrArg (fun x => x ^^^ num (qs.drop n)) h0
      simpa [Nat.xor_assoc, Nat.xor_self] using this
    rw [h1]

end Go.Proofs.Ytdjnfikacjfkkaa
