/-
  Slices of slices of bytes; contracts of word, Seal, Open (layer 1), and of Same.
-/
import Derived.Test.YtdjnfikacjfkkaaCrcE
import Derived.Deep.DeepCutAuto
import Derived.Laws.CopyOwn
namespace Go.Proofs.Ytdjnfikacjfkkaa
open Go.RowKit CrcM
set_option linter.unusedVariables false
set_option linter.unnecessarySimpa false
set_option linter.unusedSimpArgs false

theorem word_next (bs : List Nat) (k : Nat) (hk : k < 4) (hl : k < bs.length) (hb : ∀ c ∈ bs, c < 256) :
    bits BinOp.or IntKind.u32 ((num (bs.take k) : Nat) : Int) ((((bs.getD k 0 : Nat) : Int)) * 2 ^ (8 * k) % 4294967296) = ((num (bs.take (k + 1)) : Nat) : Int) := by
  have ht : ∀ c ∈ bs.take k, c < 256 := fun c hc => hb c (List.mem_of_mem_take hc)
  have h1 := num_lt (bs.take k) ht
  have hlen : (bs.take k).length = k := by simp; omega
  rw [hlen] at h1
  have hp : 2 ^ (8 * k) ≤ 2 ^ 24 := Nat.pow_le_pow_right (by decide) (by omega)
  have hc := getD_lt hb k
  have h2 : bs.getD k 0 * 2 ^ (8 * k) < 4294967296 := by
    have : bs.getD k 0 * 2 ^ (8 * k) ≤ 255 * 2 ^ 24 := Nat.mul_le_mul (by omega) hp
    omega
  rw [take_snoc_nat bs k hl, num_snoc _ _ ht, hlen]
  have e : ((((bs.getD k 0 : Nat) : Int)) * 2 ^ (8 * k) % 4294967296) = ((bs.getD k 0 * 2 ^ (8 * k) : Nat) : Int) := by
    have h3 : ((bs.getD k 0 * 2 ^ (8 * k) % 4294967296 : Nat) : Int) = (((bs.getD k 0 : Nat) : Int)) * 2 ^ (8 * k) % 4294967296 := by
      rw [Int.natCast_emod, Int.natCast_mul, Int.natCast_pow]; rfl
    rw [← h3, Nat.mod_eq_of_lt h2]
  rw [e]
  exact u32_or_nat _ _ (Nat.lt_of_lt_of_le h1 (Nat.le_trans hp (by decide))) h2

theorem seal_start (bs : List Nat) (len : Nat) (h : bs.length = len) : bs.take (len + 4) ++ (zeros (len + 4)).drop (min len (len + 4)) = bs ++ zeros 4 := by
  rw [List.take_of_length_le (by omega), Nat.min_eq_left (by omega)]
  congr 1
  simp [zeros, show len + 4 - len = 4 by omega]

theorem seal_set (bs : List Nat) (len k s : Nat) (h : bs.length = len) (hk : k < 4) :
    (bs ++ (leb k s ++ zeros (4 - k))).set (len + k) (s / 2 ^ (8 * k) % 256) = bs ++ (leb (k + 1) s ++ zeros (4 - (k + 1))) := by
  subst h
  rw [List.set_append_right _ _ (by omega), List.set_append_right _ _ (by rw [leb_length]; omega), leb_length, leb_succ]
  have e : zeros (4 - k) = 0 :: zeros (4 - (k + 1)) := by
    unfold zeros; rw [show 4 - k = (4 - (k + 1)) + 1 by omega, List.replicate_succ]
  rw [e, show bs.length + k - bs.length - k = 0 by omega, List.set_cons_zero]
  simp

/-- What Seal tells. -/
def SealPost (n : Nat) (bs : List Nat) (w : World) (e : Ending) (w' : World) : Prop :=
  ∃ g, e = .returned (.slice (some ⟨g, 0, none⟩) (n + 4) (n + 4)) ∧ w.heap.size ≤ g ∧ w'.heap[g]? = some (.cells (bA (sealed bs)) 5 (0, 0)) ∧ Below w.heap.size w w'

end Go.Proofs.Ytdjnfikacjfkkaa
