/-
  Layer 3 (frame), sixth part: At, Sum, Xor.
-/
import Derived.Test.YtdjnfikacjfkkaaFrameF
namespace Go.Proofs.Ytdjnfikacjfkkaa
open Go.RowKit CrcM
set_option linter.unusedVariables false
set_option linter.unnecessarySimpa false
set_option linter.unusedSimpArgs false

/-- At's error and frame. -/
def atE (bs : List Nat) (zn of : Int) : Int := if decE bs = 0 then (if (decF bs).z = zn ∧ (decF bs).o = of then 0 else 12) else decE bs
def atF (bs : List Nat) (zn of : Int) : FrR := if decE bs = 0 ∧ (decF bs).z = zn ∧ (decF bs).o = of then decF bs else fr0

theorem atF_len {bs : List Nat} (h : bs.length = 64) (zn of : Int) : (atF bs zn of).b.length = 44 := by
  unfold atF; split
  · exact decF_len h
  · exact fr0_len

/-- An exclusive or on its way: k bytes done. -/
def xl (xs ys : List Nat) (k : Nat) : List Nat := (List.range 64).map fun i => if i < k then xs.getD i 0 ^^^ ys.getD i 0 else xs.getD i 0
theorem xl_length (xs ys : List Nat) (k : Nat) : (xl xs ys k).length = 64 := by simp [xl]
theorem xl_at (xs ys : List Nat) (k : Nat) (h : k < 64) : (xl xs ys k).getD k 0 = xs.getD k 0 := by simp [xl, List.getD, h]
theorem xl_zero (xs ys : List Nat) (h : xs.length = 64) : xl xs ys 0 = xs := by
  apply list_eq_of_getD (n := 64) (xl_length _ _ _) h
  intro i hi
  simp [xl, List.getD, hi]
theorem xl_full (xs ys : List Nat) : xl xs ys 64 = zx xs ys 64 := by
  unfold xl zx
  apply List.map_congr_left
  intro i hi
  rw [if_pos (by simpa using hi)]
theorem xl_set (xs ys : List Nat) (k : Nat) (h : k < 64) : (xl xs ys k).set k (xs.getD k 0 ^^^ ys.getD k 0) = xl xs ys (k + 1) := by
  apply list_eq_of_getD (n := 64) (by rw [List.length_set, xl_length]) (xl_length _ _ _)
  intro i hi
  by_cases hk : k = i
  · subst hk
    simp [xl, List.getD, hi]
  · simp only [xl, List.getD, List.getElem?_set, if_neg hk]
    simp only [List.getElem?_map, List.getElem?_range hi, Option.map_some, Option.getD_some]
    by_cases h1 : i < k
    · rw [if_pos h1, if_pos (by omega)]
    · rw [if_neg h1, if_neg (by omega)]

end Go.Proofs.Ytdjnfikacjfkkaa
