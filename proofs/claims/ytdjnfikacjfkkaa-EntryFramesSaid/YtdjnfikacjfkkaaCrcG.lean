/-
  The contract of Open (layer 1).
-/
import Derived.Test.YtdjnfikacjfkkaaCrcF
namespace Go.Proofs.Ytdjnfikacjfkkaa
open Go.RowKit CrcM
set_option linter.unusedVariables false
set_option linter.unnecessarySimpa false
set_option linter.unusedSimpArgs false

/-- What Open tells of an error. -/
def OpenErr (x : Int) (w : World) (e : Ending) (w' : World) : Prop := e = .returned (.tuple #[.slice none 0 0, .int .i64 x]) ∧ Below w.heap.size w w'
/-- What Open tells of sound bytes: n bytes xs. -/
def OpenOk (n : Nat) (xs : List Nat) (w : World) (e : Ending) (w' : World) : Prop :=
  ∃ g, e = .returned (.tuple #[.slice (some ⟨g, 0, none⟩) n n, .int .i64 0]) ∧ w.heap.size ≤ g ∧ w'.heap[g]? = some (.cells (bA xs) 5 (0, 0)) ∧ Below w.heap.size w w'

theorem open_row (bs : List Nat) (n : Nat) : bs.take n ++ (zeros n).drop (min (n + 4) n) = bs.take n := by
  rw [Nat.min_eq_right (by omega), List.drop_of_length_le (by rw [zeros_length]; omega), List.append_nil]

theorem sealed_take (xs : List Nat) (n : Nat) (h : xs.length = n) : (sealed xs).take n = xs := by subst h; simp [sealed]
theorem sealed_drop (xs : List Nat) (n : Nat) (h : xs.length = n) : (sealed xs).drop n = leb 4 (sm xs) := by subst h; simp [sealed]
theorem sealed_sound (xs : List Nat) (n : Nat) (h : xs.length = n) (hb : ∀ c ∈ xs, c < 256) : sm ((sealed xs).take n) = num ((sealed xs).drop n) := by
  rw [sealed_take xs n h, sealed_drop xs n h, leb_num, Nat.mod_eq_of_lt (sm_lt hb)]

end Go.Proofs.Ytdjnfikacjfkkaa
