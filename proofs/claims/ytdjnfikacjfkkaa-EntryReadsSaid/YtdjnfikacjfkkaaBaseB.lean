/-
  The document's Same: two slices of bytes.
-/
import Derived.Test.YtdjnfikacjfkkaaBaseA
namespace Go.Proofs.Ytdjnfikacjfkkaa
open Go.RowKit CrcM
set_option linter.unusedVariables false
set_option linter.unnecessarySimpa false
set_option linter.unusedSimpArgs false

/-- The world of a call that only draws. -/
def Drawn (b : Bool) (w : World) (e : Ending) (w' : World) : Prop := e = .returned (.bool b) ∧ ∃ n, w' = w.drewN n

theorem take_eq_succ {xs bs : List Nat} {k : Nat} (ha : k < xs.length) (hb : k < bs.length) (h : xs.take k = bs.take k) (e : xs.getD k 0 = bs.getD k 0) : xs.take (k + 1) = bs.take (k + 1) := by
  rw [take_snoc_nat xs k ha, take_snoc_nat bs k hb, h, e]

end Go.Proofs.Ytdjnfikacjfkkaa
