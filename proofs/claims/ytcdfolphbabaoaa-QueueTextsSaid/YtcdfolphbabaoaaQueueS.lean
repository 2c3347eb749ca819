/-
  A slice of strings as it reads.
-/
import Derived.Test.YtcdfolphbabaoaaBaseA
import Derived.Test.YtcdfolphbabaoaaBaseS
import Derived.SliceStrings
namespace Go.Proofs.Ytcdfolphbabaoaa
open Go.RowKit
set_option linter.unusedVariables false
set_option linter.unnecessarySimpa false
set_option linter.unusedSimpArgs false

/-- A slice of strings as it reads. -/
structure RowStr (w : World) (a : Option Addr) (len cap : Nat) (f : Nat → ByteArray) : Prop where
  le : len ≤ cap
  max : cap ≤ maxLen
  cells : 0 < len → ∃ b off, a = some ⟨b, off, none⟩ ∧ ∀ i, i < len → w.cell? ⟨b, off + i, none⟩ = some (.string (f i))
theorem RowStr.below {w w' : World} {a : Option Addr} {len cap : Nat} {f : Nat → ByteArray} (h : RowStr w a len cap f) (hb : Below w.heap.size w w') : RowStr w' a len cap f := by
  obtain ⟨h1, h2, h3⟩ := h
  refine ⟨h1, h2, fun h0 => ?_⟩
  obtain ⟨b, off, rfl, hc⟩ := h3 h0
  exact ⟨b, off, rfl, fun i hi => (hb.cell (p := ⟨b, off + i, none⟩) (block_lt_of_cell (hc i hi))).trans (hc i hi)⟩
section
open Go.ChangeShapes Go.WideShapes
variable {H : Type} {enc : TypeId × Value → H} {w : World}
theorem Try.cellsStr6 : Try.prog.cellsOf 9 = 1 := by kernel_rfl
theorem open_strs {fuel : Nat} {a : Option Addr} {len cap : Nat} {x : DataW H × List MemPlace} (h : DataW.trod enc Try.prog w 0 (fun _ => true) true fuel 46 [.slice a len cap] = some x) : ∃ f, RowStr w a len cap f := by
  rcases open_strings Try.underlying46 Try.underlying9 Try.cellsStr6 h with ⟨hcs, _⟩ | ⟨ad, l, c, ss, hcs, _, hl, hm, hz, _, hcell, _⟩
  · simp at hcs
    obtain ⟨rfl, rfl, rfl⟩ := hcs
    exact ⟨fun _ => ByteArray.empty, Nat.le_refl _, Nat.zero_le _, fun h => absurd h (by decide)⟩
  · simp at hcs
    obtain ⟨rfl, rfl, rfl⟩ := hcs
    have hss : ss.length = cap := by simpa using hz
    refine ⟨fun i => ss.getD i ByteArray.empty, hl, hm, fun h0 => ?_⟩
    obtain ⟨b, off, spot⟩ := ad
    have hs : spot = none := by
      have h := hcell 0 (by omega)
      simpa [Addr.add] using World.cell?_spot h
    subst hs
    refine ⟨b, off, rfl, fun i hi => ?_⟩
    have h := hcell i (by omega)
    rwa [Addr.add_mid b off i] at h
end

end Go.Proofs.Ytcdfolphbabaoaa
