/-
  Layer 9 (queue): a slice of steps as it reads.
-/
import Derived.Test.YtcdfolphbabaoaaBaseS
import Derived.Deep.Slices
import Derived.Deep.Fields
import Derived.ChangeSame
namespace Go.Proofs.Ytcdfolphbabaoaa
open Go.RowKit
set_option linter.unusedVariables false
set_option linter.unnecessarySimpa false
set_option linter.unusedSimpArgs false

/-- A step as it reads. -/
structure OpQ where
  k : Int
  x : Int
  deriving Inhabited
structure OpAtQ (w : World) (b off : Nat) (o : OpQ) : Prop where
  k : w.cell? ⟨b, off, none⟩ = some (.int .i64 o.k)
  x : w.cell? ⟨b, off + 1, none⟩ = some (.int .i64 o.x)
/-- A slice of steps. -/
structure RowOpQ (w : World) (a : Option Addr) (len cap : Nat) (f : Nat → OpQ) : Prop where
  le : len ≤ cap
  max : cap ≤ maxLen
  cells : 0 < len → ∃ b off, a = some ⟨b, off, none⟩ ∧ ∀ i, i < len → OpAtQ w b (off + i * 2) (f i)
theorem OpAtQ.same {w w' : World} {b off : Nat} {o : OpQ} (h : OpAtQ w b off o) (hb : w'.heap[b]? = w.heap[b]?) : OpAtQ w' b off o :=
  ⟨(World.cell?_of_block (w := w) (w' := w') (a := ⟨b, off, none⟩) hb).trans h.k, (World.cell?_of_block (w := w) (w' := w') (a := ⟨b, off + 1, none⟩) hb).trans h.x⟩
theorem RowOpQ.below {w w' : World} {a : Option Addr} {len cap : Nat} {f : Nat → OpQ} (h : RowOpQ w a len cap f) (hb : Below w.heap.size w w') : RowOpQ w' a len cap f := by
  obtain ⟨h1, h2, h3⟩ := h
  refine ⟨h1, h2, fun h0 => ?_⟩
  obtain ⟨b, off, rfl, hc⟩ := h3 h0
  exact ⟨b, off, rfl, fun i hi => (hc i hi).same (hb.block b (block_lt_of_cell (hc i hi).k))⟩
section
open Go.ChangeShapes Go.WideShapes
variable {H : Type} {enc : TypeId × Value → H} {w : World}
theorem Try.cellsOpQ : Try.prog.cellsOf 30 = 2 := by kernel_rfl
theorem open_opsQ {fuel : Nat} {a : Option Addr} {len cap : Nat} {x : DataW H × List MemPlace} (h : DataW.trod enc Try.prog w 0 (fun _ => true) true fuel 22 [.slice a len cap] = some x) : ∃ f, RowOpQ w a len cap f := by
  rcases Go.Deep.open_slice Try.underlying22 h with ⟨hcs, _⟩ | ⟨ad, l, c, m, n, D, Pl, hcs, hb, hl, hm, hmm, hx, hi⟩
  · simp at hcs
    obtain ⟨rfl, rfl, rfl⟩ := hcs
    exact ⟨fun _ => default, Nat.le_refl _, Nat.zero_le _, fun h => absurd h (by decide)⟩
  · simp at hcs
    obtain ⟨rfl, rfl, rfl⟩ := hcs
    have hle : len ≤ m := by rw [hmm]; simpa using hl
    rw [Try.cellsOpQ] at hi
    have hall : ∀ i, i < len → ∃ it : OpQ, w.cell? (ad.add (i * 2)) = some (.int .i64 it.k) ∧ w.cell? ((ad.add (i * 2)).add 1) = some (.int .i64 it.x) := fun i hil => by
      obtain ⟨cs', hc, ht⟩ := hi i (by omega)
      obtain ⟨_, hlen, hcell⟩ := World.cells?_some hc
      obtain ⟨ys, n', _, _, _, hyl, hf⟩ := DataW.trod_struct Try.underlying30 ht
      match cs', hlen with
      | [c0, c1], _ =>
        have k0 := hcell 0 (by decide)
        have k1 := hcell 1 (by decide)
        match ys, hyl with
        | [y0, y1], _ =>
          have g0 : DataW.trod enc Try.prog w 0 (fun _ => true) true n' 3 (List.take (Try.prog.cellsOf 3) [c0, c1]) = some y0 := hf 0 _ rfl
          have g1 : DataW.trod enc Try.prog w 0 (fun _ => true) true n' 3 (List.take (Try.prog.cellsOf 3) [c1]) = some y1 := hf 1 _ rfl
          rw [Try.cellsI] at g0 g1
          simp only [List.getElem?_cons_zero, List.getElem?_cons_succ] at k0 k1
          obtain ⟨z0, e0, _, f0⟩ := DataW.trod_int Try.underlying3 g0
          obtain ⟨z1, e1, _, f1⟩ := DataW.trod_int Try.underlying3 g1
          simp at e0 e1
          subst e0 e1
          exact ⟨⟨z0, z1⟩, by simpa [Addr.add] using k0, k1⟩
    obtain ⟨f, hf⟩ := Go.Deep.choose_lt hall
    refine ⟨f, hl, hm, fun h0 => ?_⟩
    obtain ⟨b, off, spot⟩ := ad
    have hs : spot = none := by
      have h := (hf 0 h0).1
      simpa [Addr.add] using World.cell?_spot h
    subst hs
    refine ⟨b, off, rfl, fun i hil => ?_⟩
    obtain ⟨h1, h2⟩ := hf i hil
    have e : (⟨b, off, none⟩ : Addr).add (i * 2) = ⟨b, off + i * 2, none⟩ := Addr.add_mid b off (i * 2)
    rw [e] at h1 h2
    exact ⟨h1, h2⟩
end

end Go.Proofs.Ytcdfolphbabaoaa
