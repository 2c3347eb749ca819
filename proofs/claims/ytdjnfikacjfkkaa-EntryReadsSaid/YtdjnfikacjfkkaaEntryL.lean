/-
  A part of a struct, an array of bytes, is written whole. No Go text here.
-/
import Derived.Test.YtdjnfikacjfkkaaEntryK
namespace Go.Proofs.Ytdjnfikacjfkkaa
open Go.RowKit CrcM
set_option linter.unusedVariables false
set_option linter.unnecessarySimpa false
set_option linter.unusedSimpArgs false

theorem splice_cons (L : List Value) (o : Nat) (v : Value) (r : List Value) (h : o + (v :: r).length ≤ L.length) : splice (L.set o v) (o + 1) r = splice L o (v :: r) := by
  simp only [List.length_cons] at h
  unfold splice
  have h1 : (L.set o v).take (o + 1) = L.take o ++ [v] := by
    rw [List.take_add_one, List.take_set_of_le (Nat.le_refl o), List.getElem?_set_self (by omega)]
    rfl
  have h2 : (L.set o v).drop (o + 1 + r.length) = L.drop (o + (v :: r).length) := by
    rw [List.drop_set_of_lt (by omega), List.length_cons]
    congr 1; omega
  rw [h1, h2]
  simp

theorem blk_setCells {g : Nat} {t : TypeId} : ∀ (vs : List Value) (o : Nat) (w : World) (L : List Value), Blk w g t L.toArray → o + vs.length ≤ L.length → Blk (w.setCells g o vs) g t (splice L o vs).toArray
  | [], o, w, L, h, _ => by simpa [splice, World.setCells] using h
  | v :: r, o, w, L, h, hf => by
    have h1 := h.set o v
    rw [List.setIfInBounds_toArray] at h1
    have h2 := blk_setCells r (o + 1) _ (L.set o v) h1 (by simp only [List.length_cons, List.length_set] at *; omega)
    rw [splice_cons L o v r hf] at h2
    exact h2

theorem kept_setCells {g : Nat} {w0 : World} : ∀ (vs : List Value) (o : Nat) (w : World), Kept (· = g) w0 w → Kept (· = g) w0 (w.setCells g o vs)
  | [], _, _, h => h
  | v :: r, o, w, h => kept_setCells r (o + 1) _ (h.setCell rfl v)

theorem blk_there {w : World} {g : Nat} {t : TypeId} {L : List Value} (h : Blk w g t L.toArray) (o n : Nat) (hf : o + n ≤ L.length) : w.there g o n := fun j hj => by
  refine ⟨?_, h.frozen _⟩
  rw [h.cell]
  simp [show o + j < L.length by omega]

theorem wpl_store_mid {P : Program} {w : World} {ops : Array Oper} {rest : List Oper} {op : Oper} {a : Act} {Q : Exit → Act → World → Prop} (hgd : op.guard = none) (ty : TypeId) (x y : Operand) (ho : op.op = .store ty x y)
    (g i : Nat) (xs : List Nat) (hx : a.eval x = .pointer (some ⟨g, i, none⟩)) (hy : a.eval y = .agg (bA xs)) (t : TypeId) (L : List Value) (hg : Blk w g t L.toArray) (hf : i + xs.length ≤ L.length) (hi : (P.info? ty).map (·.size) = some (bA xs).size)
    (h : ∀ w', Blk w' g t (splice L i (bvals xs)).toArray → Kept (· = g) w w' → wpList P ops Q rest (a.put op.dst undef) w') : wpList P ops Q (op :: rest) a w := by
  refine wpList_store_mid hgd ty x y ho g i (bA xs) hx hy (blk_there hg i _ (by rw [bA_size]; exact hf)) hi (bA_one _) ?_
  refine h _ ?_ (kept_setCells _ _ _ (Kept.refl _ _))
  exact blk_setCells (bvals xs) i w L hg (by rw [bvals_length]; exact hf)

end Go.Proofs.Ytdjnfikacjfkkaa
