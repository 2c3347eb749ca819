/-
  Small facts for the laws of layer 1: a slice of bytes that came in; the table in a box of the law's own.
-/
import Derived.Test.YtnfiklmlmobchaaCrcC
import Derived.OpenShut
namespace Go.Proofs.Ytnfiklmlmobchaa
open Go.RowKit CrcM
set_option linter.unusedVariables false
set_option linter.unnecessarySimpa false
set_option linter.unusedSimpArgs false

theorem row_nil (w : World) : RowB w none 0 0 [] := ⟨rfl, Nat.le_refl _, Nat.zero_le _, by simp, fun h => absurd h (by decide), fun _ => rfl⟩

theorem row_of_ints {w : World} {x : Addr} {l c : Nat} {zs : List Int} (hl : l ≤ c) (hm : c ≤ maxLen) (hz : zs.length = c)
    (hcell : ∀ i, i < zs.length → w.cell? (x.add i) = some (.int .u8 (zs.getD i 0))) (hwz : ∀ n ∈ zs, (Lit.int .u8 n).wf = true) : ∃ bs, RowB w (some x) l c bs := by
  refine ⟨(zs.take l).map Int.toNat, by simp; omega, hl, hm, fun c hc => ?_, fun h0 => ?_, fun h => by cases h⟩
  · obtain ⟨n, hn, rfl⟩ := List.mem_map.1 hc
    have := bounds_u8 (hwz n (List.mem_of_mem_take hn))
    omega
  · obtain ⟨b, off, rfl, h⟩ := ints_at hcell (by omega)
    refine ⟨b, off, rfl, fun i hi => ?_⟩
    rw [h i (by omega)]
    have hb := range_u8 hwz i
    have e : ((zs.take l).map Int.toNat).getD i 0 = (zs.getD i 0).toNat := by
      simp [List.getD, List.getElem?_take_of_lt hi]
      cases zs[i]? <;> simp
    rw [e]
    have e2 : zs.getD i 0 = zs[i]?.getD 0 := rfl
    rw [e2] at *
    congr 2
    omega

theorem setRow_new (w : World) (C D : Array Value) (t : TypeId) : (w.alloc (Obj.cells C t)).setRow w.heap.size D = w.alloc (Obj.cells D t) := by
  have hm : ∀ (a : Array Obj) (x : Obj) (f : Obj → Obj), (a.push x).modify a.size f = a.push (f x) := by
    intro a x f
    apply Array.ext
    · simp
    · intro i h1 h2
      simp only [Array.getElem_modify, Array.getElem_push]
      by_cases h : a.size = i
      · subst h; simp
      · have hi : i < a.size := by simp at h1; omega
        simp [h, hi]
  unfold World.setRow
  show ({ w.alloc (.cells C t) with heap := (w.heap.push (.cells C t)).modify w.heap.size _ } : World) = _
  rw [hm]
  rfl

theorem bthen {w w1 w2 : World} (h : Below w.heap.size w w1) (k : Below w1.heap.size w1 w2) : Below w.heap.size w w2 := h.trans (k.mono h.size)

end Go.Proofs.Ytnfiklmlmobchaa
