/-
  Layer 9 (queue): a queue as it lies: its block, its channel, a box for each thing.
-/
import Derived.Test.YtcdfolphbabaoaaZoneA
import Derived.Test.YtcdfolphbabaoaaBaseR
import Derived.Conc.LoneSelect
import Derived.Conc.LoneSelectN
namespace Go.Proofs.Ytcdfolphbabaoaa
open Go.RowKit Go.Conc
set_option linter.unusedVariables false
set_option linter.unnecessarySimpa false
set_option linter.unusedSimpArgs false

/-- The pointers that a queue's channel has. -/
def ptrs {β : Type} (qs : List (Nat × β)) : List Value := qs.map fun x => Value.pointer (some ⟨x.1, 0, none⟩)
section
variable {β : Type} (qs : List (Nat × β))
theorem ptrs_length : (ptrs qs).length = qs.length := by simp [ptrs]
theorem ptrs_one : ∀ u ∈ ptrs qs, u.oneCell' = true := by
  intro u hu; obtain ⟨c, _, rfl⟩ := List.mem_map.1 hu; rfl
theorem ptrs_append (a b : List (Nat × β)) : ptrs (a ++ b) = ptrs a ++ ptrs b := by simp [ptrs]
theorem ptrs_at (i : Nat) (h : i < qs.length) : (ptrs qs)[i]? = some (.pointer (some ⟨(qs[i]).1, 0, none⟩)) := by simp [ptrs, h]
theorem ptrs_cons (x : Nat × β) : ptrs (x :: qs) = .pointer (some ⟨x.1, 0, none⟩) :: ptrs qs := rfl
end

/-- A queue lies at block A, its channel at block C; all beyond lo. -/
structure QAt (T E : TypeId) {β : Type} (enc : β → Value) (lo : Nat) (w : World) (A C room : Nat) (qs : List (Nat × β)) : Prop where
  blk : Blk w A T #[.chan (some C)]
  ch : ∃ s r, w.heap[C]? = some (.chan room (ptrs qs).toArray false s r false)
  box : ∀ x ∈ qs, lo ≤ x.1 ∧ Blk w x.1 E #[enc x.2]
  leA : lo ≤ A
  leC : lo ≤ C
  len : qs.length ≤ room
  room : room ≤ 4096

theorem kept_setChan (w : World) (C cap : Nat) (buf : Array Value) (cl : Bool) (s r : Nat) (tm : Bool) : Kept (· = C) w (w.setChan C cap buf cl s r tm) :=
  ⟨rfl, rfl, rfl, by simp [World.setChan], fun k hk hn => by simp only [World.setChan]; rw [Array.getElem?_setIfInBounds_ne (fun e => hn e.symm)]⟩

section
variable {T E : TypeId} {β : Type} {enc : β → Value} {lo A C room : Nat} {w w' : World} {qs qs' : List (Nat × β)} {S : Nat → Prop}
theorem QAt.ltA (h : QAt T E enc lo w A C room qs) : A < w.heap.size := h.blk.lt
theorem QAt.ltC (h : QAt T E enc lo w A C room qs) : C < w.heap.size := by
  obtain ⟨s, r, hc⟩ := h.ch
  exact (Array.getElem?_eq_some_iff.1 hc).1
theorem QAt.ltB (h : QAt T E enc lo w A C room qs) : ∀ x ∈ qs, x.1 < w.heap.size := fun x hx => (h.box x hx).2.lt
theorem QAt.neC (h : QAt T E enc lo w A C room qs) {g : Nat} {t : TypeId} {cs : Array Value} (hg : Blk w g t cs) : g ≠ C := by
  rintro rfl
  obtain ⟨s, r, hc⟩ := h.ch
  unfold Blk at hg
  rw [hg] at hc
  cases hc
/-- A block of cells stays, whatever the queue does. -/
theorem QAt.far (h : QAt T E enc lo w A C room qs) (k : Kept (· = C) w w') {g : Nat} {t : TypeId} {cs : Array Value} (hg : Blk w g t cs) : Blk w' g t cs := hg.kept k (h.neC hg)
theorem QAt.own (h : QAt T E enc lo w A C room qs) (k : Kept (· = C) w w') {l0 : Nat} {e : TypeId} {v : Value} {n : Nat} {xs : List Value} (ho : w.ownsRow l0 e 1 v n xs) : w'.ownsRow l0 e 1 v n xs := by
  refine own_kept ho k (fun g hg hS => ?_)
  rcases ho.2 with ⟨rfl, _⟩ | ⟨g', c, cur, rfl, _, hh, _⟩
  · simp [Value.ownBlock] at hg
  · obtain rfl : g' = g := by simpa [Value.ownBlock] using hg
    exact h.neC (t := e) (cs := cur) hh hS
theorem QAt.kept (h : QAt T E enc lo w A C room qs) (k : Kept S w w') (hA : ¬ S A) (hC : ¬ S C) (hB : ∀ x ∈ qs, ¬ S x.1) : QAt T E enc lo w' A C room qs := by
  obtain ⟨s, r, hc⟩ := h.ch
  exact ⟨h.blk.kept k hA, ⟨s, r, (k.block C h.ltC hC).trans hc⟩, fun x hx => ⟨(h.box x hx).1, (h.box x hx).2.kept k (hB x hx)⟩, h.leA, h.leC, h.len, h.room⟩
theorem QAt.below (h : QAt T E enc lo w A C room qs) (hb : Below w.heap.size w w') : QAt T E enc lo w' A C room qs := h.kept (Kept.of_below (S := fun _ => False) hb) (fun h => h) (fun h => h) (fun _ _ h => h)
/-- The channel is turned: the queue has other things. -/
theorem QAt.turn (h : QAt T E enc lo w A C room qs) {s r : Nat} (hb : ∀ x ∈ qs', lo ≤ x.1 ∧ Blk w x.1 E #[enc x.2]) (hl : qs'.length ≤ room) : QAt T E enc lo (w.setChan C room (ptrs qs').toArray false s r false) A C room qs' := by
  have k := kept_setChan w C room (ptrs qs').toArray false s r false
  exact ⟨h.far k h.blk, ⟨s, r, heap_setChan _ _ _ _ _ _ _ _ h.ltC⟩, fun x hx => ⟨(hb x hx).1, h.far k (hb x hx).2⟩, h.leA, h.leC, hl, h.room⟩
/-- What a step of a queue leaves of all else. -/
theorem kept_bel {B : Nat} (hb : Below B w w') (h1 : B ≤ w.heap.size) {w2 : World} (k : Kept (· = C) w' w2) (hC : B ≤ C) : Below B w w2 := bkept hb h1 k (fun i hi e => by omega)
theorem kept_then {w2 : World} (h : Kept (· = C) w w') (k : Kept (· = C) w' w2) : Kept (· = C) w w2 := h.trans k
theorem kept_b {w2 : World} (h : Kept (· = C) w w') (k : Below w'.heap.size w' w2) : Kept (· = C) w w2 := kept_next h k
theorem kept_a {w2 : World} (h : Below w.heap.size w w') (k : Kept (· = C) w' w2) : Kept (· = C) w w2 := (Kept.of_below (S := (· = C)) h).andThen k (fun _ _ h => h) (fun _ _ h => h)
end

end Go.Proofs.Ytcdfolphbabaoaa
