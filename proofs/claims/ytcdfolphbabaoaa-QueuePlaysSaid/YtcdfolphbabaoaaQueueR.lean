/-
  A slice of ints as it reads, from any place on; its block is known whole.
-/
import Derived.Test.YtcdfolphbabaoaaQueueG
namespace Go.Proofs.Ytcdfolphbabaoaa
open Go.RowKit Go.Shelf
set_option linter.unusedVariables false
set_option linter.unnecessarySimpa false
set_option linter.unusedSimpArgs false

structure RowI (w : World) (a : Option Addr) (cap : Nat) (zs : List Int) : Prop where
  le : zs.length ≤ cap
  max : cap ≤ maxLen
  nil : a = none → cap = 0
  lt : ∀ ad, a = some ad → ad.block < w.heap.size
  at_ : 0 < zs.length → ∃ g off cs, a = some ⟨g, off, none⟩ ∧ Blk w g 3 cs ∧ ∀ i, i < zs.length → cs[off + i]? = some (.int .i64 (zs.getD i 0))
section
variable {w w' : World} {a : Option Addr} {cap : Nat} {zs : List Int}
theorem RowI.far (h : RowI w a cap zs) (hs : w.heap.size ≤ w'.heap.size) (k : ∀ g cs, (∃ ad, a = some ad ∧ ad.block = g) → Blk w g 3 cs → Blk w' g 3 cs) : RowI w' a cap zs :=
  ⟨h.le, h.max, h.nil, fun ad e => Nat.lt_of_lt_of_le (h.lt ad e) hs, fun h0 => by
    obtain ⟨g, off, cs, rfl, hb, hc⟩ := h.at_ h0
    exact ⟨g, off, cs, rfl, k g cs ⟨_, rfl, rfl⟩ hb, hc⟩⟩
theorem RowI.below (h : RowI w a cap zs) (hb : Below w.heap.size w w') : RowI w' a cap zs := h.far hb.size (fun g cs _ hg => hg.below hb hg.lt)
theorem RowI.q {T E : TypeId} {β : Type} {enc : β → Value} {lo A C room : Nat} {qs : List (Nat × β)} (h : RowI w a cap zs) (hq : QAt T E enc lo w A C room qs) (k : Kept (· = C) w w') : RowI w' a cap zs := h.far k.size (fun g cs _ hg => hq.far k hg)
theorem RowI.set (h : RowI w a cap zs) {p : Addr} (hp : ∀ ad, a = some ad → ad.block ≠ p.block) (u : Value) : RowI (w.setCell p u) a cap zs := h.far (by simp [World.setCell]) (fun g cs ⟨ad, e, eg⟩ hg => hg.far (by rw [← eg]; exact hp ad e) u)
theorem RowI.cell (h : RowI w a cap zs) (i : Nat) (hi : i < zs.length) : ∃ g off, a = some ⟨g, off, none⟩ ∧ w.cell? ⟨g, off + i, none⟩ = some (.int .i64 (zs.getD i 0)) := by
  obtain ⟨g, off, cs, rfl, hb, hc⟩ := h.at_ (by omega)
  exact ⟨g, off, rfl, (hb.cell (off + i)).trans (hc i hi)⟩
theorem RowI.src (h : RowI w a cap zs) : (a = none → cap = 0 ∧ zs.length = 0) ∧ ∀ ad, a = some ad → ∀ j u, (zvals zs)[j]? = some u → w.cell? (ad.add j) = some u := by
  refine ⟨fun e => ⟨h.nil e, by have := h.nil e; have := h.le; omega⟩, fun ad e j u hu => ?_⟩
  have hj : j < zs.length := by
    by_cases hj : j < (zvals zs).length
    · rwa [zvals_length] at hj
    · rw [List.getElem?_eq_none (by omega)] at hu; cases hu
  obtain ⟨g, off, e2, hc⟩ := h.cell j hj
  rw [e] at e2
  cases e2
  rw [Addr.add_mid, hc, ← hu, zvals_at zs j hj]
theorem RowI.nilr (w : World) : RowI w none 0 [] := ⟨Nat.le_refl _, Nat.zero_le _, fun _ => rfl, (fun ad h => by cases h), fun h => absurd h (by decide)⟩
/-- A row of a call's own reads so. -/
theorem RowI.own {lo n : Nat} (h : w.ownsRow lo 3 1 (.slice a n cap) n (zvals zs)) (hn : zs.length = n) : RowI w a cap zs := by
  subst hn
  obtain ⟨_, h1, h2⟩ := own_cap h
  refine ⟨h1, h2, (fun e => by subst e; exact ((own_src h).1 rfl).1), fun ad e => by subst e; exact own_lt h (by simp [Value.ownBlock]), fun h0 => ?_⟩
  rcases h.2 with ⟨e, e2⟩ | ⟨g, c, cur, e, _, hh, _, _, _, h6⟩
  · omega
  · obtain ⟨rfl, rfl⟩ : a = some ⟨g, 0, none⟩ ∧ cap = c := by simpa using e
    refine ⟨g, 0, cur, rfl, hh, fun i hi => ?_⟩
    obtain ⟨g', e', _, _, hc, _⟩ := own_at h i hi
    obtain rfl : g = g' := by simpa using e'
    have hb : Blk w g 3 cur := hh
    rw [Nat.zero_add, ← hb.cell i, hc, zvals_at zs i hi]
theorem ownFrom_rowI {β : Type} {B : Nat} : OwnFrom (β := β) B (fun _ W => RowI W a cap zs) := fun s X Y row h hg hr => h.far hg.size (fun g cs _ hb => (blk_own (β := β) g 3 (fun _ => cs)).from B s X Y row hb hg hr)
/-- l[1:]. -/
theorem RowI.tail {x : Int} {l : List Int} (h : RowI w a cap (x :: l)) : RowI w (if cap = 1 then a else a.map (·.add 1)) (cap - 1) l := by
  have hle := h.le
  rw [List.length_cons] at hle
  obtain ⟨g, off, cs, rfl, hb, hc⟩ := h.at_ (by simp)
  refine ⟨by omega, by have := h.max; omega, (fun e => by split at e <;> cases e), (fun ad e => ?_), fun h0 => ?_⟩
  · have hl := h.lt _ rfl
    split at e
    · cases e; exact hl
    · cases e; show ((⟨g, off, none⟩ : Addr).add 1).block < w.heap.size; rw [Addr.add_mid]; exact hl
  · refine ⟨g, off + 1, cs, by rw [if_neg (by omega)]; simp [Addr.add_mid], hb, fun i hi => ?_⟩
    have := hc (i + 1) (by simp; omega)
    rw [show off + (i + 1) = off + 1 + i by omega] at this
    rw [this]
    simp [List.getD]
end
section
variable {P : Program} {o : Oper} {a : Act} {w : World} {S E : TypeId} {z : Value}
theorem exec_sliceF1 (T : ElT P S E z) (x lo : Operand) (ho : o.op = .slice S x (some lo) none none) (ad : Option Addr) (len cap : Nat) (hx : a.eval x = .slice ad len cap) (hl : a.eval lo = .int .i64 1) (h : 1 ≤ len) (h2 : len ≤ cap) :
    (execOp a.eval o).run P w = .ok (.value (.slice (if cap = 1 then ad else ad.map (·.add 1)) (len - 1) (cap - 1))) w := by
  obtain ⟨i0, b0, hi, hz0, hz1, hz2, hz3⟩ := T.info
  have hb : (0 : Int) ≤ 1 ∧ (1 : Int) ≤ len := by omega
  have hr : (Instr.slice S (.slice ad len cap) (some (.int .i64 1)) none none).run P w = .ok (.slice (if cap = 1 then ad else ad.map (·.add 1)) (len - 1) (cap - 1)) w := by
    simp [Instr.slice, Instr.sliceBounds, Instr.sliceBound, run_underlying T.und, asIntOf, sizeOf, typeInfo, hi, hz1, hb]
  have hs : (Instr.sliceAt S (.slice ad len cap) (some (.int .i64 1)) none none).run P w = .ok (.slice (if cap = 1 then ad else ad.map (·.add 1)) (len - 1) (cap - 1)) w := by
    unfold Instr.sliceAt
    rw [Sem.run_bind, run_underlying T.und]
    exact hr
  unfold execOp
  simp only [ho, hx, hl, Option.map_some, Option.map_none, Sem.run_bind, hs, Result.andThen_ok, Sem.run_pure]
theorem exec_index0 (T : ElT P S E z) (x ix : Operand) (ho : o.op = .indexAddr S x ix) (g off n c : Nat) (hx : a.eval x = .slice (some ⟨g, off, none⟩) n c) (hix : a.eval ix = .int .i64 0) (hi : 0 < n) : (execOp a.eval o).run P w = .ok (.value (.pointer (some ⟨g, off, none⟩))) w := by
  obtain ⟨i0, b0, hi0, hz0, hz1, hz2, hz3⟩ := T.info
  have hb : (0 : Int) ≤ 0 ∧ (0 : Int) < (n : Nat) := by omega
  have hadd : (⟨g, off, none⟩ : Addr).add 0 = ⟨g, off, none⟩ := by have := Addr.add_mid g off 0; rwa [Nat.add_zero] at this
  unfold execOp
  simp only [ho, hx, hix]
  simp [Instr.indexAt, asIntOf, run_underlying T.und, sizeOf, typeInfo, hi0, hb, hz1, hadd, hi]
end

end Go.Proofs.Ytcdfolphbabaoaa
