/-
  Ranges over functions: marks among the deferred calls, a function that leaves with them; what stays as it is; iterators that give ints.
-/
import Derived.Test.YtcdfolphbabaoaaBaseG
import Derived.RangeFuncNested
import Derived.RangeFuncBound
import Derived.RangeFuncCalls
import Derived.RangeFuncLeaves
import Derived.Shelf.Abstract
import Derived.Shelf.RegionOpen
import Derived.OwnWalkIn
import Derived.TacticsInMore
import Derived.LoopNIn
import Derived.LoopIn
namespace Go.Proofs.Ytcdfolphbabaoaa
open Go.RowKit Go.Shelf
set_option linter.unusedVariables false
set_option linter.unnecessarySimpa false
set_option linter.unusedSimpArgs false

theorem bthen' {w w1 w2 : World} (h : Below w.heap.size w w1) (k : Below w1.heap.size w1 w2) : Below w.heap.size w w2 := h.trans (k.mono h.size)
theorem blk_one {w : World} {g : Nat} {t : TypeId} {v : Value} (h : Blk w g t #[v]) : w.cell? ⟨g, 0, none⟩ = some v := h.cell 0
theorem blk_set1 {w : World} {g : Nat} {t : TypeId} {v : Value} (h : Blk w g t #[v]) (u : Value) : Blk (w.setCell ⟨g, 0, none⟩ u) g t #[u] := h.set 0 u
theorem results_cell1 {P : Program} {fn : Func} {p : Tmp} {ty : TypeId} (h : fn.results = #[.cell p ty]) (tmps : Array Value) (w : World) (a : Addr) (v : Value) (hp : tmps.getD p undef = .pointer (some a)) (ha : (isAgg ty).run P w = .ok false w) (hc : w.cell? a = some v) :
    (results fn tmps).run P w = .ok v w := by
  have hp' : tmps[p]?.getD undef = .pointer (some a) := by simpa using hp
  simp [results, h, hp', asAddr, loadVar, ha, hc]
theorem agg_bool (w : World) : (isAgg 4).run Try.prog w = .ok false w := by simp [isAgg, run_underlying Try.underlying4]

/-- Cells are as they were, and all that lay below B. -/
structure Shed (B : Nat) (w w' : World) : Prop where
  bel : Below B w w'
  same : ∀ g t cs, Blk w g t cs → Blk w' g t cs

theorem Shed.refl (B : Nat) (w : World) : Shed B w w := ⟨Below.refl _ _, fun _ _ _ h => h⟩
theorem Shed.trans {B : Nat} {a b c : World} (h : Shed B a b) (k : Shed B b c) : Shed B a c := ⟨h.bel.trans k.bel, fun g t cs hb => k.same g t cs (h.same g t cs hb)⟩
theorem Shed.putObj {B D : Nat} {w : World} {o : Obj} (o' : Obj) (h : w.heap[D]? = some o) (hc : o.isCells = false) (hB : B ≤ D) : Shed B w (w.putObj D o') :=
  ⟨(Below.refl B w).grown (grownBy_putObj' w D o') (by have := (Array.getElem?_eq_some_iff.1 h).1; omega) (fun k e => by cases e; exact hB), fun g t cs hb => by
    have hne : g ≠ D := by rintro rfl; unfold Blk at hb; rw [hb] at h; cases h; cases hc
    exact ((grownBy_putObj' w D o').block g hb.lt (by simpa using hne)).trans hb⟩

/-- Marks of ranges over functions that no deferred call was handed to; their blocks lie at B or beyond. -/
def Marks (B : Nat) (ds : List Deferred) (w : World) : Prop :=
  ∃ Ds : List Nat, ds = Ds.map (fun D => ({ target := .collected D, args := #[] } : Deferred)) ∧ Ds.Nodup ∧ ∀ D ∈ Ds, B ≤ D ∧ w.heap[D]? = some (.deferred (some []))

theorem Marks.nil (B : Nat) (w : World) : Marks B [] w := ⟨[], rfl, List.nodup_nil, by simp⟩
theorem Marks.mono {B : Nat} {ds : List Deferred} {w w' : World} (h : Marks B ds w) (hk : KeepsOthers w w') : Marks B ds w' := by
  obtain ⟨Ds, h1, h2, h3⟩ := h
  exact ⟨Ds, h1, h2, fun D hD => ⟨(h3 D hD).1, hk.same D _ (h3 D hD).2 rfl⟩⟩
/-- A range more: its block is a new one. -/
theorem Marks.cons {B : Nat} {ds : List Deferred} {w w' : World} {D : Nat} (h : Marks B ds w) (hB : B ≤ w.heap.size) (hD : w.heap.size ≤ D) (hd : w'.heap[D]? = some (.deferred (some []))) (hk : Marks B ds w') : Marks B ({ target := .collected D, args := #[] } :: ds) w' := by
  obtain ⟨Ds, h1, h2, h3⟩ := h
  subst h1
  refine ⟨D :: Ds, rfl, List.nodup_cons.2 ⟨fun hm => ?_, h2⟩, fun E hE => ?_⟩
  · have := (Array.getElem?_eq_some_iff.1 (h3 D hm).2).1; omega
  · rcases List.mem_cons.1 hE with rfl | hE
    · exact ⟨by omega, hd⟩
    · obtain ⟨Es, k1, _, k3⟩ := hk
      have : E ∈ Es := by
        have hm : ({ target := .collected E, args := #[] } : Deferred) ∈ Ds.map (fun D => ({ target := .collected D, args := #[] } : Deferred)) := List.mem_map.2 ⟨E, hE, rfl⟩
        rw [k1] at hm
        obtain ⟨F, hF, he⟩ := List.mem_map.1 hm
        cases he; exact hF
      exact k3 E this

theorem keepsOthers_below {w w' : World} (h : Below w.heap.size w w') : KeepsOthers w w' := ⟨h.size, fun k o hk _ => (h.block k (Array.getElem?_eq_some_iff.1 hk).1).trans hk⟩
theorem keepsOthers_kept {S : Nat → Prop} {w w' : World} (h : Kept S w w') (hs : ∀ k o, S k → w.heap[k]? = some o → o.isCells = true) : KeepsOthers w w' := ⟨h.size, fun k o hk ho => by
  refine (h.block k (Array.getElem?_eq_some_iff.1 hk).1 (fun hS => ?_)).trans hk
  rw [hs k o hS hk] at ho; cases ho⟩

/-- A function that leaves with marks. -/
theorem leave_marks {P : Program} {n : Nat} {fn : Func} {tmps : Array Value} {R : Ending → World → Prop} {B : Nat} : ∀ {ds : List Deferred} {w : World}, Marks B ds w →
    (∀ w', Shed B w w' → ∃ v, (results fn tmps).run P w' = .ok v w' ∧ R (.returned v) w') → LeavesInM Fence.wide n P fn tmps R ds .returning w := by
  intro ds w ⟨Ds, h1, h2, h3⟩
  subst h1
  induction Ds generalizing w with
  | nil => intro h; exact h w (Shed.refl _ _)
  | cons D Ds ih =>
    intro h
    obtain ⟨hB, hd⟩ := h3 D (by simp)
    obtain ⟨hn, h2'⟩ := List.nodup_cons.1 h2
    have hs : Shed B w (w.putObj D (.deferred none)) := Shed.putObj _ hd rfl hB
    refine ⟨by simp, .inl ⟨D, _, rfl, run_takeDeferred hd, ih h2' (fun E hE => ?_) (fun w' hw' => h w' (hs.trans hw'))⟩⟩
    have hne : E ≠ D := fun e => hn (e ▸ hE)
    exact ⟨(h3 E (by simp [hE])).1, (World.putObj_heap_other hne).trans (h3 E (by simp [hE])).2⟩

/-- A function's contract from its body, where ranges over functions stand in it. -/
theorem calls_marks {P : Program} {f : FuncId} {fn : Func} {c : Code} {args : Array Value} {w : World} {R : Ending → World → Prop} (hf : P.funcs[f]? = some fn) (hb : fn.body = some c)
    (h : c.wp P (bodyPostM Fence.wide 8 P fn R) { tmps := args ++ Array.replicate (fn.ntmps - args.size) undef, defers := [] } w) : Calls P f args w R :=
  callsIn_wide.1 (callsIn_of_wp_marks hf hb trivial (wpIn_wide.2 h))

theorem blk_own {β : Type} (g : Nat) (t : TypeId) (f : β → Array Value) : Own (fun s W => Blk W g t (f s)) := fun s X Y row hs hg hrow => by
  refine (hg.block g hs.lt (fun e => ?_)).trans hs
  obtain ⟨o, ho, hc⟩ := hrow g e.symm
  unfold Blk at hs; rw [hs] at ho; cases ho; cases hc
theorem ownFrom_pure' {β : Type} {B : Nat} (p : β → Prop) : OwnFrom B (fun s (_ : World) => p s) := fun _ _ _ _ hs _ _ => hs
theorem ownFrom_marks {β : Type} {B B' : Nat} {ds : List Deferred} {w : World} (hw : Marks B' ds w) (hB : w.heap.size ≤ B) : OwnFrom (β := β) B (fun _ W => Marks B' ds W ∧ w.heap.size ≤ W.heap.size) := by
  rintro s X Y row ⟨⟨Ds, h1, h2, h3⟩, hX⟩ hg hr
  obtain ⟨Es, k1, _, k3⟩ := hw
  refine ⟨⟨Ds, h1, h2, fun D hD => ⟨(h3 D hD).1, (hg.block D (Array.getElem?_eq_some_iff.1 (h3 D hD).2).1 (fun e => ?_)).trans (h3 D hD).2⟩⟩, Nat.le_trans hX hg.size⟩
  have hD' : D ∈ Es := by
    have hm : ({ target := .collected D, args := #[] } : Deferred) ∈ Ds.map (fun D => ({ target := .collected D, args := #[] } : Deferred)) := List.mem_map.2 ⟨D, hD, rfl⟩
    rw [← h1, k1] at hm
    obtain ⟨F, hF, he⟩ := List.mem_map.1 hm
    cases he; exact hF
  have := (Array.getElem?_eq_some_iff.1 (k3 D hD').2).1
  have := (hr D e.symm).1
  omega

/-- A row of cells stays where blocks that are no cells are turned. -/
theorem ownFrom_row {β : Type} {B lo : Nat} {E : TypeId} (v : β → Value) (n : β → Nat) (xs : β → List Value) : OwnFrom B (fun s W => World.ownsRow W lo E 1 (v s) (n s) (xs s)) := fun s X Y row hs hg hrow => by
  obtain ⟨h1, h2⟩ := hs
  refine ⟨h1, ?_⟩
  rcases h2 with h2 | ⟨g, cap, cur, hv, hl, hh, r⟩
  · exact .inl h2
  · refine .inr ⟨g, cap, cur, hv, hl, ?_, r⟩
    refine (hg.block g (Array.getElem?_eq_some_iff.1 hh).1 (fun e => ?_)).trans hh
    obtain ⟨o, ho, hc⟩ := (hrow g e.symm).2
    rw [hh] at ho; cases ho; cases hc
/-- An iterator that gives these ints, as far as it is asked. -/
def Gives (n : Nat) (P : Program) (gf : Nat) (lb : Array Value) (zs : List Int) (w : World) : Prop :=
  SeqStopsK Fence.wide n P gf lb (fun x : Int => #[Value.int .i64 x]) (fun _ _ => True) (fun ys => ys = zs) (fun pre => pre <+: zs) zs.length w

/-- A range over such an iterator. -/
theorem wp_range {P : Program} {g : Operand} {ps : Array Tmp} {assign body : Code} {Q : Exit → Act → World → Prop} {a : Act} {w : World} {gf : Nat} {lb : Array Value} {zs : List Int}
    (hg : a.eval g = .func (.func gf) #[] lb) (eg : ∀ args w, (callFunc gf args).run P w = .ok (.enter gf args) w) {w0 : World} (hseq : Gives 7 P gf lb zs w0) (hb0 : Below w0.heap.size w0 w) (hps : ps.size = 1)
    (I : List Int → World → Prop) (Ix : Code → List Int → World → Prop) (hI : OwnFrom w.heap.size I) (hIx : ∀ c, OwnFrom w.heap.size (Ix c)) (h0 : I [] w) (a₁ : Int → Act)
    (hassign : ∀ (l : Nat) (x : Int) (W : World) (K : Act → World → Prop), K (a₁ x) W →
      assign.wpIn (Fence.wide.inRound l) 6 P (Exit.then K (fun _ _ _ => False)) { tmps := (ps.zip #[Value.int .i64 x]).foldl (fun t (p, v) => t.setIfInBounds p v) a.tmps, defers := [] } W)
    (hbody : ∀ (l : Nat) (pre : List Int) (x : Int) (W : World), I pre W → pre.length < zs.length → body.wpIn (Fence.wide.inRound l) 6 P (ownPostK (fun _ _ => True) I Ix (pre ++ [x]) W) (a₁ x) W)
    (hdone : ∀ (D : Nat) (W : World), w.heap.size ≤ D → I zs W → W.heap[D]? = some (.deferred (some [])) → Q .normal { a with defers := { target := .collected D, args := #[] } :: a.defers } W)
    (hstop : ∀ (D : Nat) (c : Code) (pre : List Int) (W : World), w.heap.size ≤ D → pre <+: zs → Ix c pre W → W.heap[D]? = some (.deferred (some [])) → c.wp P Q { a with defers := { target := .collected D, args := #[] } :: a.defers } W) :
    (Code.rangeFunc g ps assign body).wp P Q a w :=
  wpIn_wide.1 (wpIn_rangeFunc_ownF (n := 8) rfl (by decide) hg trivial eg hseq (fun _ _ => trivial) (fun _ _ _ _ _ _ _ _ => trivial) hb0 (fun _ => hps.symm) I Ix hI hIx h0 a₁ hassign hbody
    (fun D xs W hD hS => by subst hS; exact hdone D W hD) (fun D c pre W hD hp hi hk => wpIn_wide.2 (hstop D c pre W hD hp hi hk)))

/-- A range over an iterator of any elements, that names what the body keeps. -/
theorem wp_rangeK {α : Type} {P : Program} {g : Operand} {ps : Array Tmp} {assign body : Code} {Q : Exit → Act → World → Prop} {a : Act} {w : World} {gf : Nat} {lb : Array Value} {encs : α → Array Value} {Kp : World → World → Prop} {S Sp : List α → Prop} {N : Nat}
    (hg : a.eval g = .func (.func gf) #[] lb) (eg : ∀ args w, (callFunc gf args).run P w = .ok (.enter gf args) w) {w0 : World} (hseq : SeqStopsK Fence.wide 7 P gf lb encs Kp S Sp N w0)
    (hKt : ∀ {A B C : World}, Kp A B → Kp B C → Kp A C) (hKb : ∀ (W : World) (l : Nat) (o o' : Obj), w.heap.size ≤ l → W.heap[l]? = some o → o.isCells = false → o.isWalk = false → Kp W (W.putObj l o')) (hb0 : Below w0.heap.size w0 w) (hps : ∀ x, (encs x).size = ps.size)
    (I : List α → World → Prop) (Ix : Code → List α → World → Prop) (hI : OwnFrom w.heap.size I) (hIx : ∀ c, OwnFrom w.heap.size (Ix c)) (h0 : I [] w) (a₁ : α → Act)
    (hassign : ∀ (l : Nat) (x : α) (W : World) (K : Act → World → Prop), K (a₁ x) W →
      assign.wpIn (Fence.wide.inRound l) 6 P (Exit.then K (fun _ _ _ => False)) { tmps := (ps.zip (encs x)).foldl (fun t (p, v) => t.setIfInBounds p v) a.tmps, defers := [] } W)
    (hbody : ∀ (l : Nat) (pre : List α) (x : α) (W : World), I pre W → pre.length < N → body.wpIn (Fence.wide.inRound l) 6 P (ownPostK Kp I Ix (pre ++ [x]) W) (a₁ x) W)
    (hdone : ∀ (D : Nat) (ys : List α) (W : World), w.heap.size ≤ D → S ys → I ys W → W.heap[D]? = some (.deferred (some [])) → Q .normal { a with defers := { target := .collected D, args := #[] } :: a.defers } W)
    (hstop : ∀ (D : Nat) (c : Code) (pre : List α) (W : World), w.heap.size ≤ D → Sp pre → Ix c pre W → W.heap[D]? = some (.deferred (some [])) → c.wp P Q { a with defers := { target := .collected D, args := #[] } :: a.defers } W) :
    (Code.rangeFunc g ps assign body).wp P Q a w :=
  wpIn_wide.1 (wpIn_rangeFunc_ownF (n := 8) rfl (by decide) hg trivial eg hseq (fun h k => hKt h k) hKb hb0 hps I Ix hI hIx h0 a₁ hassign hbody hdone
    (fun D c pre W hD hp hi hk => wpIn_wide.2 (hstop D c pre W hD hp hi hk)))

end Go.Proofs.Ytcdfolphbabaoaa
