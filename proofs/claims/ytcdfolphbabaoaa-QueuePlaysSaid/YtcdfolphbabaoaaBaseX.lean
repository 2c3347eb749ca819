/-
  A range over an iterator that, ahead of its first round, turns what the caller keeps (Tn). No Go text here.
-/
import Derived.Test.YtcdfolphbabaoaaBaseR
namespace Go.Proofs.Ytcdfolphbabaoaa
open Go.RowKit Go.Shelf
set_option linter.unusedVariables false
set_option linter.unusedSimpArgs false

/-- The iterator's contract: what the caller keeps must abide Tn. -/
def SeqT {α : Type} (F : Fence) (n : Nat) (P : Program) (g : Nat) (lb : Array Value) (encs : α → Array Value) (Kp Tn : World → World → Prop) (S Sp : List α → Prop) (N : Nat) (w : World) : Prop :=
  ∀ (l : Nat) (J Jx : List α → World → Prop) (W : World), Below w.heap.size w W → AbidesFrom W.heap.size J → AbidesFrom W.heap.size Jx → (∀ s A B, J s A → Tn A B → J s B) →
    (∀ pre x W1, J pre W1 → pre.length < N → YieldAt F (n - 1) P l (encs x) W1 fun e W' => (e = .returned (.bool true) ∧ J (pre ++ [x]) W' ∧ Kp W1 W') ∨ (e = .returned (.bool false) ∧ Jx (pre ++ [x]) W')) →
    J [] W → CallsIn F n P g (#[.func (.yield l) #[] #[]] ++ lb) W fun e W' => (∃ v, e = .returned v) ∧ ((∃ xs, S xs ∧ J xs W') ∨ (∃ pre, Sp pre ∧ Jx pre W'))

/-- A range's record at block L, its deferred calls at block D. -/
structure LAt (L D : Nat) (o : Loop) (W : World) : Prop where
  l : W.heap[L]? = some (.loop o)
  d : W.heap[D]? = some (.deferred (some []))
section
variable {L D : Nat} {o o' : Loop} {W W' : World}
theorem LAt.turn (h : LAt L D o W) (hne : D ≠ L) (o' : Loop) : LAt L D o' (W.putObj L (.loop o')) :=
  ⟨World.putObj_heap_same (Array.getElem?_eq_some_iff.1 h.l).1, (World.putObj_heap_other hne).trans h.d⟩
theorem LAt.others (h : LAt L D o W) (k : KeepsOthers W W') : LAt L D o W' := ⟨k.same _ _ h.l rfl, k.same _ _ h.d rfl⟩
theorem LAt.grown (h : LAt L D o W) {row : Option Nat} (hg : W.grownBy W' row) (hr : ∀ r, row = some r → ∃ x : Obj, W.heap[r]? = some x ∧ x.isWalk = true) : LAt L D o W' :=
  ⟨(grownBy_keeps hg hr h.l rfl).trans h.l, (grownBy_keeps hg hr h.d rfl).trans h.d⟩
end

theorem wp_rangeT {α : Type} {P : Program} {g : Operand} {ps : Array Tmp} {assign body : Code} {Q : Exit → Act → World → Prop} {a : Act} {w : World} {gf : Nat} {lb : Array Value} {encs : α → Array Value} {Kp Tn : World → World → Prop} {S Sp : List α → Prop} {N : Nat}
    (hg : a.eval g = .func (.func gf) #[] lb) (eg : ∀ args w, (callFunc gf args).run P w = .ok (.enter gf args) w) {w0 : World} (hseq : SeqT Fence.wide 7 P gf lb encs Kp Tn S Sp N w0)
    (hKt : ∀ {A B C : World}, Kp A B → Kp B C → Kp A C) (hKb : ∀ (W : World) (l : Nat) (o o' : Obj), w.heap.size ≤ l → W.heap[l]? = some o → o.isCells = false → o.isWalk = false → Kp W (W.putObj l o')) (hb0 : Below w0.heap.size w0 w) (hps : ∀ x, (encs x).size = ps.size)
    (I : List α → World → Prop) (Ix : Code → List α → World → Prop) (hI : OwnFrom w.heap.size I) (hIx : ∀ c, OwnFrom w.heap.size (Ix c)) (h0 : I [] w)
    (hTn : ∀ s A B, I s A → Tn A B → I s B) (hTo : ∀ A B (k : Nat) (o : Obj), Tn A B → w.heap.size ≤ k → A.heap[k]? = some o → B.heap[k]? = some o) (a₁ : α → Act)
    (hassign : ∀ (l : Nat) (x : α) (W : World) (K : Act → World → Prop), K (a₁ x) W →
      assign.wpIn (Fence.wide.inRound l) 6 P (Exit.then K (fun _ _ _ => False)) { tmps := (ps.zip (encs x)).foldl (fun t (p, v) => t.setIfInBounds p v) a.tmps, defers := [] } W)
    (hbody : ∀ (l : Nat) (pre : List α) (x : α) (W : World), I pre W → pre.length < N → body.wpIn (Fence.wide.inRound l) 6 P (ownPostK Kp I Ix (pre ++ [x]) W) (a₁ x) W)
    (hdone : ∀ (D : Nat) (ys : List α) (W : World), w.heap.size ≤ D → S ys → I ys W → W.heap[D]? = some (.deferred (some [])) → Q .normal { a with defers := { target := .collected D, args := #[] } :: a.defers } W)
    (hstop : ∀ (D : Nat) (c : Code) (pre : List α) (W : World), w.heap.size ≤ D → Sp pre → Ix c pre W → W.heap[D]? = some (.deferred (some [])) → c.wp P Q { a with defers := { target := .collected D, args := #[] } :: a.defers } W) :
    (Code.rangeFunc g ps assign body).wp P Q a w := by
  refine wpIn_wide.1 (wpIn_rangeFunc (F := Fence.wide) (n := 8) ?_)
  intro fn hfn
  -- the record, and the world that the iterator is called in
  obtain ⟨rc, hrc⟩ : ∃ rc : LoopState → Option Code → Loop, rc = fun st pe => { state := st, pending := pe, fn := fn, tmps := a.tmps, params := ps, assign := assign, body := body, defers := w.heap.size } := ⟨_, rfl⟩
  have hb1 := (below_alloc w (.deferred (some []))).trans ((below_alloc (w.alloc (.deferred (some []))) (.loop (rc .ready none))).mono (below_alloc w (.deferred (some []))).size)
  have hA1 : LAt (w.heap.size + 1) w.heap.size (rc .ready none) ((w.alloc (.deferred (some []))).alloc (.loop (rc .ready none))) := by
    have h1 := World.alloc_heap_new (w.alloc (.deferred (some []))) (.loop (rc .ready none))
    rw [World.size_alloc] at h1
    exact ⟨h1, (Below.heap_alloc _ _ _ (by simp)).trans (World.alloc_heap_new w _)⟩
  have hI1 : I [] ((w.alloc (.deferred (some []))).alloc (.loop (rc .ready none))) := hI.alloc _ (hI.alloc _ h0)
  have hsz : ((w.alloc (.deferred (some []))).alloc (.loop (rc .ready none))).heap.size = w.heap.size + 2 := by simp
  have hen : (Instr.enterLoop fn a.tmps ps assign body none).run P w = .ok (w.heap.size + 1, [{ target := .collected w.heap.size, args := #[] }]) ((w.alloc (.deferred (some []))).alloc (.loop (rc .ready none))) := by
    rw [hrc]; exact run_enterLoop_outer _ _ _ _ _
  generalize (w.alloc (.deferred (some []))).alloc (.loop (rc .ready none)) = W1 at *
  have hne : w.heap.size ≠ w.heap.size + 1 := by omega
  -- a turn of the record
  have tI : ∀ {s : List α} {W : World} {o o' : Loop}, I s W → LAt (w.heap.size + 1) w.heap.size o W → I s (W.putObj (w.heap.size + 1) (.loop o')) := fun hi hl => hI.putObj _ hi (by omega) hl.l rfl
  have tX : ∀ {c : Code} {s : List α} {W : World} {o o' : Loop}, Ix c s W → LAt (w.heap.size + 1) w.heap.size o W → Ix c s (W.putObj (w.heap.size + 1) (.loop o')) := fun hi hl => (hIx _).putObj _ hi (by omega) hl.l rfl
  have far : ∀ {A B : World} {row : Option Nat}, (∀ r, row = some r → W1.heap.size ≤ r ∧ ∃ o : Obj, A.heap[r]? = some o ∧ o.isWalk = true) → ∀ r, row = some r → w.heap.size ≤ r ∧ ∃ o : Obj, A.heap[r]? = some o ∧ o.isCells = false := fun hr r e => by
    obtain ⟨hB, o, ho, hw⟩ := hr r e
    exact ⟨by omega, o, ho, Obj.not_cells_of_walk hw⟩
  refine ⟨w.heap.size + 1, [{ target := .collected w.heap.size, args := #[] }], W1, { target := .fn (.func gf) lb, args := #[.func (.yield (w.heap.size + 1)) #[] #[]] }, W1, gf, #[.func (.yield (w.heap.size + 1)) #[] #[]] ++ lb, W1, hen, ?_, fun _ _ => trivial, ?_, fun _ => by decide, ?_⟩
  · simp only [resolve, hg]
    simp [go_sem]
  · simp [invoke, go_sem, eg]
  refine (hseq (w.heap.size + 1) (fun pre W => I pre W ∧ LAt (w.heap.size + 1) w.heap.size (rc .ready none) W) (fun pre W => ∃ c, Ix c pre W ∧ LAt (w.heap.size + 1) w.heap.size (rc .done (some c)) W) W1 (hb0.trans (hb1.mono hb0.size))
    (fun s A B row hs hg' hr => ⟨hI s A B row hs.1 hg' (far (B := B) hr), hs.2.grown hg' (fun r e => (hr r e).2)⟩)
    (fun s A B row hs hg' hr => by
      obtain ⟨c, hc, hl⟩ := hs
      exact ⟨c, hIx c s A B row hc hg' (far (B := B) hr), hl.grown hg' (fun r e => (hr r e).2)⟩)
    (fun s A B hs ht => ⟨hTn s A B hs.1 ht, hTo A B _ _ ht (by omega) hs.2.l, hTo A B _ _ ht (Nat.le_refl _) hs.2.d⟩) ?_ ⟨hI1, hA1⟩).mono ?_
  · -- a round
    rintro pre x W ⟨hi, hl⟩ hlen
    have hy := run_yield (P := P) (args := encs x) hl.l (by rw [hrc]; exact hps x)
    rw [hrc] at hy
    refine ⟨fn, _, assign, body, hy, roundIn_of_wpIn hfn (hassign _ x W _ ⟨_, run_beginRound hl.l (by rw [hrc]), ?_⟩)⟩
    have hl2 := hl.turn hne { rc .ready none with state := .busy }
    have hk2 : Kp W (W.putObj (w.heap.size + 1) (.loop { rc .ready none with state := .busy })) := hKb _ _ _ _ (by omega) hl.l rfl rfl
    refine wpIn_mono (hbody _ pre x _ (tI hi hl) hlen) ?_
    have fin : ∀ (jump : Option Code) (W3 : World), LAt (w.heap.size + 1) w.heap.size { rc .ready none with state := .busy } W3 →
        (Instr.endRound (w.heap.size + 1) jump).run P W3 = .ok (.bool jump.isNone) (W3.putObj (w.heap.size + 1) (.loop (rc (if jump.isNone then .ready else .done) jump))) := fun jump W3 hl3 => by
      have h := run_endRound (P := P) jump hl3.l
      rw [hrc] at h ⊢
      exact h
    have leave : ∀ (c : Code) (W3 : World), KeepsOthers (W.putObj (w.heap.size + 1) (.loop { rc .ready none with state := .busy })) W3 → Ix c (pre ++ [x]) W3 →
        ∃ v w', (Instr.endRound (w.heap.size + 1) (some c)).run P W3 = .ok v w' ∧ ((Ending.returned v = .returned (.bool true) ∧ (I (pre ++ [x]) w' ∧ LAt (w.heap.size + 1) w.heap.size (rc .ready none) w') ∧ Kp W w') ∨ (Ending.returned v = .returned (.bool false) ∧ ∃ c, Ix c (pre ++ [x]) w' ∧ LAt (w.heap.size + 1) w.heap.size (rc .done (some c)) w')) := fun c W3 hk3 hi3 => by
      have hl3 := hl2.others hk3
      exact ⟨_, _, fin (some c) W3 hl3, .inr ⟨rfl, c, tX hi3 hl3, hl3.turn hne _⟩⟩
    rintro e a3 W3 hp
    cases e with
    | normal =>
      obtain ⟨hk3, hkp3, hi3⟩ := hp
      have hl3 := hl2.others hk3
      exact ⟨_, _, fin none W3 hl3, .inl ⟨rfl, ⟨tI hi3 hl3, hl3.turn hne _⟩, hKt (hKt hk2 hkp3) (hKb _ _ _ _ (by omega) hl3.l rfl rfl)⟩⟩
    | ret => exact leave .ret W3 hp.1 hp.2
    | exit id => exact leave (.exit id) W3 hp.1 hp.2
    | goto t => exact leave (.goto t) W3 hp.1 hp.2
    | panic ch => exact hp.elim
    | outgrown => exact hp.elim
  · -- behind the iterator
    rintro e W2 ⟨⟨v, rfl⟩, (⟨xs, hS, hi, hl⟩ | ⟨pre, hSp, c, hi, hl⟩)⟩
    · refine ⟨none, _, ?_, hdone _ xs _ (Nat.le_refl _) hS (tI (o' := rc .exhausted none) hi hl) (hl.turn hne _).d⟩
      have h := run_endLoop (P := P) hl.l (by rw [hrc]; simp)
      rw [hrc] at h ⊢
      exact h
    · refine ⟨some c, _, ?_, wpIn_wide.2 (hstop _ c pre _ (Nat.le_refl _) hSp (tX (o' := rc .exhausted (some c)) hi hl) (hl.turn hne _).d)⟩
      have h := run_endLoop (P := P) hl.l (by rw [hrc]; simp)
      rw [hrc] at h ⊢
      exact h

end Go.Proofs.Ytcdfolphbabaoaa
