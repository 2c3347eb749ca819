/-
  Layer 6 (zone): a slice of steps as it reads; that each step of both tells and leaves the same (plain).
-/
import Derived.Test.YtflcfhjpmajggaaZoneG
import Derived.Deep.Slices
import Derived.Deep.Fields
import Derived.ChangeSame
namespace Go.Proofs.Ytflcfhjpmajggaa
open Go.RowKit
set_option linter.unusedVariables false
set_option linter.unnecessarySimpa false
set_option linter.unusedSimpArgs false

/-- A step as it reads. -/
structure OpR where
  k : Int
  x : Int
  y : Int
  deriving Inhabited
structure OpAt (w : World) (b off : Nat) (o : OpR) : Prop where
  k : w.cell? ⟨b, off, none⟩ = some (.int .i64 o.k)
  x : w.cell? ⟨b, off + 1, none⟩ = some (.int .i64 o.x)
  y : w.cell? ⟨b, off + 2, none⟩ = some (.int .i64 o.y)
  wf : (Lit.int .i64 o.x).wf = true
/-- A slice of steps. -/
structure RowOp (w : World) (a : Option Addr) (len cap : Nat) (f : Nat → OpR) : Prop where
  le : len ≤ cap
  max : cap ≤ maxLen
  cells : 0 < len → ∃ b off, a = some ⟨b, off, none⟩ ∧ ∀ i, i < len → OpAt w b (off + i * 3) (f i)
theorem OpAt.same {w w' : World} {b off : Nat} {o : OpR} (h : OpAt w b off o) (hb : w'.heap[b]? = w.heap[b]?) : OpAt w' b off o := by
  obtain ⟨h1, h2, h3, h4⟩ := h
  exact ⟨(World.cell?_of_block (w := w) (w' := w') (a := ⟨b, off, none⟩) hb).trans h1, (World.cell?_of_block (w := w) (w' := w') (a := ⟨b, off + 1, none⟩) hb).trans h2, (World.cell?_of_block (w := w) (w' := w') (a := ⟨b, off + 2, none⟩) hb).trans h3, h4⟩
theorem RowOp.below {w w' : World} {a : Option Addr} {len cap : Nat} {f : Nat → OpR} (h : RowOp w a len cap f) (hb : Below w.heap.size w w') : RowOp w' a len cap f := by
  obtain ⟨h1, h2, h3⟩ := h
  refine ⟨h1, h2, fun h0 => ?_⟩
  obtain ⟨b, off, rfl, hc⟩ := h3 h0
  exact ⟨b, off, rfl, fun i hi => (hc i hi).same (hb.block b (block_lt_of_cell (hc i hi).k))⟩
/-- One step, where it lies. -/
theorem RowOp.at_ {w w' : World} {a : Option Addr} {len cap : Nat} {f : Nat → OpR} (h : RowOp w a len cap f) (hb : Below w.heap.size w w') (i : Nat) (hi : i < len) : ∃ b off, a = some ⟨b, off, none⟩ ∧ OpAt w' b (off + i * 3) (f i) := by
  obtain ⟨b, off, rfl, hc⟩ := (h.below hb).cells (by omega)
  exact ⟨b, off, rfl, hc i hi⟩

section
open Go.ChangeShapes Go.WideShapes
variable {H : Type} {enc : TypeId × Value → H} {w : World}
theorem Try.cellsOp : Try.prog.cellsOf 32 = 3 := by kernel_rfl
theorem Try.cellsInt6 : Try.prog.cellsOf 3 = 1 := by kernel_rfl
theorem open_ops {fuel : Nat} {a : Option Addr} {len cap : Nat} {x : DataW H × List MemPlace} (h : DataW.trod enc Try.prog w 0 (fun _ => true) true fuel 22 [.slice a len cap] = some x) : ∃ f, RowOp w a len cap f := by
  rcases Go.Deep.open_slice Try.underlying22 h with ⟨hcs, _⟩ | ⟨ad, l, c, m, n, D, Pl, hcs, hb, hl, hm, hmm, hx, hi⟩
  · simp at hcs
    obtain ⟨rfl, rfl, rfl⟩ := hcs
    exact ⟨fun _ => default, Nat.le_refl _, Nat.zero_le _, fun h => absurd h (by decide)⟩
  · simp at hcs
    obtain ⟨rfl, rfl, rfl⟩ := hcs
    have hle : len ≤ m := by rw [hmm]; simpa using hl
    rw [Try.cellsOp] at hi
    have hall : ∀ i, i < len → ∃ it : OpR, w.cell? (ad.add (i * 3)) = some (.int .i64 it.k) ∧ w.cell? ((ad.add (i * 3)).add 1) = some (.int .i64 it.x) ∧ w.cell? ((ad.add (i * 3)).add 2) = some (.int .i64 it.y) ∧ (Lit.int .i64 it.x).wf = true := fun i hil => by
      obtain ⟨cs', hc, ht⟩ := hi i (by omega)
      obtain ⟨_, hlen, hcell⟩ := World.cells?_some hc
      obtain ⟨ys, n', _, _, _, hyl, hf⟩ := DataW.trod_struct Try.underlying32 ht
      match cs', hlen with
      | [c0, c1, c2], _ =>
        have k0 := hcell 0 (by decide)
        have k1 := hcell 1 (by decide)
        have k2 := hcell 2 (by decide)
        match ys, hyl with
        | [y0, y1, y2], _ =>
          have g0 : DataW.trod enc Try.prog w 0 (fun _ => true) true n' 3 (List.take (Try.prog.cellsOf 3) [c0, c1, c2]) = some y0 := hf 0 _ rfl
          have g1 : DataW.trod enc Try.prog w 0 (fun _ => true) true n' 3 (List.take (Try.prog.cellsOf 3) [c1, c2]) = some y1 := hf 1 _ rfl
          have g2 : DataW.trod enc Try.prog w 0 (fun _ => true) true n' 3 (List.take (Try.prog.cellsOf 3) [c2]) = some y2 := hf 2 _ rfl
          rw [Try.cellsInt6] at g0 g1 g2
          simp only [List.getElem?_cons_zero, List.getElem?_cons_succ] at k0 k1 k2
          obtain ⟨z0, e0, _, f0⟩ := DataW.trod_int Try.underlying3 g0
          obtain ⟨z1, e1, _, f1⟩ := DataW.trod_int Try.underlying3 g1
          obtain ⟨z2, e2, _, f2⟩ := DataW.trod_int Try.underlying3 g2
          simp at e0 e1 e2
          subst e0 e1 e2
          exact ⟨⟨z0, z1, z2⟩, by simpa [Addr.add] using k0, k1, k2, f1⟩
    obtain ⟨f, hf⟩ := Go.Deep.choose_lt hall
    refine ⟨f, hl, hm, fun h0 => ?_⟩
    obtain ⟨b, off, spot⟩ := ad
    have hs : spot = none := by
      have h := (hf 0 h0).1
      simpa [Addr.add] using World.cell?_spot h
    subst hs
    refine ⟨b, off, rfl, fun i hil => ?_⟩
    obtain ⟨h1, h2, h3, h4⟩ := hf i hil
    have e : (⟨b, off, none⟩ : Addr).add (i * 3) = ⟨b, off + i * 3, none⟩ := Addr.add_mid b off (i * 3)
    rw [e] at h1 h2 h3
    exact ⟨h1, h2, h3, h4⟩
end

/-! ### each step of both tells and leaves the same -/

/-- The document's zone is this one. -/
structure Rel (z : ZoR) (r : RfR) : Prop where
  xs : z.xs = ivals r.zs
  size : r.size = z.size
  safe : r.safe = z.safe
  state : r.state = stI z
  fin : r.fin = z.fin
section
variable {z : ZoR} {r : RfR}
theorem Rel.len (h : Rel z r) : z.xs.length = r.zs.length := by rw [h.xs, ivals_length]
theorem Rel.rok (h : Rel z r) (hok : ZOk z) : ROk r := by
  obtain ⟨h1, h2⟩ := hok.safe
  have hl := h.len
  have h3 := hok.len
  have h4 := hok.size.2
  refine ⟨?_, by omega⟩
  rw [h.safe]
  omega
theorem stI_cases (hok : ZOk z) : (z.failed = 0 ∧ stI z ≤ 2 ∧ 0 ≤ stI z) ∨ (z.failed = 3 ∧ stI z = 3) ∨ (z.failed = 4 ∧ stI z = 4) := by
  rcases hok.failed with h | h | h
  · refine .inl ⟨h, ?_⟩
    unfold stI
    rw [if_neg (by rw [h]; decide)]
    split
    · decide
    · split <;> decide
  · exact .inr (.inl ⟨h, by unfold stI; rw [if_pos (by rw [h]; decide), h]⟩)
  · exact .inr (.inr ⟨h, by unfold stI; rw [if_pos (by rw [h]; decide), h]⟩)
theorem Rel.ref (h : Rel z r) (hok : ZOk z) : refI z = rfF r := by
  unfold refI rfF
  rw [h.state]
  rcases stI_cases hok with ⟨h1, h2, h3⟩ | ⟨h1, h2⟩ | ⟨h1, h2⟩
  · rw [h1, if_neg (by decide), if_neg (by decide), if_neg (by omega), if_neg (by omega)]
  · rw [h1, h2]
  · rw [h1, h2]
theorem refI_zero (hok : ZOk z) : refI z = 0 ↔ z.failed = 0 := by
  unfold refI
  rcases hok.failed with h | h | h <;> rw [h] <;> simp
theorem stI_no {z : ZoR} (h : z.failed = 0) : stI z = if z.fin = true ∨ (z.xs.length : Int) = z.size then 2 else if (z.xs.length : Int) = 0 then 0 else 1 := by
  unfold stI; rw [if_neg (by rw [h]; decide)]
theorem stI_yes {z : ZoR} (h : z.failed ≠ 0) : stI z = z.failed := by unfold stI; rw [if_pos h]
theorem ones_of {zs : List Int} {xs : List Value} (h : xs = ivals zs) : ∀ u ∈ xs, u.oneCell' = true := by rw [h]; exact ivals_one zs

theorem Rel.append (h : Rel z r) (hok : ZOk z) (x : Int) : apE z = raE r ∧ apO z = raO r ∧ Rel (apZ z (.int .i64 x)) (raR r x) ∧ ZOk (apZ z (.int .i64 x)) := by
  have hE : apE z = raE r := by unfold apE raE; rw [h.ref hok, h.state]
  have hO : apO z = raO r := by unfold apO raO; rw [hE, h.len]
  refine ⟨hE, hO, ?_⟩
  unfold apZ raR
  rw [← hE]
  by_cases h0 : apE z = 0
  · rw [if_pos h0, if_pos h0]
    have hf : z.failed = 0 := by
      by_cases h1 : refI z = 0
      · exact (refI_zero hok).1 h1
      · unfold apE at h0; rw [if_pos h1] at h0; exact absurd h0 h1
    have hs : stI z ≠ 2 := fun e => by
      unfold apE at h0; rw [if_neg (by rw [(refI_zero hok).2 hf]; decide), if_pos e] at h0; exact absurd h0 (by decide)
    rw [stI_no hf] at hs
    have hn : ¬ (z.fin = true ∨ (z.xs.length : Int) = z.size) := fun e => hs (by rw [if_pos e])
    have hfin : z.fin = false := by cases hb : z.fin with | false => rfl | true => exact absurd (.inl hb) hn
    have hlen : (z.xs.length : Int) ≠ z.size := fun e => hn (.inr e)
    have hl := h.len
    have h3 := hok.len
    have hxs : z.xs ++ [.int .i64 x] = ivals (r.zs ++ [x]) := by rw [h.xs, ivals_append]; rfl
    refine ⟨⟨hxs, h.size, h.safe, ?_, h.fin⟩, ⟨hok.size, ?_, ?_, hok.failed, ones_of hxs⟩⟩
    · rw [stI_no (by exact hf)]
      show (if ((r.zs.length + 1 : Nat) : Int) = r.size then (2 : Int) else 1) = if z.fin = true ∨ (((z.xs ++ [Value.int .i64 x]).length : Nat) : Int) = z.size then 2 else if (((z.xs ++ [Value.int .i64 x]).length : Nat) : Int) = 0 then 0 else 1
      rw [List.length_append, List.length_singleton, hfin, h.size, hl]
      by_cases e : ((r.zs.length + 1 : Nat) : Int) = z.size
      · rw [if_pos e, if_pos (.inr e)]
      · rw [if_neg e, if_neg (by rintro (e' | e'); · cases e'
                                 · exact e e'), if_neg (by omega)]
    · show (((z.xs ++ [Value.int .i64 x]).length : Nat) : Int) ≤ z.size
      rw [List.length_append, List.length_singleton]; omega
    · show 0 ≤ z.safe ∧ z.safe ≤ (((z.xs ++ [Value.int .i64 x]).length : Nat) : Int)
      rw [List.length_append, List.length_singleton]
      have := hok.safe
      omega
  · rw [if_neg h0, if_neg h0]
    exact ⟨h, hok⟩
theorem Rel.hol (h : Rel z r) (off : Int) : holB z off = rhB r off := by unfold holB rhB; rw [h.len]
theorem Rel.four (h : Rel z r) (hok : ZOk z) : z.failed = 4 ↔ r.state = 4 := by
  rw [h.state]
  rcases stI_cases hok with ⟨h1, h2, h3⟩ | ⟨h1, h2⟩ | ⟨h1, h2⟩ <;> omega
theorem Rel.read (h : Rel z r) (hok : ZOk z) (off : Int) : rdE z off = rrE r off ∧ rdN z r.zs off = rrV r off := by
  have hE : rdE z off = rrE r off := by
    unfold rdE rrE
    rw [h.hol]
    by_cases e : z.failed = 4
    · rw [if_pos e, if_pos ((h.four hok).1 e)]
    · rw [if_neg e, if_neg (fun e' => e ((h.four hok).2 e'))]
  exact ⟨hE, by unfold rdN rrV; rw [hE]⟩
theorem Rel.start {size : Int} (h : 1 ≤ size ∧ size ≤ 64) : Rel (zo0 size) (rf0 size) := by
  refine ⟨rfl, rfl, rfl, ?_, rfl⟩
  rw [stI_no rfl]
  show (0 : Int) = if (false = true) ∨ ((0 : Nat) : Int) = size then 2 else if ((0 : Nat) : Int) = 0 then 0 else 1
  rw [if_neg (by rintro (e | e); · cases e
                 · omega), if_pos (by decide)]
theorem Rel.reset (h : Rel z r) (hok : ZOk z) : Rel (rsZ z) (rsR r) ∧ ZOk (rsZ z) := by
  unfold rsZ rsR
  rw [← h.ref hok]
  by_cases e : refI z = 0
  · rw [if_pos e, if_pos e, h.size]
    exact ⟨Rel.start hok.size, zo0_ok hok.size⟩
  · rw [if_neg e, if_neg e]; exact ⟨h, hok⟩
theorem Rel.finish (h : Rel z r) (hok : ZOk z) : Rel (fnZ z) (rnR r) ∧ ZOk (fnZ z) := by
  unfold fnZ rnR
  rw [← h.ref hok]
  by_cases e : refI z = 0
  · rw [if_pos e, if_pos e]
    have hf := (refI_zero hok).1 e
    exact ⟨⟨h.xs, h.size, h.safe, by rw [stI_no (by exact hf), if_pos (.inl rfl)], rfl⟩, ⟨hok.size, hok.len, hok.safe, hok.failed, hok.one⟩⟩
  · rw [if_neg e, if_neg e]; exact ⟨h, hok⟩
theorem Rel.flush (h : Rel z r) (hok : ZOk z) : Rel (flZ z) (rlR r) ∧ ZOk (flZ z) := by
  have hl := h.len
  exact ⟨⟨h.xs, h.size, by show (r.zs.length : Int) = z.xs.length; rw [hl], h.state, h.fin⟩, ⟨hok.size, hok.len, ⟨by show (0 : Int) ≤ z.xs.length; omega, Int.le_refl _⟩, hok.failed, hok.one⟩⟩
theorem Rel.fail (h : Rel z r) (hok : ZOk z) (st : Int) : Rel (faZ z st) (rfR r st) ∧ ZOk (faZ z st) := by
  unfold faZ rfR
  have h4 := h.four hok
  by_cases e : st = 4 ∨ st = 3 ∧ z.failed ≠ 4
  · rw [if_pos e, if_pos (e.imp id (fun e => ⟨e.1, fun e' => e.2 (h4.2 e')⟩))]
    have hst : st = 3 ∨ st = 4 := e.elim .inr (fun e => .inl e.1)
    exact ⟨⟨h.xs, h.size, h.safe, by rw [stI_yes (by show st ≠ 0; omega)], h.fin⟩, ⟨hok.size, hok.len, hok.safe, .inr hst, hok.one⟩⟩
  · rw [if_neg e, if_neg (fun e' => e (e'.imp id (fun e' => ⟨e'.1, fun e'' => e'.2 (h4.1 e'')⟩)))]
    exact ⟨h, hok⟩
theorem Rel.keep (h : Rel z r) (k : Int) : keepN z k = rkN r k := by unfold keepN rkN; rw [h.safe, h.len]
theorem crZ_ok {zs : List Int} (hxs : z.xs = ivals zs) (hok : ZOk z) (k : Int) : ZOk (crZ z k) := by
  obtain ⟨n1, n2, n3⟩ := keepN_bd hok k
  have h3 := hok.len
  have hx : (crZ z k).xs = ivals (zs.take (keepN z k)) := by show z.xs.take _ = _; rw [hxs, ivals_take]
  have hl : (z.xs.take (keepN z k)).length = keepN z k := by simp; omega
  refine ⟨hok.size, ?_, ?_, hok.failed, ones_of hx⟩
  · show ((z.xs.take (keepN z k)).length : Int) ≤ z.size
    rw [hl]; omega
  · show 0 ≤ ((keepN z k : Nat) : Int) ∧ ((keepN z k : Nat) : Int) ≤ ((z.xs.take (keepN z k)).length : Int)
    rw [hl]; omega
theorem Rel.crash (h : Rel z r) (hok : ZOk z) (k : Int) : Rel (crZ z k) (rcR r k) ∧ ZOk (crZ z k) := by
  refine ⟨?_, crZ_ok h.xs hok k⟩
  obtain ⟨n1, n2, n3⟩ := keepN_bd hok k
  have hl : (z.xs.take (keepN z k)).length = keepN z k := by simp; omega
  unfold rcR
  rw [← h.keep k]
  refine ⟨by show z.xs.take _ = _; rw [h.xs, ivals_take], h.size, rfl, ?_, h.fin⟩
  show rcS r (keepN z k) = stI (crZ z k)
  unfold rcS
  rw [h.state, h.fin, h.size]
  rcases stI_cases hok with ⟨h1, h2, h3⟩ | ⟨h1, h2⟩ | ⟨h1, h2⟩
  · rw [if_neg (by omega), stI_no (by exact h1)]
    show _ = if z.fin = true ∨ (((z.xs.take (keepN z k)).length : Nat) : Int) = z.size then 2 else if (((z.xs.take (keepN z k)).length : Nat) : Int) = 0 then 0 else 1
    rw [hl]
    by_cases e : z.fin = true ∨ ((keepN z k : Nat) : Int) = z.size
    · rw [if_pos e, if_pos e]
    · rw [if_neg e, if_neg e]
      by_cases e0 : keepN z k = 0
      · rw [if_pos e0, if_pos (by omega)]
      · rw [if_neg e0, if_neg (by omega)]
  · rw [if_pos (by omega), h2, stI_yes (by show z.failed ≠ 0; rw [h1]; decide)]; exact h1.symm
  · rw [if_pos (by omega), h2, stI_yes (by show z.failed ≠ 0; rw [h1]; decide)]; exact h1.symm
theorem chZ_ok {zs : List Int} (hxs : z.xs = ivals zs) (hok : ZOk z) (off y : Int) : ZOk (chZ z zs off y) ∧ (chZ z zs off y).xs.length = z.xs.length ∧ (chZ z zs off y).safe = z.safe := by
  unfold chZ
  by_cases e : holB z off = true
  · rw [if_pos e]
    have hl : (ivals (zs.set off.toNat (xorI (zs.getD off.toNat 0) y))).length = z.xs.length := by rw [hxs, ivals_length, ivals_length, List.length_set]
    exact ⟨⟨hok.size, by show ((ivals _).length : Int) ≤ z.size; rw [hl]; exact hok.len, by show 0 ≤ z.safe ∧ z.safe ≤ ((ivals _).length : Int); rw [hl]; exact hok.safe, hok.failed, ivals_one _⟩, hl, rfl⟩
  · rw [if_neg e]; exact ⟨hok, rfl, rfl⟩
theorem Rel.change (h : Rel z r) (hok : ZOk z) (off y : Int) : chE z off = rhE r off ∧ Rel (chZ z r.zs off y) (rhR r off y) ∧ ZOk (chZ z r.zs off y) := by
  refine ⟨by unfold chE rhE; rw [h.hol], ?_, (chZ_ok h.xs hok off y).1⟩
  have hl := (chZ_ok h.xs hok off y).2.1
  unfold chZ rhR at *
  rw [← h.hol]
  by_cases e : holB z off = true
  · rw [if_pos e, if_pos e]
    rw [if_pos e] at hl
    refine ⟨rfl, h.size, h.safe, ?_, h.fin⟩
    show r.state = _
    rw [h.state]
    unfold stI
    rw [hl]
  · rw [if_neg e, if_neg e]; exact h

theorem Rel.step (h : Rel z r) (hok : ZOk z) (k x y : Int) : stB z r.zs r k x y = true ∧ Rel (stZ z r.zs k x y) (stR r k x y) ∧ ZOk (stZ z r.zs k x y) := by
  unfold stB stZ stR
  by_cases h1 : k = 1
  · obtain ⟨a1, a2, a3, a4⟩ := h.append hok x
    simp only [if_pos h1]
    exact ⟨by simp [a1, a2], a3, a4⟩
  by_cases h2 : k = 2
  · obtain ⟨a1, a2⟩ := h.read hok x
    subst h2
    refine ⟨by simp [a1, a2], ?_⟩
    simpa using ⟨h, hok⟩
  by_cases h3 : k = 3
  · subst h3
    refine ⟨by simp [h.ref hok], ?_⟩
    simpa using h.reset hok
  by_cases h4 : k = 4
  · subst h4
    refine ⟨by simp [h.ref hok], ?_⟩
    simpa using h.finish hok
  by_cases h5 : k = 5
  · subst h5
    refine ⟨by simp, ?_⟩
    simpa using h.flush hok
  by_cases h6 : k = 6
  · subst h6
    refine ⟨by simp, ?_⟩
    simpa using h.crash hok x
  by_cases h7 : k = 7
  · subst h7
    refine ⟨by simp, ?_⟩
    simpa using h.fail hok x
  by_cases h8 : k = 8
  · obtain ⟨a1, a2⟩ := h.change hok x y
    subst h8
    refine ⟨by simp [a1], ?_⟩
    simpa using a2
  simp only [if_neg h1, if_neg h2, if_neg h3, if_neg h4, if_neg h5, if_neg h6, if_neg h7, if_neg h8]
  exact ⟨trivial, h, hok⟩
end

end Go.Proofs.Ytflcfhjpmajggaa
