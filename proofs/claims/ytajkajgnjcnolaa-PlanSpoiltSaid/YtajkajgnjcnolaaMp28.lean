import Derived.Test.YtajkajgnjcnolaaMp27
import Derived.DeepKeys4
import Derived.Maps.Keyed
namespace Go.Proofs.Ytajkajgnjcnolaa
open Go.RowKit Go.Maps
set_option linter.unusedVariables false
set_option linter.unnecessarySimpa false
set_option linter.unusedSimpArgs false
def kvP (k : Int × Int) : Value := .agg #[.int .i64 k.1, .int .i64 k.2]
def hmA (h : List Nat × Int) : Array Value := (bvals h.1 ++ [Value.int .i64 h.2]).toArray
def hmV (h : List Nat × Int) : Value := .agg (hmA h)
theorem kvP_inj (x y : Int × Int) (h : kvP x = kvP y) : x = y := by
  obtain ⟨a, b⟩ := x
  obtain ⟨c, d⟩ := y
  simp [kvP] at h
  simp [h]
theorem hmA_size {h : List Nat × Int} (hl : h.1.length = 64) : (hmA h).size = 65 := by simp [hmA, bvals_length, hl]
theorem hmA_one (h : List Nat × Int) : (hmA h).all (·.oneCell') = true := by
  simp only [hmA, List.all_toArray, List.all_eq_true]
  intro u hu
  rcases List.mem_append.1 hu with h | h
  · exact bvals_one _ u h
  · obtain rfl := List.mem_singleton.1 h; rfl
theorem hmA_n {h : List Nat × Int} (hl : h.1.length = 64) : (hmA h)[64]? = some (.int .i64 h.2) := by
  have : (bvals h.1).length = 64 := by rw [bvals_length, hl]
  simp [hmA, this]
theorem hmA_at {h : List Nat × Int} (i : Nat) (hi : i < h.1.length) : (hmA h)[i]? = (bvals h.1)[i]? := by
  simp only [hmA, List.getElem?_toArray]
  rw [List.getElem?_append_left (by rw [bvals_length]; exact hi)]
theorem hm_range {w : World} {g : Nat} {t : TypeId} {h : List Nat × Int} (hb : Blk w g t (hmA h)) : w.rangeAt g 0 (bvals h.1) := by
  intro j u hu
  have hj : j < h.1.length := by
    have := (List.getElem?_eq_some_iff.1 hu).1
    rwa [bvals_length] at this
  rw [Nat.zero_add, hb.cell, hmA_at j hj]
  exact hu
theorem Try.keyPl : Keyed Try.prog 102 := Keyed.of_law (deep_law_laid (m := 2) (by kernel_rfl) (by omega) (of_decide_eq_true (by kernel_rfl)) (by kernel_rfl) (by rw [Try.underlying102]))
theorem Try.cellsPl : Try.prog.cellsOf 102 = 2 := by kernel_rfl
theorem key_pl {z o : Int} (hz : (Lit.int .i64 z).wf = true) (ho : (Lit.int .i64 o).wf = true) : ∃ l, keyOf Try.prog 102 (kvP (z, o)) = some l := by
  have hk : Try.prog.keyType 102 = true := by kernel_rfl
  have hf : (kvP (z, o)).formed Try.prog 102 = true := by simp [kvP, Value.formed, Try.underlying102, Try.cellsPl]
  have hn : 0 < Try.prog.types.size := of_decide_eq_true (by kernel_rfl)
  obtain ⟨m, hm⟩ : ∃ m, Try.prog.types.size = m + 1 := ⟨_, (Nat.sub_add_cancel hn).symm⟩
  have hc : (kvP (z, o)).cells.toList = [.int .i64 z, .int .i64 o] := rfl
  refine ⟨.string (keyBytes [.int .i64 z, .int .i64 o]), ?_⟩
  unfold keyOf
  rw [hk, hf, hc, hm]
  simp [Try.underlying102, Program.keyLits, Try.cellsPl, Try.cellsI, Try.underlying3, hz, ho]
theorem Try.zeroHm (w : World) : (zeroValue 100).run Try.prog w = .ok (hmV (zeros 64, 0)) w := by kernel_rfl
theorem Try.infoHm : (Try.prog.info? 100).map (·.size) = some 65 := by kernel_rfl
theorem Try.infoPl : (Try.prog.info? 102).map (·.size) = some 2 := by kernel_rfl
theorem Try.infoEvp : (Try.prog.info? 37).map (fun i => (i.zero, i.size, i.bytes)) = some (some (.agg (evA ev0)), 68, 96) := by kernel_rfl
theorem elEv : ElK Try.prog 88 37 68 := by
  obtain ⟨i0, hi, hz0, hz1, hz2⟩ := info_parts Try.infoEvp
  exact ⟨Try.underlying88, ⟨i0, _, hi, hz0, hz1, by rw [hz2]; decide, by show (evA ev0).size = 68; rw [evA_size (zeros_length 64)]⟩, by decide⟩
def pdA (D : Nat) (ve : Value) (n : Nat) (mb : Nat) : Array Value := #[.pointer (some ⟨D, 0, none⟩), ve, .int .i64 (n : Nat), .map (some mb)]
def PdF (X D : Nat) (vz ve : Value) (l : List ZcR) (mb : Nat) (i : Nat) : Prop := i = X ∨ DvF D vz l i ∨ ve.ownBlock = some i ∨ i = mb
structure PdAt (lo : Nat) (w : World) (X : Nat) (S : St8) (D : Nat) (vz ve : Value) (l : List ZcR) (mb n : Nat) (f : Int × Int → Option (List Nat × Int)) : Prop where
  blk : Blk w X 91 (pdA D ve S.R.h.length mb)
  dv : DvAt lo w D vz S.R.d l
  zs : l.map ZcR.z = S.R.zs
  ev : RowE 37 lo w ve (S.R.h ++ S.R.cs)
  mp : MapF Try.prog 102 kvP hmV w mb n f
  mkf : ∀ z o, (f (z, o)).getD (zeros 64, 0) = S.M z o
  m64 : ∀ z o, (S.M z o).1.length = 64 ∧ ∀ c ∈ (S.M z o).1, c < 256
  mn : ∀ z o, 0 ≤ (S.M z o).2 ∧ (S.M z o).2 ≤ (S.R.h.length : Int)
  len : l.length ≤ 1000
  so : SortE S.R.cs
  leX : lo ≤ X
  leM : lo ≤ mb
def pdAt (lo : Nat) (w : World) (X : Nat) (S : St8) (F : Nat → Prop) : Prop := ∃ D vz ve l mb n f, PdAt lo w X S D vz ve l mb n f ∧ F = PdF X D vz ve l mb
def PdTo (lo : Nat) (w : World) (X : Nat) (F : Nat → Prop) (S' : St8) (w' : World) : Prop := ∃ F', pdAt lo w' X S' F' ∧ Kept F w w' ∧ ∀ i, F' i → F i ∨ w.heap.size ≤ i
section
variable {lo X D mb n : Nat} {w w' w1 : World} {S S' : St8} {vz ve : Value} {l l' : List ZcR} {f : Int × Int → Option (List Nat × Int)} {T F : Nat → Prop}
theorem PdAt.eok (h : PdAt lo w X S D vz ve l mb n f) : ∀ e ∈ S.R.cs, EvOk e := fun e he => h.ev.ok e (List.mem_append.2 (.inr he))
theorem PdAt.sane (h : PdAt lo w X S D vz ve l mb n f) : Sane S.R.d S.R.zs := by rw [← h.zs]; exact h.dv.sane h.len
theorem PdAt.kept (h : PdAt lo w X S D vz ve l mb n f) (k : Kept T w w') (hn : ∀ i, PdF X D vz ve l mb i → ¬ T i) : PdAt lo w' X S D vz ve l mb n f :=
  ⟨h.blk.kept k (hn X (.inl rfl)), h.dv.kept k (fun i hi => hn i (.inr (.inl hi))), h.zs, h.ev.kept k (fun g hg => hn g (.inr (.inr (.inl hg)))), h.mp.kept k (hn mb (.inr (.inr (.inr rfl)))), h.mkf, h.m64, h.mn, h.len, h.so, h.leX, h.leM⟩
theorem PdAt.below (h : PdAt lo w X S D vz ve l mb n f) (hb : Below w.heap.size w w') : PdAt lo w' X S D vz ve l mb n f := h.kept (Kept.of_below (S := fun _ => False) hb) (fun _ _ h => h)
theorem PdAt.lov (h : PdAt lo w X S D vz ve l mb n f) {i : Nat} (hi : PdF X D vz ve l mb i) : lo ≤ i := by
  rcases hi with rfl | hi | hi | rfl
  · exact h.leX
  · exact h.dv.lov hi
  · exact own_lov h.ev.own hi
  · exact h.leM
theorem PdAt.lt (h : PdAt lo w X S D vz ve l mb n f) {i : Nat} (hi : PdF X D vz ve l mb i) : i < w.heap.size := by
  rcases hi with rfl | hi | hi | rfl
  · exact h.blk.lt
  · exact h.dv.lt hi
  · exact own_lt h.ev.own hi
  · exact h.mp.lt
theorem PdAt.not (h : PdAt lo w X S D vz ve l mb n f) {g : Nat} {t : TypeId} {cs : Array Value} (hg : Blk w g t cs) (h0 : t ≠ 91) (h1 : t ≠ 96) (h2 : t ≠ 93) (h3 : t ≠ 114) (h4 : t ≠ 34) (h5 : t ≠ 37) : ¬ PdF X D vz ve l mb g := by
  rintro (rfl | hi | hi | rfl)
  · exact Blk.unlike hg h.blk h0 rfl
  · exact h.dv.notblk hg h1 h2 h3 h4 hi
  · exact own_unlike h.ev.own hg (Ne.symm h5) hi.symm
  · exact h.mp.notblk hg rfl
theorem PdAt.dvX (h : PdAt lo w X S D vz ve l mb n f) : ¬ DvF D vz l X := h.dv.notblk h.blk (by decide) (by decide) (by decide) (by decide)
theorem PdAt.dvE (h : PdAt lo w X S D vz ve l mb n f) {g : Nat} (hg : ve.ownBlock = some g) : ¬ DvF D vz l g := h.dv.notrow h.ev.own (by decide) (by decide) (by decide) (by decide) hg
theorem PdAt.dvM (h : PdAt lo w X S D vz ve l mb n f) : ¬ DvF D vz l mb := by
  rintro (e | hi | ⟨c, hc, e | hi⟩)
  · exact h.mp.notblk h.dv.blk e.symm
  · exact h.mp.notrow h.dv.own hi rfl
  · obtain ⟨j, hj⟩ := List.getElem?_of_mem hc
    exact h.mp.notblk (h.dv.each j c hj).blk e.symm
  · obtain ⟨j, hj⟩ := List.getElem?_of_mem hc
    exact h.mp.notrow (h.dv.each j c hj).own hi rfl
theorem PdAt.eX (h : PdAt lo w X S D vz ve l mb n f) {g : Nat} (hg : ve.ownBlock = some g) : g ≠ X := fun e => own_unlike h.ev.own h.blk (by decide) (by rw [hg, e])
theorem PdAt.eM (h : PdAt lo w X S D vz ve l mb n f) {g : Nat} (hg : ve.ownBlock = some g) : g ≠ mb := h.mp.notrow h.ev.own hg
theorem PdAt.xM (h : PdAt lo w X S D vz ve l mb n f) : X ≠ mb := h.mp.notblk h.blk
theorem PdAt.c0 (h : PdAt lo w X S D vz ve l mb n f) : w.cell? ⟨X, 0, none⟩ = some (.pointer (some ⟨D, 0, none⟩)) := (h.blk.cell 0).trans rfl
theorem PdAt.c1 (h : PdAt lo w X S D vz ve l mb n f) : w.cell? ⟨X, 1, none⟩ = some ve := (h.blk.cell 1).trans rfl
theorem PdAt.c2 (h : PdAt lo w X S D vz ve l mb n f) : w.cell? ⟨X, 2, none⟩ = some (.int .i64 (S.R.h.length : Nat)) := (h.blk.cell 2).trans rfl
theorem PdAt.c3 (h : PdAt lo w X S D vz ve l mb n f) : w.cell? ⟨X, 3, none⟩ = some (.map (some mb)) := (h.blk.cell 3).trans rfl
theorem PdAt.slice (h : PdAt lo w X S D vz ve l mb n f) : ∃ a c, ve = .slice a (S.R.h ++ S.R.cs).length c ∧ (S.R.h ++ S.R.cs).length ≤ c ∧ c ≤ 9223372036854775807 := by
  obtain ⟨a, c, rfl⟩ := own_slice h.ev.own
  obtain ⟨_, c1, c2⟩ := ownK_cap h.ev.own
  unfold maxLen at c2
  exact ⟨a, c, rfl, c1, c2⟩
theorem PdTo.same (h : pdAt lo w X S F) (hb : Below w.heap.size w w') : PdTo lo w X F S w' := by
  obtain ⟨D, vz, ve, l, mb, n, f, h, rfl⟩ := h
  exact ⟨_, ⟨D, vz, ve, l, mb, n, f, h.below hb, rfl⟩, Kept.of_below hb, fun _ h => .inl h⟩
theorem PdTo.below (h : PdTo lo w X F S' w1) (hb : Below w1.heap.size w1 w') : PdTo lo w X F S' w' := by
  obtain ⟨F', ⟨D, vz, ve, l, mb, n, f, h1, rfl⟩, h2, h3⟩ := h
  exact ⟨_, ⟨D, vz, ve, l, mb, n, f, h1.below hb, rfl⟩, kept_next h2 hb, h3⟩
theorem PdTo.after (hb : Below w.heap.size w w1) (h : PdTo lo w1 X F S' w') : PdTo lo w X F S' w' := by
  obtain ⟨F', h1, h2, h3⟩ := h
  refine ⟨F', h1, (Kept.of_below (S := fun _ => False) hb).andThen h2 (fun _ _ h => h.elim) (fun _ _ h => h), fun i hi => ?_⟩
  rcases h3 i hi with h | h
  · exact .inl h
  · exact .inr (Nat.le_trans hb.size h)
theorem PdTo.step {S2 : St8} {w2 : World} (h : PdTo lo w X F S' w1) (k : ∀ F', pdAt lo w1 X S' F' → PdTo lo w1 X F' S2 w2) : PdTo lo w X F S2 w2 := by
  obtain ⟨F', h1, h2, h3⟩ := h
  obtain ⟨F2, k1, k2, k3⟩ := k F' h1
  refine ⟨F2, k1, h2.andThen k2 (fun _ _ h => h) (fun i hi hF => ?_), fun i hi => ?_⟩
  · rcases h3 i hF with h | h
    · exact h
    · omega
  · rcases k3 i hi with h | h
    · exact h3 i h
    · exact .inr (Nat.le_trans h2.size h)
theorem PdTo.blk (h : PdTo lo w X F S' w') (h' : PdAt lo w X S D vz ve l mb n f) (hF : F = PdF X D vz ve l mb) {g : Nat} {t : TypeId} {cs : Array Value} (hg : Blk w g t cs) (h0 : t ≠ 91) (h1 : t ≠ 96) (h2 : t ≠ 93) (h3 : t ≠ 114) (h4 : t ≠ 34) (h5 : t ≠ 37) : Blk w' g t cs := by
  obtain ⟨F', _, k, _⟩ := h
  subst hF
  exact hg.kept k (h'.not hg h0 h1 h2 h3 h4 h5)
theorem PdAt.dev (h : PdAt lo w X S D vz ve l mb n f) {d' : DvR} {zs' : List ZsR} (hT : DvTo lo w D vz l d' zs' w') : ∃ l', PdAt lo w' X ⟨⟨d', zs', S.R.cs, S.R.h⟩, S.M⟩ D vz ve l' mb n f ∧ Kept (DvF D vz l) w w' ∧ ∀ i, DvF D vz l' i → DvF D vz l i ∨ w.heap.size ≤ i := by
  obtain ⟨l', k1, k2, k3, k4⟩ := hT
  have hl : l'.length = l.length := by
    obtain ⟨a, c, e⟩ := own_slice k1.own
    obtain ⟨a', c', e'⟩ := own_slice h.dv.own
    rw [e'] at e
    simp at e
    exact e.2.1.symm
  exact ⟨l', ⟨h.blk.kept k3 h.dvX, k1, k2, h.ev.kept k3 (fun g hg => h.dvE hg), h.mp.kept k3 h.dvM, h.mkf, h.m64, h.mn, by rw [hl]; exact h.len, h.so, h.leX, h.leM⟩, k3, k4⟩
theorem PdAt.devTo (h : PdAt lo w X S D vz ve l mb n f) {d' : DvR} {zs' : List ZsR} (hT : DvTo lo w D vz l d' zs' w') : PdTo lo w X (PdF X D vz ve l mb) ⟨⟨d', zs', S.R.cs, S.R.h⟩, S.M⟩ w' := by
  obtain ⟨l', k1, k2, k3⟩ := h.dev hT
  refine ⟨_, ⟨D, vz, ve, l', mb, n, f, k1, rfl⟩, k2.mono (fun i _ hi => .inr (.inl hi)), fun i hi => ?_⟩
  rcases hi with rfl | hi | hi | rfl
  · exact .inl (.inl rfl)
  · rcases k3 i hi with h5 | h5
    · exact .inl (.inr (.inl h5))
    · exact .inr h5
  · exact .inl (.inr (.inr (.inl hi)))
  · exact .inl (.inr (.inr (.inr rfl)))
theorem PdAt.map (h : PdAt lo w X S D vz ve l mb n f) {n' : Nat} {f' : Int × Int → Option (List Nat × Int)} {M' : Mk} (hm : MapF Try.prog 102 kvP hmV w' mb n' f') (k : Kept (· = mb) w w') (hf : ∀ z o, (f' (z, o)).getD (zeros 64, 0) = M' z o) (h64 : ∀ z o, (M' z o).1.length = 64 ∧ ∀ c ∈ (M' z o).1, c < 256) (hn : ∀ z o, 0 ≤ (M' z o).2 ∧ (M' z o).2 ≤ (S.R.h.length : Int)) : PdAt lo w' X ⟨S.R, M'⟩ D vz ve l mb n' f' :=
  ⟨h.blk.kept k h.xM, h.dv.kept k (fun i hi e => h.dvM (e ▸ hi)), h.zs, h.ev.kept k (fun g hg => h.eM hg), hm, hf, h64, hn, h.len, h.so, h.leX, h.leM⟩
theorem PdAt.mapTo (h : PdAt lo w X S D vz ve l mb n f) {n' : Nat} {f' : Int × Int → Option (List Nat × Int)} {M' : Mk} (hm : MapF Try.prog 102 kvP hmV w' mb n' f') (k : Kept (· = mb) w w') (hf : ∀ z o, (f' (z, o)).getD (zeros 64, 0) = M' z o) (h64 : ∀ z o, (M' z o).1.length = 64 ∧ ∀ c ∈ (M' z o).1, c < 256) (hn : ∀ z o, 0 ≤ (M' z o).2 ∧ (M' z o).2 ≤ (S.R.h.length : Int)) : PdTo lo w X (PdF X D vz ve l mb) ⟨S.R, M'⟩ w' :=
  ⟨_, ⟨D, vz, ve, l, mb, n', f', h.map hm k hf h64 hn, rfl⟩, k.mono (fun i _ hi => .inr (.inr (.inr hi))), fun _ h => .inl h⟩
theorem pdAt.to (h : pdAt lo w X S F) (hS : S = S') : PdTo lo w X F S' w := by subst hS; exact PdTo.same h (Below.refl _ _)
end
end Go.Proofs.Ytajkajgnjcnolaa

namespace Go.Proofs.Ytajkajgnjcnolaa
open Go.RowKit Go.Maps
set_option linter.unusedVariables false
set_option linter.unnecessarySimpa false
set_option linter.unusedSimpArgs false
theorem csp8 {lo D : Nat} {w : World} {vz : Value} {d : DvR} {l : List ZcR} {zs : List ZsR} (hz : l.map ZcR.z = zs) (i off : Int) (p : List Nat) (hp : p.length = 64) (hpb : ∀ b ∈ p, b < 256) (h : DvAt lo w D vz d l)  :
    Calls Try.prog 91 #[.pointer (some ⟨D, 0, none⟩), .int .i64 i, .int .i64 off, .agg (bA p)] w fun e w' => e = .returned (.int .i64 (spSp d zs i off p).e) ∧ DvTo lo w D vz l (spSp d zs i off p).d (spSp d zs i off p).zs w' := by
  subst hz
  exact csp7 i off p hp hpb h
theorem cfa8 {lo D : Nat} {w : World} {vz : Value} {d : DvR} {l : List ZcR} {zs : List ZsR} (hz : l.map ZcR.z = zs) (i st : Int) (h : DvAt lo w D vz d l)  :
    Calls Try.prog 88 #[.pointer (some ⟨D, 0, none⟩), .int .i64 i, .int .i64 st] w fun e w' => e = .returned (.int .i64 (faSp d zs i st).e) ∧ DvTo lo w D vz l (faSp d zs i st).d (faSp d zs i st).zs w' := by
  subst hz
  exact cfa7 i st h
theorem ccr8 {lo D : Nat} {w : World} {vz : Value} {d : DvR} {l : List ZcR} {zs : List ZsR} (hz : l.map ZcR.z = zs) (h : DvAt lo w D vz d l) :
    Calls Try.prog 89 #[.pointer (some ⟨D, 0, none⟩)] w fun e w' => e = .returned (.tuple #[]) ∧ DvTo lo w D vz l (crSp d zs).d (crSp d zs).zs w' := by
  subst hz
  exact dcr h
theorem cap8 {lo D : Nat} {w : World} {vz : Value} {d : DvR} {l : List ZcR} {zs : List ZsR} (hz : l.map ZcR.z = zs) (i : Int) (t : List Nat) (hs : t.length = 64) (hs2 : ∀ b ∈ t, b < 256) (h : DvAt lo w D vz d l) (hn : 0 ≤ d.count ∧ d.count ≤ 1000000) (hl : l.length ≤ 1000) :
    Calls Try.prog 55 #[.pointer (some ⟨D, 0, none⟩), .int .i64 i, .agg (bA t)] w fun e w' => e = .returned (.tuple #[.int .i64 (apSp d zs i t).o, .int .i64 (apSp d zs i t).e]) ∧ DvTo lo w D vz l (apSp d zs i t).d (apSp d zs i t).zs w' := by
  subst hz
  exact cap7 i t hs hs2 h hn hl
theorem crd8 {lo D : Nat} {w : World} {vz : Value} {d : DvR} {l : List ZcR} {zs : List ZsR} (hz : l.map ZcR.z = zs) (i off : Int) (h : DvAt lo w D vz d l) (hn : 0 ≤ d.count ∧ d.count ≤ 1000000) :
    Calls Try.prog 61 #[.pointer (some ⟨D, 0, none⟩), .int .i64 i, .int .i64 off] w fun e w' => e = .returned (.tuple #[.agg (bA (rdV7 d zs i off)), .int .i64 (rdSp d zs i off).e]) ∧ DvTo lo w D vz l (rdSp d zs i off).d (rdSp d zs i off).zs w' := by
  subst hz
  exact crd7 i off h hn
theorem crs8 {lo D : Nat} {w : World} {vz : Value} {d : DvR} {l : List ZcR} {zs : List ZsR} (hz : l.map ZcR.z = zs) (i : Int) (h : DvAt lo w D vz d l) (hn : 0 ≤ d.count ∧ d.count ≤ 1000000) :
    Calls Try.prog 62 #[.pointer (some ⟨D, 0, none⟩), .int .i64 i] w fun e w' => e = .returned (.int .i64 (rsSp d zs i).e) ∧ DvTo lo w D vz l (rsSp d zs i).d (rsSp d zs i).zs w' := by
  subst hz
  exact crs7 i h hn
theorem cfn8 {lo D : Nat} {w : World} {vz : Value} {d : DvR} {l : List ZcR} {zs : List ZsR} (hz : l.map ZcR.z = zs) (i : Int) (h : DvAt lo w D vz d l) (hn : 0 ≤ d.count ∧ d.count ≤ 1000000) :
    Calls Try.prog 63 #[.pointer (some ⟨D, 0, none⟩), .int .i64 i] w fun e w' => e = .returned (.int .i64 (fnSp d zs i).e) ∧ DvTo lo w D vz l (fnSp d zs i).d (fnSp d zs i).zs w' := by
  subst hz
  exact cfn7 i h hn
theorem cfl8 {lo D : Nat} {w : World} {vz : Value} {d : DvR} {l : List ZcR} {zs : List ZsR} (hz : l.map ZcR.z = zs)  (h : DvAt lo w D vz d l) (hn : 0 ≤ d.count ∧ d.count ≤ 1000000) (hl : l.length ≤ 1000) :
    Calls Try.prog 65 #[.pointer (some ⟨D, 0, none⟩)] w fun e w' => e = .returned (.int .i64 (flSp d zs).e) ∧ DvTo lo w D vz l (flSp d zs).d (flSp d zs).zs w' := by
  subst hz
  exact cfl7 h hn hl
theorem crv8 {lo D : Nat} {w : World} {vz : Value} {d : DvR} {l : List ZcR} {zs : List ZsR} (hz : l.map ZcR.z = zs) {ka : Option Addr} {kl kc : Nat} {ks : List Int} (h : DvAt lo w D vz d l) (hk : ∃ w0, RowZ w0 ka kl kc ks ∧ Below w0.heap.size w0 w ∧ w0.heap.size ≤ lo) (hl : l.length ≤ 1000) :
    Calls Try.prog 66 #[.pointer (some ⟨D, 0, none⟩), .slice ka kl kc] w fun e w' => e = .returned (.tuple #[]) ∧ DvTo lo w D vz l (rvSp d zs ks).d (rvSp d zs ks).zs w' := by
  subst hz
  exact crv7 h hk hl
theorem DvTo.keptF {lo D : Nat} {w w' : World} {vz : Value} {l : List ZcR} {d' : DvR} {zs' : List ZsR} (h : DvTo lo w D vz l d' zs' w') : Kept (DvF D vz l) w w' := by
  obtain ⟨_, _, _, k, _⟩ := h
  exact k
theorem Try.zeroPl (w : World) : (zeroValue 102).run Try.prog w = .ok (.agg #[.int .i64 0, .int .i64 0]) w := by kernel_rfl
theorem Try.zeroHm2 (w : World) : (zeroValue 100).run Try.prog w = .ok (.agg (hmA (zeros 64, 0))) w := by kernel_rfl
theorem infoSecL {p : List Nat} (h : p.length = 64) : (Try.prog.info? 34).map (·.size) = some (bvals p).length := by rw [bvals_length, h]; exact infoSec
theorem infoHmA {h : List Nat × Int} (hl : h.1.length = 64) : (Try.prog.info? 100).map (·.size) = some (hmA h).size := by rw [hmA_size hl]; exact Try.infoHm
section
variable {w : World} {o : Oper} {a : Act}
theorem exec_lookM {mb n : Nat} {f : Int × Int → Option (List Nat × Int)} {M : Mk} (m v : Operand) (hop : o.op = .lookup 89 m v false) (z off : Int) {L : Lit} (hx : keyOf Try.prog 102 (kvP (z, off)) = some L)
    (hm : a.eval m = .map (some mb)) (hv : a.eval v = kvP (z, off)) (h : MapF Try.prog 102 kvP hmV w mb n f) (hf : (f (z, off)).getD (zeros 64, 0) = M z off) : (execOp a.eval o).run Try.prog w = .ok (.value (.agg (hmA (M z off)))) w := by
  rw [exec_lookF Try.keyPl kvP_inj Try.underlying89 (Try.zeroHm w) m v false hop (z, off) hx hm hv h]
  have e : ((f (z, off)).map hmV).getD (hmV (zeros 64, 0)) = .agg (hmA (M z off)) := by
    rw [← hf]
    cases f (z, off) <;> rfl
  simp only [Bool.false_eq_true, if_false, e]
end
theorem wpo_storeF {κ ε : Type} {P : Program} {k : TypeId} {kv : κ → Value} {el : ε → Value} {w : World} {b n : Nat} {f f' : κ → Option ε} {o : Oper} {a : Act} {K' : Act → World → Prop} {Q : Exit → Act → World → Prop} {t e : TypeId} (K : Keyed P k) (hinj : ∀ x y, kv x = kv y → x = y) (ht : P.underlying t = some (.map k e)) (m v u : Operand) (hop : o.op = .mapUpdate t m v u) (x : κ) (y : ε) {l : Lit} (hx : keyOf P k (kv x) = some l)
    (hm : a.eval m = .map (some b)) (hv : a.eval v = kv x) (hu : a.eval u = el y) (h : MapF P k kv el w b n f) (hf : f' x = some y) (ho : ∀ x', x' ≠ x → f' x' = f x')
    (hK : ∀ w', MapF P k kv el w' b (n + 1) f' → Kept (· = b) w w' → K' (a.put o.dst undef) w') : Oper.wp P o a w K' Q := by
  obtain ⟨w', hrun, r1, r2⟩ := h.store K hinj ht hx hf ho
  unfold Oper.wp
  simp [execOp, hop, hm, hv, hu, hrun, Result.andThen]
  exact hK w' r1 r2
theorem PdTo.nextK {lo X D mb : Nat} {w w3 w4 : World} {S' : St8} {vz ve : Value} {l l1 : List ZcR} (hd : Kept (DvF D vz l) w w3) (hf : ∀ i, DvF D vz l1 i → DvF D vz l i ∨ w.heap.size ≤ i) (h : PdTo lo w3 X (PdF X D vz ve l1 mb) S' w4) : PdTo lo w X (PdF X D vz ve l mb) S' w4 := by
  have key : ∀ i, PdF X D vz ve l1 mb i → PdF X D vz ve l mb i ∨ w.heap.size ≤ i := fun i hi => by
    rcases hi with rfl | hi | hi | rfl
    · exact .inl (.inl rfl)
    · rcases hf i hi with h5 | h5
      · exact .inl (.inr (.inl h5))
      · exact .inr h5
    · exact .inl (.inr (.inr (.inl hi)))
    · exact .inl (.inr (.inr (.inr rfl)))
  obtain ⟨F', hp, k, inc⟩ := h
  refine ⟨F', hp, hd.andThen k (fun i _ hi => .inr (.inl hi)) (fun i hi hF => ?_), fun i hi => ?_⟩
  · rcases key i hF with h5 | h5
    · exact h5
    · omega
  · rcases inc i hi with h5 | h5
    · exact key i h5
    · exact .inr (Nat.le_trans hd.size h5)
set_option maxRecDepth 100000 in
set_option maxHeartbeats 2000000 in
theorem pspoil {lo X D mb n : Nat} {w : World} {S : St8} {vz ve : Value} {l : List ZcR} {f : Int × Int → Option (List Nat × Int)} (e : EvR) (he : EvOk e) (h : PdAt lo w X S D vz ve l mb n f) (hh : S.R.h.length ≤ 40000) (hM : ∀ z o, (S.M z o).2 + 1 ≤ (S.R.h.length : Int)) {M' : Mk} (hM' : M' = if (spSp S.R.d S.R.zs e.zone e.off e.p).e = 0 then mkS S.M e.zone e.off e.p else S.M) :
    Calls Try.prog 87 #[.pointer (some ⟨X, 0, none⟩), .agg (evA e)] w fun en w' => en = .returned (.tuple #[]) ∧ PdTo lo w X (PdF X D vz ve l mb) ⟨⟨(spSp S.R.d S.R.zs e.zone e.off e.p).d, (spSp S.R.d S.R.zs e.zone e.off e.p).zs, S.R.cs, S.R.h⟩, M'⟩ w' := by
  have HM' := Lib.hid hM'
  clear hM'
  have hb0 := below_alloc w (Obj.cells (evA e) 37)
  have HP := Lib.hid (h.below hb0)
  have HE := Lib.hid (Blk.new w 37 (evA e))
  have He := Lib.hid he
  have Hh := Lib.hid hh
  have HM := Lib.hid hM
  have Hb0 := Lib.hid hb0
  have Hlt := Lib.hid (fun i (hi : PdF X D vz ve l mb i) => h.lt hi)
  clear h he hh hM hb0
  go_enter Try.func87, Try.ntmps87
  go_upto_region 1 with fail
  generalize w.alloc (Obj.cells (evA e) 37) = w0 at *
  have HX := Lib.hid HP.out.blk
  have HnX := Lib.hid HP.out.dvX
  have HnE : Hid (¬ DvF D vz l w.heap.size) := Lib.hid (fun hi => by have := Hlt.out _ (.inr (.inl hi)); omega)
  by_cases hE : (spSp S.R.d S.R.zs e.zone e.off e.p).e = 0
  · have HE0 : Hid ((!decide ((spSp S.R.d S.R.zs e.zone e.off e.p).e = 0)) = false) := Lib.hid (by rw [hE]; rfl)
    have HEE := Lib.hid hE
    clear hE
    refine wp_region_held (S := fun w' => Kept (DvF D vz l) w0 w') (by kernel_rfl) ?_
    change wpAnyH _ _ _ _ _ _ _ _ (World.drew _)
    have hS : Kept (DvF D vz l) w0 w0.drew := (Kept.refl _ _).drew
    have hB0 : Below w0.heap.size w0 w0.drew := (Below.refl _ _).drew
    refine takeH hS (i := 0) (d := 6) (v := .pointer (some ⟨X, 0, none⟩)) rfl rfl (by kernel_rfl) (by kernel_rfl) (by kernel_rfl) (fun _ _ _ h => h) (Or.inl ⟨by kernel_rfl, fun w' hw' => by kernel_rfl⟩) ?_
    refine takeH hS (i := 1) (d := 7) (v := .pointer (some ⟨X, 0, none⟩)) rfl rfl (by kernel_rfl) (by kernel_rfl) (by kernel_rfl) (fun _ _ _ h => h) (Or.inl ⟨by kernel_rfl, fun w' hw' => by kernel_rfl⟩) ?_
    refine takeH hS (i := 2) (d := 8) (v := .pointer (some ⟨X, 0, none⟩)) rfl rfl (by kernel_rfl) (by kernel_rfl) (by kernel_rfl) (fun _ _ _ h => h) (Or.inl ⟨by kernel_rfl, fun w' hw' => by kernel_rfl⟩) ?_
    refine takeH hS (i := 3) (d := 9) (v := .pointer (some ⟨D, 0, none⟩)) rfl rfl (by kernel_rfl) (by kernel_rfl) (by kernel_rfl) (fun _ _ _ h => h) (Or.inl ⟨by kernel_rfl, fun w' hw' => by exact exec_cellv _ rfl ⟨X, 0, none⟩ rfl (.pointer (some ⟨D, 0, none⟩)) Try.underlying45 rfl (((HX.out.kept hw' HnX.out).cell 0).trans (rfl))⟩) ?_
    try go_frame
    refine takeH hS (i := 4) (d := 10) (v := .pointer (some ⟨w.heap.size, 2, none⟩)) rfl rfl (by kernel_rfl) (by kernel_rfl) (by kernel_rfl) (fun _ _ _ h => h) (Or.inl ⟨by kernel_rfl, fun w' hw' => by kernel_rfl⟩) ?_
    refine takeH hS (i := 5) (d := 11) (v := .int .i64 (e.zone)) rfl rfl (by kernel_rfl) (by kernel_rfl) (by kernel_rfl) (fun _ _ _ h => h) (Or.inl ⟨by kernel_rfl, fun w' hw' => by exact exec_cell _ rfl ⟨w.heap.size, 2, none⟩ rfl _ Try.underlying3 (((HE.out.kept hw' HnE.out).cell 2).trans (evA_at2 e))⟩) ?_
    refine takeH hS (i := 6) (d := 12) (v := .pointer (some ⟨w.heap.size, 3, none⟩)) rfl rfl (by kernel_rfl) (by kernel_rfl) (by kernel_rfl) (fun _ _ _ h => h) (Or.inl ⟨by kernel_rfl, fun w' hw' => by kernel_rfl⟩) ?_
    refine takeH hS (i := 7) (d := 13) (v := .int .i64 (e.off)) rfl rfl (by kernel_rfl) (by kernel_rfl) (by kernel_rfl) (fun _ _ _ h => h) (Or.inl ⟨by kernel_rfl, fun w' hw' => by exact exec_cell _ rfl ⟨w.heap.size, 3, none⟩ rfl _ Try.underlying3 (((HE.out.kept hw' HnE.out).cell 3).trans (evA_at3 e))⟩) ?_
    try go_frame
    refine takeH hS (i := 8) (d := 14) (v := .pointer (some ⟨w.heap.size, 4, none⟩)) rfl rfl (by kernel_rfl) (by kernel_rfl) (by kernel_rfl) (fun _ _ _ h => h) (Or.inl ⟨by kernel_rfl, fun w' hw' => by kernel_rfl⟩) ?_
    refine takeH hS (i := 9) (d := 15) (v := .agg (bA e.p)) rfl rfl (by kernel_rfl) (by kernel_rfl) (by kernel_rfl) (fun _ _ _ h => h) (Or.inl ⟨by kernel_rfl, fun w' hw' => by exact exec_load_b _ _ rfl (w.heap.size) 4 rfl e.p _ (ev_range (HE.out.kept hw' HnE.out)) Try.underlying34 rfl (infoSecL He.out.len)⟩) ?_
    try go_frame
    refine nextH (i := 10) rfl (by kernel_rfl) (by kernel_rfl) (fun K' hK => ?_)
    go_wp2_with fail
    refine (csp8 HP.out.zs e.zone e.off e.p He.out.len He.out.lt (HP.out.dv.below hB0)).mono ?_
    rintro en w0c1 ⟨rfl, hT⟩
    have HT := Lib.hid (DvTo.after hB0 hT)
    have hS1 : Kept (DvF D vz l) w0 w0c1 := hS.trans (hT.keptF)
    refine hK.out _ _ ⟨hS1, ?_⟩
    clear hK K' hS
    refine takeH hS1 (i := 11) (d := 17) (v := .bool false) rfl rfl (by kernel_rfl) (by kernel_rfl) (by kernel_rfl) (fun _ _ _ h => h) (Or.inl ⟨by kernel_rfl, fun w' hw' => by exact exec_neq _ _ rfl ((spSp S.R.d S.R.zs e.zone e.off e.p).e) (0) rfl rfl false (HE0.out) rfl⟩) ?_
    refine wpAnyH_done (by kernel_rfl) ?_ _
    try go_frame
    clear HX HnX HE0
    obtain ⟨l1, hP1, hk1, hf1⟩ := HP.out.dev HT.out
    have HP1 := Lib.hid hP1
    have HE1 := Lib.hid (HE.out.kept hk1 HnE.out)
    have Hf1 := Lib.hid hf1
    have Hk1 := Lib.hid hk1
    have Hl1 : Hid (w.heap.size < w0c1.heap.size) := Lib.hid HE1.out.lt
    clear hP1 hk1 hf1 hS1 HE HnE HP HT
    generalize w0c1 = w1 at *
    have k2 : w1.cell? ⟨w.heap.size, 2, none⟩ = some (.int .i64 e.zone) := (HE1.out.cell 2).trans (evA_at2 e)
    have k3 : w1.cell? ⟨w.heap.size, 3, none⟩ = some (.int .i64 e.off) := (HE1.out.cell 3).trans (evA_at3 e)
    have hzp := Try.zeroPl
    go_upto_region 3 with (refine wpl_store_new rfl _ _ rfl #[.int .i64 e.zone, .int .i64 e.off] w1 102 #[.int .i64 0, .int .i64 0] rfl rfl rfl Try.infoPl rfl rfl ?_; go_frame)
    have hb2 := below_alloc w1 (Obj.cells #[.int .i64 e.zone, .int .i64 e.off] 102)
    have HP2 := Lib.hid (HP1.out.below hb2)
    have HE2 := Lib.hid (HE1.out.below hb2 HE1.out.lt)
    have HK2 := Lib.hid (Blk.new w1 102 #[.int .i64 e.zone, .int .i64 e.off])
    have Hk2 := Lib.hid (kept_next Hk1.out hb2)
    have Hl2 : Hid (w1.heap.size < (w1.alloc (Obj.cells #[.int .i64 e.zone, .int .i64 e.off] 102)).heap.size) := Lib.hid HK2.out.lt
    clear hb2 HP1 HE1 Hk1 hzp k2 k3
    generalize w1.alloc (Obj.cells #[.int .i64 e.zone, .int .i64 e.off] 102) = w2 at *
    generalize w1.heap.size = Y at *
    have HX2 := Lib.hid HP2.out.blk
    have HM2 := Lib.hid HP2.out.mp
    have Hf2 := Lib.hid (HP2.out.mkf e.zone e.off)
    have H64 := Lib.hid (HP2.out.m64 e.zone e.off)
    obtain ⟨hkz, hko⟩ : (Lit.int .i64 e.zone).wf = true ∧ (Lit.int .i64 e.off).wf = true := ⟨He.out.wf _ (by simp [evZ]), He.out.wf _ (by simp [evZ])⟩
    obtain ⟨L, hL⟩ := key_pl hkz hko
    have HL := Lib.hid hL
    clear hkz hko hL
    have hzh := Try.zeroHm2
    refine wp_region_held (S := fun w' => Kept (fun _ => False) w2 w') (by kernel_rfl) ?_
    change wpAnyH _ _ _ _ _ _ _ _ (World.drew _)
    have hS : Kept (fun _ => False) w2 w2.drew := (Kept.refl _ _).drew
    have hB0 : Below w2.heap.size w2 w2.drew := (Below.refl _ _).drew
    refine takeH hS (i := 0) (d := 23) (v := .pointer (some ⟨X, 0, none⟩)) rfl rfl (by kernel_rfl) (by kernel_rfl) (by kernel_rfl) (fun _ _ _ h => h) (Or.inl ⟨by kernel_rfl, fun w' hw' => by kernel_rfl⟩) ?_
    refine takeH hS (i := 1) (d := 24) (v := .pointer (some ⟨X, 0, none⟩)) rfl rfl (by kernel_rfl) (by kernel_rfl) (by kernel_rfl) (fun _ _ _ h => h) (Or.inl ⟨by kernel_rfl, fun w' hw' => by kernel_rfl⟩) ?_
    refine takeH hS (i := 2) (d := 25) (v := .pointer (some ⟨X, 3, none⟩)) rfl rfl (by kernel_rfl) (by kernel_rfl) (by kernel_rfl) (fun _ _ _ h => h) (Or.inl ⟨by kernel_rfl, fun w' hw' => by kernel_rfl⟩) ?_
    refine takeH hS (i := 3) (d := 26) (v := .map (some mb)) rfl rfl (by kernel_rfl) (by kernel_rfl) (by kernel_rfl) (fun _ _ _ h => h) (Or.inl ⟨by kernel_rfl, fun w' hw' => by exact exec_cellv _ rfl ⟨X, 3, none⟩ rfl (.map (some mb)) Try.underlying89 rfl (((HX2.out.kept hw' (fun h => h)).cell 3).trans (rfl))⟩) ?_
    try go_frame
    refine takeH hS (i := 4) (d := 27) (v := .agg (#[.int .i64 e.zone, .int .i64 e.off])) rfl rfl (by kernel_rfl) (by kernel_rfl) (by kernel_rfl) (fun _ _ _ h => h) (Or.inl ⟨by kernel_rfl, fun w' hw' => by exact exec_load _ rfl (Y) rfl (HK2.out.kept hw' (fun h => h)) Try.underlying102 rfl (Try.infoPl)⟩) ?_
    refine takeH hS (i := 5) (d := 28) (v := .agg (hmA (S.M e.zone e.off))) rfl rfl (by kernel_rfl) (by kernel_rfl) (by kernel_rfl) (fun _ _ _ h => h) (Or.inl ⟨by kernel_rfl, fun w' hw' => by exact exec_lookM _ _ rfl e.zone e.off HL.out rfl rfl (HM2.out.kept hw' (fun h => h)) Hf2.out⟩) ?_
    try go_frame
    refine nextH (i := 6) rfl (by kernel_rfl) (by kernel_rfl) (fun K' hK => ?_)
    go_wp2_with fail
    have hal : Below w2.drew.heap.size w2.drew (w2.drew.alloc (Obj.cells (hmA (zeros 64, 0)) 100)) := below_alloc _ _
    have HHa : Hid (Blk (w2.drew.alloc (Obj.cells (hmA (zeros 64, 0)) 100)) w2.heap.size 100 (hmA (zeros 64, 0))) := Lib.hid (Blk.new (w2.drew) 100 (hmA (zeros 64, 0)))
    have hS1 : Kept (fun _ => False) w2 (w2.drew.alloc (Obj.cells (hmA (zeros 64, 0)) 100)) := kept_next hS hal
    have hB1 : Below w2.heap.size w2 (w2.drew.alloc (Obj.cells (hmA (zeros 64, 0)) 100)) := bel_next hB0 hal
    refine hK.out _ _ ⟨hS1, ?_⟩
    clear hK K' hal hS hB0
    change wpAnyH _ _ _ _ _ _ _ _ (w2.drew.alloc (Obj.cells (hmA (zeros 64, 0)) 100))
    generalize w2.drew.alloc (Obj.cells (hmA (zeros 64, 0)) 100) = w2c1 at *
    refine nextH (i := 7) rfl (by kernel_rfl) (by kernel_rfl) (fun K' hK => ?_)
    refine wpo_store _ _ rfl (w2.heap.size) (hmA (S.M e.zone e.off)) rfl rfl _ _ HHa.out (infoHmA H64.out.1) (by rw [hmA_size H64.out.1, hmA_size (zeros_length 64)]) (hmA_one _) ?_
    intro w2c2 hP hq
    have HH3 := Lib.hid hP
    have hS2 : Kept (fun _ => False) w2 w2c2 := hS1.andThen hq (fun _ _ h => h) (fun i hi e => absurd e (Nat.ne_of_lt hi))
    have hB2 : Below w2.heap.size w2 w2c2 := bkept hB1 (Nat.le_refl _) hq (fun i hi e => absurd e (Nat.ne_of_lt hi))
    refine hK.out _ _ ⟨hS2, ?_⟩
    clear hK K' hP hq hS1 hB1 HHa
    change wpAnyH _ _ _ _ _ _ _ (Act.put _ none undef) _
    go_frame
    refine wpAnyH_done (by kernel_rfl) ?_ _
    try go_frame
    have HP3 := Lib.hid (HP2.out.below hB2)
    have HE3 := Lib.hid (HE2.out.below hB2 HE2.out.lt)
    have HK3 := Lib.hid (HK2.out.below hB2 HK2.out.lt)
    have Hk3 := Lib.hid (kept_next Hk2.out hB2)
    have Hl3 : Hid (w2.heap.size < w2c2.heap.size) := Lib.hid HH3.out.lt
    clear hS2 hB2 HP2 HE2 HK2 Hk2 HX2 HM2 Hf2 hzh
    generalize w2c2 = w3 at *
    generalize w2.heap.size = Z at *
    have HX3 := Lib.hid HP3.out.blk
    have HnX3 := Lib.hid HP3.out.xM
    have HnE3 : Hid (¬ w.heap.size = mb) := Lib.hid (fun h9 => HP3.out.mp.notblk HE3.out h9)
    have HnK3 : Hid (¬ Y = mb) := Lib.hid (fun h9 => HP3.out.mp.notblk HK3.out h9)
    have HnH3 : Hid (¬ Z = mb) := Lib.hid (fun h9 => HP3.out.mp.notblk HH3.out h9)
    have q1 : 0 ≤ (S.M e.zone e.off).2 := (HP3.out.mn e.zone e.off).1
    have q2 : (S.M e.zone e.off).2 ≤ (S.R.h.length : Int) := (HP3.out.mn e.zone e.off).2
    have q3 := Hh.out
    go_upto_region 4 with fail
    refine wp_region_held (S := fun w' => Kept (· = mb) w3 w') (by kernel_rfl) ?_
    change wpAnyH _ _ _ _ _ _ _ _ (World.drew _)
    have hS : Kept (· = mb) w3 w3.drew := (Kept.refl _ _).drew
    have hB0 : Below w3.heap.size w3 w3.drew := (Below.refl _ _).drew
    refine takeH hS (i := 0) (d := 29) (v := .pointer (some ⟨X, 0, none⟩)) rfl rfl (by kernel_rfl) (by kernel_rfl) (by kernel_rfl) (fun _ _ _ h => h) (Or.inl ⟨by kernel_rfl, fun w' hw' => by kernel_rfl⟩) ?_
    refine takeH hS (i := 1) (d := 30) (v := .pointer (some ⟨X, 0, none⟩)) rfl rfl (by kernel_rfl) (by kernel_rfl) (by kernel_rfl) (fun _ _ _ h => h) (Or.inl ⟨by kernel_rfl, fun w' hw' => by kernel_rfl⟩) ?_
    refine takeH hS (i := 2) (d := 31) (v := .pointer (some ⟨X, 3, none⟩)) rfl rfl (by kernel_rfl) (by kernel_rfl) (by kernel_rfl) (fun _ _ _ h => h) (Or.inl ⟨by kernel_rfl, fun w' hw' => by kernel_rfl⟩) ?_
    refine takeH hS (i := 3) (d := 32) (v := .map (some mb)) rfl rfl (by kernel_rfl) (by kernel_rfl) (by kernel_rfl) (fun _ _ _ h => h) (Or.inl ⟨by kernel_rfl, fun w' hw' => by exact exec_cellv _ rfl ⟨X, 3, none⟩ rfl (.map (some mb)) Try.underlying89 rfl (((HX3.out.kept hw' HnX3.out).cell 3).trans (rfl))⟩) ?_
    try go_frame
    refine takeH hS (i := 4) (d := 33) (v := .agg (#[.int .i64 e.zone, .int .i64 e.off])) rfl rfl (by kernel_rfl) (by kernel_rfl) (by kernel_rfl) (fun _ _ _ h => h) (Or.inl ⟨by kernel_rfl, fun w' hw' => by exact exec_load _ rfl (Y) rfl (HK3.out.kept hw' HnK3.out) Try.underlying102 rfl (Try.infoPl)⟩) ?_
    refine takeH hS (i := 5) (d := 34) (v := .pointer (some ⟨Z, 0, none⟩)) rfl rfl (by kernel_rfl) (by kernel_rfl) (by kernel_rfl) (fun _ _ _ h => h) (Or.inl ⟨by kernel_rfl, fun w' hw' => by kernel_rfl⟩) ?_
    refine takeH hS (i := 6) (d := 35) (v := .agg (bA (S.M e.zone e.off).1)) rfl rfl (by kernel_rfl) (by kernel_rfl) (by kernel_rfl) (fun _ _ _ h => h) (Or.inl ⟨by kernel_rfl, fun w' hw' => by exact exec_load_b _ _ rfl Z 0 rfl (S.M e.zone e.off).1 _ (hm_range (HH3.out.kept hw' HnH3.out)) Try.underlying34 rfl (infoSecL H64.out.1)⟩) ?_
    refine takeH hS (i := 7) (d := 36) (v := .pointer (some ⟨w.heap.size, 4, none⟩)) rfl rfl (by kernel_rfl) (by kernel_rfl) (by kernel_rfl) (fun _ _ _ h => h) (Or.inl ⟨by kernel_rfl, fun w' hw' => by kernel_rfl⟩) ?_
    try go_frame
    refine takeH hS (i := 8) (d := 37) (v := .agg (bA e.p)) rfl rfl (by kernel_rfl) (by kernel_rfl) (by kernel_rfl) (fun _ _ _ h => h) (Or.inl ⟨by kernel_rfl, fun w' hw' => by exact exec_load_b _ _ rfl (w.heap.size) 4 rfl e.p _ (ev_range (HE3.out.kept hw' HnE3.out)) Try.underlying34 rfl (infoSecL He.out.len)⟩) ?_
    refine takeH hS (i := 10) (d := 39) (v := .pointer (some ⟨Z, 64, none⟩)) rfl rfl (by kernel_rfl) (by kernel_rfl) (by kernel_rfl) (fun _ _ _ h => h) (Or.inl ⟨by kernel_rfl, fun w' hw' => by kernel_rfl⟩) ?_
    refine takeH hS (i := 11) (d := 40) (v := .int .i64 ((S.M e.zone e.off).2)) rfl rfl (by kernel_rfl) (by kernel_rfl) (by kernel_rfl) (fun _ _ _ h => h) (Or.inl ⟨by kernel_rfl, fun w' hw' => by exact exec_cell _ rfl ⟨Z, 64, none⟩ rfl _ Try.underlying3 (((HH3.out.kept hw' HnH3.out).cell 64).trans (hmA_n H64.out.1))⟩) ?_
    refine takeH hS (i := 12) (d := 41) (v := .int .i64 ((S.M e.zone e.off).2 + 1)) rfl rfl (by kernel_rfl) (by kernel_rfl) (by kernel_rfl) (fun _ _ _ h => h) (Or.inl ⟨by kernel_rfl, fun w' hw' => by exact exec_add _ _ rfl ((S.M e.zone e.off).2) (1) ((S.M e.zone e.off).2 + 1) rfl rfl (rfl) (by omega)⟩) ?_
    try go_frame
    refine nextH (i := 9) rfl (by kernel_rfl) (by kernel_rfl) (fun K' hK => ?_)
    go_wp2_with fail
    refine (xor_any (S.M e.zone e.off).1 e.p w3.drew H64.out.1 He.out.len H64.out.2 He.out.lt).mono ?_
    rintro en w3c1 ⟨rfl, hb⟩
    have hS1 : Kept (· = mb) w3 w3c1 := kept_next hS hb
    have hB1 : Below w3.heap.size w3 w3c1 := bel_next hB0 hb
    refine hK.out _ _ ⟨hS1, ?_⟩
    clear hK K' hS hb hB0
    refine takeH hS1 (i := 13) (d := 42) (v := .agg (hmA (zx (S.M e.zone e.off).1 e.p 64, (S.M e.zone e.off).2 + 1))) rfl rfl (by kernel_rfl) (by kernel_rfl) (by kernel_rfl) (fun _ _ _ h => h) (Or.inl ⟨by kernel_rfl, fun w' hw' => by kernel_rfl⟩) ?_
    try go_frame
    refine nextH (i := 14) rfl (by kernel_rfl) (by kernel_rfl) (fun K' hK => ?_)
    refine wpo_storeF Try.keyPl kvP_inj Try.underlying89 _ _ _ rfl (e.zone, e.off) (zx (S.M e.zone e.off).1 e.p 64, (S.M e.zone e.off).2 + 1) HL.out rfl rfl rfl (HP3.out.mp.below hB1) (f' := fun k => if k = (e.zone, e.off) then some (zx (S.M e.zone e.off).1 e.p 64, (S.M e.zone e.off).2 + 1) else f k) (if_pos rfl) (fun k hk => if_neg hk) ?_
    intro w3c2 hm hq
    have Hm4 := Lib.hid hm
    have Hq4 := Lib.hid ((Kept.of_below (S := fun i => i = mb) hB1).trans hq)
    have hS2 : Kept (· = mb) w3 w3c2 := hS1.trans hq
    refine hK.out _ _ ⟨hS2, ?_⟩
    clear hK K' hm hq hS1
    change wpAnyH _ _ _ _ _ _ _ (Act.put _ none undef) _
    refine wpAnyH_done (by kernel_rfl) ?_ _
    try go_frame
    have HMt : Hid (PdTo lo w3 X (PdF X D vz ve l1 mb) ⟨⟨(spSp S.R.d S.R.zs e.zone e.off e.p).d, (spSp S.R.d S.R.zs e.zone e.off e.p).zs, S.R.cs, S.R.h⟩, mkS S.M e.zone e.off e.p⟩ w3c2) := Lib.hid (HP3.out.mapTo Hm4.out Hq4.out (fun z o => ?_) (fun z o => ?_) (fun z o => ?_))
    rotate_left
    · unfold mkS
      by_cases hz : z = e.zone ∧ o = e.off
      · obtain ⟨rfl, rfl⟩ := hz
        simp
      · rw [if_neg hz]
        have : ¬ ((z, o) = (e.zone, e.off)) := fun h9 => hz (by simpa using h9)
        simp only [if_neg this]
        exact HP3.out.mkf z o
    · unfold mkS
      split
      · exact ⟨zx_length _ _ _, zx_lt (HP3.out.m64 z o).2 He.out.lt 64⟩
      · exact HP3.out.m64 z o
    · unfold mkS
      split
      · have q4 : 0 ≤ (S.M z o).2 := (HP3.out.mn z o).1
        exact ⟨by show (0 : Int) ≤ (S.M z o).2 + 1; omega, HM.out z o⟩
      · exact HP3.out.mn z o
    clear hS2
    go_wp2_with fail
    first | go_end0 | refine bodyPost_ret (results_none rfl _ _ _) rfl ?_
    exact ⟨rfl, by rw [HM'.out, if_pos HEE.out]; exact PdTo.after Hb0.out (PdTo.nextK Hk3.out Hf1.out HMt.out)⟩
  · have HNE := Lib.hid hE
    have HE0 : Hid ((!decide ((spSp S.R.d S.R.zs e.zone e.off e.p).e = 0)) = true) := Lib.hid (by rw [decide_eq_false hE]; rfl)
    clear hE
    refine wp_region_held (S := fun w' => Kept (DvF D vz l) w0 w') (by kernel_rfl) ?_
    change wpAnyH _ _ _ _ _ _ _ _ (World.drew _)
    have hS : Kept (DvF D vz l) w0 w0.drew := (Kept.refl _ _).drew
    have hB0 : Below w0.heap.size w0 w0.drew := (Below.refl _ _).drew
    refine takeH hS (i := 0) (d := 6) (v := .pointer (some ⟨X, 0, none⟩)) rfl rfl (by kernel_rfl) (by kernel_rfl) (by kernel_rfl) (fun _ _ _ h => h) (Or.inl ⟨by kernel_rfl, fun w' hw' => by kernel_rfl⟩) ?_
    refine takeH hS (i := 1) (d := 7) (v := .pointer (some ⟨X, 0, none⟩)) rfl rfl (by kernel_rfl) (by kernel_rfl) (by kernel_rfl) (fun _ _ _ h => h) (Or.inl ⟨by kernel_rfl, fun w' hw' => by kernel_rfl⟩) ?_
    refine takeH hS (i := 2) (d := 8) (v := .pointer (some ⟨X, 0, none⟩)) rfl rfl (by kernel_rfl) (by kernel_rfl) (by kernel_rfl) (fun _ _ _ h => h) (Or.inl ⟨by kernel_rfl, fun w' hw' => by kernel_rfl⟩) ?_
    refine takeH hS (i := 3) (d := 9) (v := .pointer (some ⟨D, 0, none⟩)) rfl rfl (by kernel_rfl) (by kernel_rfl) (by kernel_rfl) (fun _ _ _ h => h) (Or.inl ⟨by kernel_rfl, fun w' hw' => by exact exec_cellv _ rfl ⟨X, 0, none⟩ rfl (.pointer (some ⟨D, 0, none⟩)) Try.underlying45 rfl (((HX.out.kept hw' HnX.out).cell 0).trans (rfl))⟩) ?_
    try go_frame
    refine takeH hS (i := 4) (d := 10) (v := .pointer (some ⟨w.heap.size, 2, none⟩)) rfl rfl (by kernel_rfl) (by kernel_rfl) (by kernel_rfl) (fun _ _ _ h => h) (Or.inl ⟨by kernel_rfl, fun w' hw' => by kernel_rfl⟩) ?_
    refine takeH hS (i := 5) (d := 11) (v := .int .i64 (e.zone)) rfl rfl (by kernel_rfl) (by kernel_rfl) (by kernel_rfl) (fun _ _ _ h => h) (Or.inl ⟨by kernel_rfl, fun w' hw' => by exact exec_cell _ rfl ⟨w.heap.size, 2, none⟩ rfl _ Try.underlying3 (((HE.out.kept hw' HnE.out).cell 2).trans (evA_at2 e))⟩) ?_
    refine takeH hS (i := 6) (d := 12) (v := .pointer (some ⟨w.heap.size, 3, none⟩)) rfl rfl (by kernel_rfl) (by kernel_rfl) (by kernel_rfl) (fun _ _ _ h => h) (Or.inl ⟨by kernel_rfl, fun w' hw' => by kernel_rfl⟩) ?_
    refine takeH hS (i := 7) (d := 13) (v := .int .i64 (e.off)) rfl rfl (by kernel_rfl) (by kernel_rfl) (by kernel_rfl) (fun _ _ _ h => h) (Or.inl ⟨by kernel_rfl, fun w' hw' => by exact exec_cell _ rfl ⟨w.heap.size, 3, none⟩ rfl _ Try.underlying3 (((HE.out.kept hw' HnE.out).cell 3).trans (evA_at3 e))⟩) ?_
    try go_frame
    refine takeH hS (i := 8) (d := 14) (v := .pointer (some ⟨w.heap.size, 4, none⟩)) rfl rfl (by kernel_rfl) (by kernel_rfl) (by kernel_rfl) (fun _ _ _ h => h) (Or.inl ⟨by kernel_rfl, fun w' hw' => by kernel_rfl⟩) ?_
    refine takeH hS (i := 9) (d := 15) (v := .agg (bA e.p)) rfl rfl (by kernel_rfl) (by kernel_rfl) (by kernel_rfl) (fun _ _ _ h => h) (Or.inl ⟨by kernel_rfl, fun w' hw' => by exact exec_load_b _ _ rfl (w.heap.size) 4 rfl e.p _ (ev_range (HE.out.kept hw' HnE.out)) Try.underlying34 rfl (infoSecL He.out.len)⟩) ?_
    try go_frame
    refine nextH (i := 10) rfl (by kernel_rfl) (by kernel_rfl) (fun K' hK => ?_)
    go_wp2_with fail
    refine (csp8 HP.out.zs e.zone e.off e.p He.out.len He.out.lt (HP.out.dv.below hB0)).mono ?_
    rintro en w0c1 ⟨rfl, hT⟩
    have HT := Lib.hid (DvTo.after hB0 hT)
    have hS1 : Kept (DvF D vz l) w0 w0c1 := hS.trans (hT.keptF)
    refine hK.out _ _ ⟨hS1, ?_⟩
    clear hK K' hS
    refine takeH hS1 (i := 11) (d := 17) (v := .bool true) rfl rfl (by kernel_rfl) (by kernel_rfl) (by kernel_rfl) (fun _ _ _ h => h) (Or.inl ⟨by kernel_rfl, fun w' hw' => by exact exec_neq _ _ rfl ((spSp S.R.d S.R.zs e.zone e.off e.p).e) (0) rfl rfl true (HE0.out) rfl⟩) ?_
    refine wpAnyH_done (by kernel_rfl) ?_ _
    try go_frame
    have HF := Lib.hid (PdTo.after Hb0.out (HP.out.devTo HT.out))
    clear HX HnX HE0 HE HnE hS1 HT HP
    generalize w0c1 = w1 at *
    go_wp2_with fail
    first | go_end0 | refine bodyPost_ret (results_none rfl _ _ _) rfl ?_
    exact ⟨rfl, by rw [HM'.out, if_neg HNE.out]; exact HF.out⟩
end Go.Proofs.Ytajkajgnjcnolaa

