/-
  What the law CodecWrites is handed: a slice of items (a width, a number, bytes).
-/
import Derived.Test.YtamenbchebfplaaCodecD
import Derived.Deep.Slices
import Derived.Deep.Fields
import Derived.ChangeSame
namespace Go.Proofs.Ytamenbchebfplaa
open Go.RowKit CrcM
set_option linter.unusedVariables false
set_option linter.unnecessarySimpa false
set_option linter.unusedSimpArgs false

/-- An item as it reads. -/
structure ItemR where
  wd : Int
  v : Int
  a : Option Addr
  n : Nat
  c : Nat
  bs : List Nat
  deriving Inhabited

/-- An item's three cells from a place on. -/
structure ItemAt (w : World) (b off : Nat) (x : ItemR) : Prop where
  wd : w.cell? ⟨b, off, none⟩ = some (.int .i64 x.wd)
  v : w.cell? ⟨b, off + 1, none⟩ = some (.int .i64 x.v)
  bytes : w.cell? ⟨b, off + 2, none⟩ = some (.slice x.a x.n x.c)
  row : RowB w x.a x.n x.c x.bs
  wfd : (Lit.int .i64 x.wd).wf = true
  wfv : (Lit.int .i64 x.v).wf = true

/-- A slice of items. -/
structure RowIt (w : World) (a : Option Addr) (len cap : Nat) (f : Nat → ItemR) : Prop where
  le : len ≤ cap
  max : cap ≤ maxLen
  cells : 0 < len → ∃ b off, a = some ⟨b, off, none⟩ ∧ ∀ i, i < len → ItemAt w b (off + i * 3) (f i)

theorem ItemAt.below {w w' : World} {b off : Nat} {x : ItemR} (h : ItemAt w b off x) (hb : Below w.heap.size w w') : ItemAt w' b off x := by
  obtain ⟨h1, h2, h3, h4, h5, h6⟩ := h
  have hl := block_lt_of_cell h1
  exact ⟨(hb.cell (p := ⟨b, off, none⟩) hl).trans h1, (hb.cell (p := ⟨b, off + 1, none⟩) hl).trans h2, (hb.cell (p := ⟨b, off + 2, none⟩) hl).trans h3, h4.below hb, h5, h6⟩

theorem RowIt.below {w w' : World} {a : Option Addr} {len cap : Nat} {f : Nat → ItemR} (h : RowIt w a len cap f) (hb : Below w.heap.size w w') : RowIt w' a len cap f := by
  obtain ⟨h1, h2, h3⟩ := h
  refine ⟨h1, h2, fun h0 => ?_⟩
  obtain ⟨b, off, rfl, hc⟩ := h3 h0
  exact ⟨b, off, rfl, fun i hi => (hc i hi).below hb⟩

section
open Go.ChangeShapes Go.WideShapes
variable {H : Type} {enc : TypeId × Value → H} {w : World}

theorem open_bytes {fuel : Nat} {cs : List Value} {x : DataW H × List MemPlace} (hf : DataW.trod enc Try.prog w 0 (fun _ => true) true fuel 25 cs = some x) : ∃ a n c bs, cs = [.slice a n c] ∧ RowB w a n c bs := by
  rcases open_ints Try.underlying25 Try.underlying5 (by kernel_rfl) hf with ⟨hcs, _⟩ | ⟨x, l, c, zs, hcs, _, hl, hm, hz, _, hcell, hwz⟩
  · exact ⟨none, 0, 0, [], hcs, row_nil w⟩
  · obtain ⟨bs, h⟩ := row_of_ints hl hm (by simpa using hz) hcell hwz
    exact ⟨some x, l, c, bs, hcs, h⟩

theorem Try.cellsItem : Try.prog.cellsOf 29 = 3 := by kernel_rfl
theorem Try.cellsInt : Try.prog.cellsOf 3 = 1 := by kernel_rfl
theorem Try.cellsBytes : Try.prog.cellsOf 25 = 1 := by kernel_rfl

theorem open_items {fuel : Nat} {a : Option Addr} {len cap : Nat} {x : DataW H × List MemPlace} (h : DataW.trod enc Try.prog w 0 (fun _ => true) true fuel 22 [.slice a len cap] = some x) : ∃ f, RowIt w a len cap f := by
  rcases Go.Deep.open_slice Try.underlying22 h with ⟨hcs, _⟩ | ⟨ad, l, c, m, n, D, Pl, hcs, hb, hl, hm, hmm, hx, hi⟩
  · simp at hcs
    obtain ⟨rfl, rfl, rfl⟩ := hcs
    exact ⟨fun _ => default, Nat.le_refl _, Nat.zero_le _, fun h => absurd h (by decide)⟩
  · simp at hcs
    obtain ⟨rfl, rfl, rfl⟩ := hcs
    have hle : len ≤ m := by rw [hmm]; simpa using hl
    rw [Try.cellsItem] at hi
    have hall : ∀ i, i < len → ∃ it : ItemR, w.cell? (ad.add (i * 3)) = some (.int .i64 it.wd) ∧ w.cell? ((ad.add (i * 3)).add 1) = some (.int .i64 it.v) ∧ w.cell? ((ad.add (i * 3)).add 2) = some (.slice it.a it.n it.c) ∧ RowB w it.a it.n it.c it.bs ∧ (Lit.int .i64 it.wd).wf = true ∧ (Lit.int .i64 it.v).wf = true := fun i hil => by
      obtain ⟨cs', hc, ht⟩ := hi i (by omega)
      obtain ⟨_, hlen, hcell⟩ := World.cells?_some hc
      obtain ⟨ys, n', _, _, _, hyl, hf⟩ := DataW.trod_struct Try.underlying29 ht
      match cs', hlen with
      | [c0, c1, c2], _ =>
        have k0 := hcell 0 (by decide)
        have k1 := hcell 1 (by decide)
        have k2 := hcell 2 (by decide)
        match ys, hyl with
        | [y0, y1, y2], _ =>
          have g0 : DataW.trod enc Try.prog w 0 (fun _ => true) true n' 3 (List.take (Try.prog.cellsOf 3) [c0, c1, c2]) = some y0 := hf 0 _ rfl
          have g1 : DataW.trod enc Try.prog w 0 (fun _ => true) true n' 3 (List.take (Try.prog.cellsOf 3) [c1, c2]) = some y1 := hf 1 _ rfl
          have g2 : DataW.trod enc Try.prog w 0 (fun _ => true) true n' 25 (List.take (Try.prog.cellsOf 25) [c2]) = some y2 := hf 2 _ rfl
          rw [Try.cellsInt] at g0 g1
          rw [Try.cellsBytes] at g2
          simp only [List.getElem?_cons_zero, List.getElem?_cons_succ] at k0 k1 k2
          obtain ⟨z0, e0, _, f0⟩ := DataW.trod_int Try.underlying3 g0
          obtain ⟨z1, e1, _, f1⟩ := DataW.trod_int Try.underlying3 g1
          obtain ⟨a2, n2, q2, bs2, e2, r2⟩ := open_bytes g2
          simp at e0 e1 e2
          subst e0 e1 e2
          exact ⟨⟨z0, z1, a2, n2, q2, bs2⟩, by simpa [Addr.add] using k0, k1, k2, r2, f0, f1⟩
    obtain ⟨f, hf⟩ := Go.Deep.choose_lt hall
    refine ⟨f, hl, hm, fun h0 => ?_⟩
    obtain ⟨b, off, spot⟩ := ad
    have hs : spot = none := by
      have h := (hf 0 h0).1
      simpa [Addr.add] using World.cell?_spot h
    subst hs
    refine ⟨b, off, rfl, fun i hil => ?_⟩
    obtain ⟨h1, h2, h3, h4, h5, h6⟩ := hf i hil
    have e : (⟨b, off, none⟩ : Addr).add (i * 3) = ⟨b, off + i * 3, none⟩ := Addr.add_mid b off (i * 3)
    rw [e] at h1 h2 h3
    exact ⟨h1, h2, h3, h4, h5, h6⟩
end

/-- What the first k items write. -/
def wrote (f : Nat → ItemR) : Nat → List Nat
  | 0 => []
  | k + 1 => wrote f k ++ (if (f k).wd = 0 then (f k).bs else leb (f k).wd.toNat (f k).v.toNat)
/-- Is item k one that fits? -/
def itFits (x : ItemR) : Bool := decide (x.wd = 0) || fitB x.wd x.v

theorem wrote_lt (f : Nat → ItemR) (n : Nat) (h : ∀ k, k < n → ∀ c ∈ (f k).bs, c < 256) : ∀ k, k ≤ n → ∀ c ∈ wrote f k, c < 256 := by
  intro k
  induction k with
  | zero => intro _ c hc; cases hc
  | succ k ih =>
    intro hk c hc
    rcases List.mem_append.1 hc with h1 | h1
    · exact ih (by omega) c h1
    · split at h1
      · exact h k (by omega) c h1
      · exact leb_lt _ _ c h1

end Go.Proofs.Ytamenbchebfplaa
