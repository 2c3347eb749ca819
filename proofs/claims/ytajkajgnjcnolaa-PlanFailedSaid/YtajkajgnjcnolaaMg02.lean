import Derived.Test.YtajkajgnjcnolaaProg
import Derived.Test.YtajkajgnjcnolaaMg01
import Derived.WalkKit
import Derived.WalkSpells
import Derived.WalkLawsBesides
import Derived.Lib.Hide
import Derived.Laws.BitsAllLaws
import Derived.Laws.CopyOwn
import Derived.Laws.AppendOwnNone
import Derived.Maps.AppendAt
import Derived.Deep.MidRow
import Derived.Deep.RegionHeld3
import Derived.Deep.QuietTactic
import Derived.BigQuiet
import Derived.Lib.SlBytesConst
import Derived.OpenShut
import Derived.Maps.OwnSet
/-
  Slices of bytes: what they read; rows that a call itself made: appended to, written, sliced, copied.
-/
namespace Go.Proofs.Ytajkajgnjcnolaa
open Go.RowKit CrcM
set_option linter.unusedVariables false
set_option linter.unnecessarySimpa false
set_option linter.unusedSimpArgs false

/-- A slice of bytes: what it reads. -/
structure RowB (w : World) (a : Option Addr) (len cap : Nat) (bs : List Nat) : Prop where
  length : bs.length = len
  le : len ≤ cap
  max : cap ≤ maxLen
  lt : ∀ c ∈ bs, c < 256
  cells : 0 < len → ∃ b off, a = some ⟨b, off, none⟩ ∧ ∀ i, i < len → w.cell? ⟨b, off + i, none⟩ = some (.int .u8 (bs.getD i 0 : Nat))
  nil : a = none → cap = 0

theorem take_snoc_nat (bs : List Nat) (k : Nat) (h : k < bs.length) : bs.take (k + 1) = bs.take k ++ [bs.getD k 0] := by
  rw [List.take_succ_eq_append_getElem h]; simp [List.getD, h]

theorem getD_lt {bs : List Nat} (hb : ∀ c ∈ bs, c < 256) (k : Nat) : bs.getD k 0 < 256 := by
  by_cases h : k < bs.length
  · have : bs.getD k 0 = bs[k] := by simp [List.getD, h]
    rw [this]; exact hb _ (List.getElem_mem _)
  · simp [List.getD, h]

theorem RowB.below {w w' : World} {a : Option Addr} {len cap : Nat} {bs : List Nat} (h : RowB w a len cap bs) (hb : Below w.heap.size w w') : RowB w' a len cap bs := by
  obtain ⟨h1, h2, h3, h4, h5, h6⟩ := h
  refine ⟨h1, h2, h3, h4, fun h0 => ?_, h6⟩
  obtain ⟨b, off, rfl, hc⟩ := h5 h0
  refine ⟨b, off, rfl, fun i hi => ?_⟩
  have hlt := block_lt_of_cell (hc i hi)
  exact (hb.cell (p := ⟨b, off + i, none⟩) hlt).trans (hc i hi)

theorem row_one (w : World) (g c : Nat) (t : TypeId) (hc : c < 256) (h : w.heap[g]? = some (.cells #[.int .u8 (c : Nat)] t (0, 0))) : RowB w (some ⟨g, 0, none⟩) 1 1 [c] := by
  refine ⟨rfl, Nat.le_refl _, by unfold maxLen; omega, by simpa using hc, fun _ => ⟨g, 0, rfl, fun i hi => ?_⟩, fun h => by cases h⟩
  obtain rfl : i = 0 := by omega
  rw [cell_of_row w g _ _ t _ h]; rfl

theorem row_of_heap {w : World} {g cap : Nat} {bs : List Nat} {C : Array Value} {t : TypeId} {fr : Nat × Nat} (h : w.heap[g]? = some (.cells C t fr)) (hC : C.toList.take bs.length = bs.map fun c => Value.int .u8 (c : Nat))
    (hb : ∀ c ∈ bs, c < 256) (hc : bs.length ≤ cap) (hm : cap ≤ maxLen) : RowB w (some ⟨g, 0, none⟩) bs.length cap bs := by
  refine ⟨rfl, hc, hm, hb, fun _ => ⟨g, 0, rfl, fun i hi => ?_⟩, fun h => by cases h⟩
  rw [cell_of_row w g _ C t fr h, Nat.zero_add]
  have e : (C.toList.take bs.length)[i]? = C[i]? := by rw [List.getElem?_take_of_lt hi]; simp
  rw [← e, hC]
  simp [hi, List.getD]

theorem row_nil (w : World) : RowB w none 0 0 [] := ⟨rfl, Nat.le_refl _, Nat.zero_le _, by simp, fun h => absurd h (by decide), fun _ => rfl⟩

theorem row_of_ints {w : World} {x : Addr} {l c : Nat} {zs : List Int} (hl : l ≤ c) (hm : c ≤ maxLen) (hz : zs.length = c)
    (hcell : ∀ i, i < zs.length → w.cell? (x.add i) = some (.int .u8 (zs.getD i 0))) (hwz : ∀ n ∈ zs, (Lit.int .u8 n).wf = true) : ∃ bs, RowB w (some x) l c bs := by
  refine ⟨(zs.take l).map Int.toNat, by simp; omega, hl, hm, fun c hc => ?_, fun h0 => ?_, fun h => by cases h⟩
  · obtain ⟨n, hn, rfl⟩ := List.mem_map.1 hc
    have := bounds_u8 (hwz n (List.mem_of_mem_take hn))
    omega
  · obtain ⟨b, off, rfl, h⟩ := ints_at hcell (by omega)
    refine ⟨b, off, rfl, fun i hi => ?_⟩
    rw [h i (by omega)]
    have hb := range_u8 hwz i
    have e : ((zs.take l).map Int.toNat).getD i 0 = (zs.getD i 0).toNat := by
      simp [List.getD, List.getElem?_take_of_lt hi]
      cases zs[i]? <;> simp
    rw [e]
    have e2 : zs.getD i 0 = zs[i]?.getD 0 := rfl
    rw [e2] at *
    congr 2
    omega

/-- Bytes as values. -/
def bvals (bs : List Nat) : List Value := bs.map fun c => Value.int .u8 (c : Nat)

theorem bvals_length (bs : List Nat) : (bvals bs).length = bs.length := by simp [bvals]

theorem bvals_at (bs : List Nat) (i : Nat) (h : i < bs.length) : (bvals bs)[i]? = some (.int .u8 (bs.getD i 0 : Nat)) := by simp [bvals, h, List.getD]

theorem bvals_append (a b : List Nat) : bvals (a ++ b) = bvals a ++ bvals b := by simp [bvals]

theorem bvals_one (bs : List Nat) : ∀ u ∈ bvals bs, u.oneCell' = true := by
  intro u hu; obtain ⟨c, _, rfl⟩ := List.mem_map.1 hu; rfl

theorem bvals_set (bs : List Nat) (i x : Nat) : (bvals bs).set i (.int .u8 (x : Nat)) = bvals (bs.set i x) := by simp [bvals, List.map_set]

theorem Try.infoByte : (Try.prog.info? 5).map (fun i => (i.zero, i.size, i.bytes)) = some (some (.int .u8 0), 1, 1) := by kernel_rfl

/-- What a row's cells give. -/
theorem RowB.src {w : World} {a : Option Addr} {len cap : Nat} {bs : List Nat} (h : RowB w a len cap bs) (ad : Addr) (ha : a = some ad) :
    ∀ j u, (bvals bs)[j]? = some u → w.cell? (ad.add j) = some u := by
  intro j u hu
  have hj : j < bs.length := by
    by_cases hj : j < bs.length
    · exact hj
    · rw [List.getElem?_eq_none (by rw [bvals_length]; omega)] at hu; cases hu
  rw [bvals_at bs j hj] at hu
  have hlen := h.length
  obtain ⟨b, off, hab, hc⟩ := h.cells (by omega)
  rw [ha] at hab
  obtain rfl := Option.some.inj hab
  have hadd : (⟨b, off, none⟩ : Addr).add j = ⟨b, off + j, none⟩ := Addr.add_mid b off j
  rw [hadd, hc j (by omega)]
  exact hu

theorem own_row {w : World} {base : Nat} {v : Value} {n : Nat} {bs : List Nat} (h : w.ownsRow base 5 1 v n (bvals bs)) (hb : ∀ c ∈ bs, c < 256) :
    ∃ a cap, v = .slice a n cap ∧ RowB w a n cap bs := by
  have hl : bs.length = n := by have := h.1; rw [bvals_length] at this; omega
  rcases h.2 with ⟨rfl, rfl⟩ | ⟨g, cap, cur, rfl, _, hg, hn, hm, hs, ht⟩
  · exact ⟨none, 0, rfl, hl, Nat.le_refl _, Nat.zero_le _, hb, fun h => absurd h (by decide), fun _ => rfl⟩
  · refine ⟨some ⟨g, 0, none⟩, cap, rfl, hl, hn, hm, hb, fun _ => ⟨g, 0, rfl, fun i hi => ?_⟩, fun h => by cases h⟩
    rw [cell_of_row w g _ cur _ _ hg, Nat.zero_add]
    have e : (cur.toList.take (n * 1))[i]? = cur[i]? := by rw [List.getElem?_take_of_lt (by omega)]; simp
    rw [← e, ht, bvals_at bs i (by omega)]

theorem own_some {w : World} {base : Nat} {v : Value} {n : Nat} {bs : List Nat} (h : w.ownsRow base 5 1 v n (bvals bs)) (hb : ∀ c ∈ bs, c < 256) (h0 : 0 < n) :
    ∃ g cap, v = .slice (some ⟨g, 0, none⟩) n cap ∧ base ≤ g ∧ RowB w (some ⟨g, 0, none⟩) n cap bs ∧ ∀ j, w.frozen? ⟨g, j, none⟩ = false := by
  have hl : bs.length = n := by have := h.1; rw [bvals_length] at this; omega
  obtain ⟨a, cap', hv, hr⟩ := own_row h hb
  rcases h.2 with ⟨rfl, rfl⟩ | ⟨g, cap, cur, rfl, hbg, hg, hn, hm, hs, ht⟩
  · omega
  · obtain ⟨rfl, -, rfl⟩ : some (⟨g, 0, none⟩ : Addr) = a ∧ True ∧ cap = cap' := by simpa using hv
    exact ⟨g, cap, rfl, hbg, hr, fun j => frozen_of_row w g j cur _ hg⟩

theorem own_made (w : World) (n base : Nat) (hn : w.heap.size = n) (hb : base ≤ n) : (w.alloc (Obj.cells #[] 5)).ownsRow base 5 1 (.slice (some ⟨n, 0, none⟩) 0 0) 0 (bvals []) := by
  subst hn
  exact World.ownsRow_made w #[] 0 hb (Nat.zero_le _) rfl

/-- One byte of a row is written. -/
theorem RowB.set {w : World} {g n cap : Nat} {bs : List Nat} (h : RowB w (some ⟨g, 0, none⟩) n cap bs) (i x : Nat) (hi : i < n) (hx : x < 256) :
    RowB (w.setCell ⟨g, i, none⟩ (.int .u8 (x : Nat))) (some ⟨g, 0, none⟩) n cap (bs.set i x) := by
  have hl := h.length
  refine ⟨by rw [List.length_set]; exact hl, h.le, h.max, set_lt h.lt hx, fun h0 => ?_, h.nil⟩
  obtain ⟨b, off, hab, hc⟩ := h.cells h0
  obtain ⟨rfl, rfl⟩ : g = b ∧ 0 = off := by simpa using hab
  refine ⟨g, 0, rfl, fun j hj => ?_⟩
  have hcj := hc j hj
  rw [Nat.zero_add] at *
  by_cases e : i = j
  · subst e
    rw [World.cell?_setCell_same _ _ _ hcj]
    simp [List.getD, List.getElem?_set, hl, hi]
  · rw [World.cell?_setCell_other _ _ _ _ (by simp [e]), hcj]
    simp [List.getD, List.getElem?_set, e]

theorem RowB.at0 {w : World} {g n cap : Nat} {bs : List Nat} (h : RowB w (some ⟨g, 0, none⟩) n cap bs) (i : Nat) (hi : i < n) : w.cell? ⟨g, i, none⟩ = some (.int .u8 (bs.getD i 0 : Nat)) := by
  obtain ⟨b, off, hab, hc⟩ := h.cells (by omega)
  obtain ⟨rfl, rfl⟩ : g = b ∧ 0 = off := by simpa using hab
  have := hc i hi
  rwa [Nat.zero_add] at this

/-- A row in another block is as it was. -/
theorem RowB.set_far {w : World} {a : Option Addr} {g i n cap : Nat} {bs : List Nat} {v : Value} (h : RowB w a n cap bs) (hg : ∀ ad, a = some ad → ad.block ≠ g) :
    RowB (w.setCell ⟨g, i, none⟩ v) a n cap bs := by
  refine ⟨h.length, h.le, h.max, h.lt, fun h0 => ?_, h.nil⟩
  obtain ⟨b, off, rfl, hc⟩ := h.cells h0
  have := hg _ rfl
  exact ⟨b, off, rfl, fun j hj => by rw [World.cell?_setCell_other _ _ _ _ (by simp; intro e; exact absurd e.symm this)]; exact hc j hj⟩

theorem RowB.block {w : World} {a : Option Addr} {n cap : Nat} {bs : List Nat} (h : RowB w a n cap bs) (h0 : 0 < n) : ∃ ad, a = some ad ∧ ad.block < w.heap.size := by
  obtain ⟨b, off, rfl, hc⟩ := h.cells h0
  exact ⟨_, rfl, block_lt_of_cell (hc 0 h0)⟩

/-- A row of bytes that the call made. -/
def bA (bs : List Nat) : Array Value := (bvals bs).toArray

theorem bA_size (bs : List Nat) : (bA bs).size = bs.length := by simp [bA, bvals]

theorem bA_at (bs : List Nat) (i : Nat) (h : i < bs.length) : (bA bs)[i]? = some (.int .u8 (bs.getD i 0 : Nat)) := by
  unfold bA; rw [List.getElem?_toArray]; exact bvals_at bs i h

theorem bA_set (bs : List Nat) (i x : Nat) : (bA bs).setIfInBounds i (.int .u8 (x : Nat)) = bA (bs.set i x) := by
  unfold bA; rw [← bvals_set]; simp

theorem row_bA {w : World} {g : Nat} {bs : List Nat} {t : TypeId} {fr : Nat × Nat} (h : w.heap[g]? = some (.cells (bA bs) t fr)) (hb : ∀ c ∈ bs, c < 256) (hm : bs.length ≤ maxLen) :
    RowB w (some ⟨g, 0, none⟩) bs.length bs.length bs := row_of_heap h (by simp only [bA, bvals]; exact List.take_of_length_le (by simp)) hb (Nat.le_refl _) hm

def zeros (n : Nat) : List Nat := List.replicate n 0

theorem zeros_length (n : Nat) : (zeros n).length = n := by simp [zeros]

theorem zeros_lt (n : Nat) : ∀ c ∈ zeros n, c < 256 := by intro c hc; rw [(List.mem_replicate.1 hc).2]; decide

theorem bne_int {a b : Nat} (h : a ≠ b) : ((a : Int) != (b : Int)) = true := by rw [bne_iff_ne]; omega

theorem bne_same (a : Nat) : ((a : Int) != (a : Int)) = false := by simp

/-- Where a slice from a place on begins. -/
def slAddr (a : Option Addr) (cap lo : Nat) : Option Addr := if cap = lo then a else a.map (·.add lo)

/-- A row whose capacity is told less. -/
theorem RowB.recap {w : World} {a : Option Addr} {len cap : Nat} {bs : List Nat} (h : RowB w a len cap bs) (c : Nat) (h1 : len ≤ c) (h2 : c ≤ cap) : RowB w a len c bs :=
  ⟨h.length, h1, Nat.le_trans h2 h.max, h.lt, h.cells, fun e => by have := h.nil e; omega⟩

theorem RowB.to {w : World} {a : Option Addr} {len cap : Nat} {bs : List Nat} (h : RowB w a len cap bs) (n : Nat) (hn : n ≤ len) : RowB w a n cap (bs.take n) := by
  have hl := h.length
  refine ⟨by simp; omega, Nat.le_trans hn h.le, h.max, fun c hc => h.lt c (List.mem_of_mem_take hc), fun h0 => ?_, h.nil⟩
  obtain ⟨b, off, rfl, hc⟩ := h.cells (by omega)
  refine ⟨b, off, rfl, fun i hi => ?_⟩
  rw [hc i (by omega)]
  simp [List.getD, List.getElem?_take_of_lt hi]

theorem RowB.from {w : World} {a : Option Addr} {len cap : Nat} {bs : List Nat} (h : RowB w a len cap bs) (lo : Nat) (hn : lo ≤ len) : RowB w (slAddr a cap lo) (len - lo) (cap - lo) (bs.drop lo) := by
  have hl := h.length
  have hle := h.le
  refine ⟨by simp; omega, by omega, by have := h.max; omega, fun c hc => h.lt c (List.mem_of_mem_drop hc), fun h0 => ?_, fun hn => ?_⟩
  · obtain ⟨b, off, rfl, hc⟩ := h.cells (by omega)
    refine ⟨b, off + lo, ?_, fun i hi => ?_⟩
    · unfold slAddr; rw [if_neg (by omega)]; simp [Addr.add_mid]
    · rw [Nat.add_assoc, hc (lo + i) (by omega)]
      simp [List.getD, List.getElem?_drop]
  · unfold slAddr at hn
    split at hn
    · omega
    · have : a = none := by cases a <;> simp_all
      have := h.nil this
      omega

theorem infoByteSize : (Try.prog.info? 5).map (·.size) = some 1 := by kernel_rfl

theorem RowB.kept {S : Nat → Prop} {w w' : World} {a : Option Addr} {len cap : Nat} {bs : List Nat} (h : RowB w a len cap bs) (k : Kept S w w') (hn : 0 < len → ∀ ad, a = some ad → ¬ S ad.block) : RowB w' a len cap bs := by
  obtain ⟨h1, h2, h3, h4, h5, h6⟩ := h
  refine ⟨h1, h2, h3, h4, fun h0 => ?_, h6⟩
  obtain ⟨b, off, rfl, hc⟩ := h5 h0
  refine ⟨b, off, rfl, fun i hi => ?_⟩
  have hlt := block_lt_of_cell (hc i hi)
  exact (World.cell?_of_block (w := w) (w' := w') (a := ⟨b, off + i, none⟩) (k.block b hlt (hn h0 _ rfl))).trans (hc i hi)

/-- A row told with a lower bound of its block. -/
theorem row_of_blk {w : World} {g : Nat} {bs : List Nat} {t : TypeId} (h : Blk w g t (bA bs)) (hb : ∀ c ∈ bs, c < 256) (n : Nat) (hn : bs.length = n) (hm : n ≤ 1000000000) : RowB w (some ⟨g, 0, none⟩) n n bs := by
  subst hn; exact row_bA h hb (by unfold maxLen; omega)

theorem RowB.drewN {w : World} {a : Option Addr} {len cap : Nat} {bs : List Nat} (h : RowB w a len cap bs) (n : Nat) : RowB (w.drewN n) a len cap bs := h.below (below_drewN (Below.refl _ _) n)

/-- A slice of ints: what it reads. -/
structure RowZ (w : World) (a : Option Addr) (len cap : Nat) (zs : List Int) : Prop where
  length : zs.length = len
  le : len ≤ cap
  max : cap ≤ maxLen
  wf : ∀ z ∈ zs, (Lit.int .i64 z).wf = true
  cells : 0 < len → ∃ b off, a = some ⟨b, off, none⟩ ∧ ∀ i, i < len → w.cell? ⟨b, off + i, none⟩ = some (.int .i64 (zs.getD i 0))
  nil : a = none → cap = 0

theorem rowZ_nil (w : World) : RowZ w none 0 0 [] := ⟨rfl, Nat.le_refl _, Nat.zero_le _, by simp, fun h => absurd h (by decide), fun _ => rfl⟩

theorem rowZ_of_ints {w : World} {x : Addr} {l c : Nat} {zs : List Int} (hl : l ≤ c) (hm : c ≤ maxLen) (hz : zs.length = c)
    (hcell : ∀ i, i < zs.length → w.cell? (x.add i) = some (.int .i64 (zs.getD i 0))) (hwz : ∀ n ∈ zs, (Lit.int .i64 n).wf = true) : ∃ ys, RowZ w (some x) l c ys := by
  refine ⟨zs.take l, by simp; omega, hl, hm, fun c hc => hwz c (List.mem_of_mem_take hc), fun h0 => ?_, fun h => by cases h⟩
  obtain ⟨b, off, rfl, h⟩ := ints_at hcell (by omega)
  refine ⟨b, off, rfl, fun i hi => ?_⟩
  rw [h i (by omega)]
  simp [List.getD, List.getElem?_take_of_lt hi]

theorem RowZ.below {w w' : World} {a : Option Addr} {len cap : Nat} {zs : List Int} (h : RowZ w a len cap zs) (hb : Below w.heap.size w w') : RowZ w' a len cap zs := by
  obtain ⟨h1, h2, h3, h4, h5, h6⟩ := h
  refine ⟨h1, h2, h3, h4, fun h0 => ?_, h6⟩
  obtain ⟨b, off, rfl, hc⟩ := h5 h0
  refine ⟨b, off, rfl, fun i hi => ?_⟩
  have hlt := block_lt_of_cell (hc i hi)
  exact (hb.cell (p := ⟨b, off + i, none⟩) hlt).trans (hc i hi)

theorem bounds_i64 {z : Int} (h : (Lit.int .i64 z).wf = true) : -9223372036854775808 ≤ z ∧ z ≤ 9223372036854775807 := by
  simp only [Lit.wf, IntKind.min, IntKind.max, IntKind.signed, IntKind.bits, Bool.and_eq_true, decide_eq_true_eq, if_true] at h
  omega

theorem RowZ.bounds {w : World} {a : Option Addr} {len cap : Nat} {zs : List Int} (h : RowZ w a len cap zs) (i : Nat) : -9223372036854775808 ≤ zs.getD i 0 ∧ zs.getD i 0 ≤ 9223372036854775807 := by
  by_cases hi : i < zs.length
  · have e : zs.getD i 0 = zs[i] := by simp [List.getD, hi]
    rw [e]; exact bounds_i64 (h.wf _ (List.getElem_mem _))
  · have e : zs.getD i 0 = 0 := by simp [List.getD, hi]
    rw [e]; omega

end Go.Proofs.Ytajkajgnjcnolaa

/-
  A map that the program keeps, as a partial function of its keys: laid, read, written, struck from. Keys and elements of any plain shape. No Go text here.
-/
namespace Go.Proofs.Ytajkajgnjcnolaa
open Go.RowKit Go.Maps Go.MapKept Go.ChangeMaps
set_option linter.unusedVariables false
set_option linter.unnecessarySimpa false
set_option linter.unusedSimpArgs false

section
variable {κ ε : Type}
/-- Block b is a map of at most n entries; what it has is f; kv, el: how keys and elements lie. -/
def MapF (P : Program) (k : TypeId) (kv : κ → Value) (el : ε → Value) (w : World) (b n : Nat) (f : κ → Option ε) : Prop :=
  ∃ es clock, w.heap[b]? = some (.map es clock) ∧ es.size ≤ n ∧ (∀ e ∈ es.toList, ∃ l, keyOf P k e.key = some l) ∧ es.toList.Pairwise (fun x y => x.key ≠ y.key) ∧
    (∀ e ∈ es.toList, ∃ x y, e.key = kv x ∧ e.val = el y ∧ f x = some y) ∧ ∀ x, (∀ e ∈ es.toList, e.key ≠ kv x) → f x = none

variable {P : Program} {k : TypeId} {kv : κ → Value} {el : ε → Value} {w w' : World} {b n : Nat} {f f' : κ → Option ε}
theorem MapF.made (P : Program) (k : TypeId) (kv : κ → Value) (el : ε → Value) (w : World) : MapF P k kv el (w.alloc (.map #[] 0)) w.heap.size 0 (fun _ => none) :=
  ⟨#[], 0, (MapKept.heap_alloc w _).1, Nat.le_refl _, by simp, by simp, by simp, fun _ _ => rfl⟩
theorem MapF.lt (h : MapF P k kv el w b n f) : b < w.heap.size := by
  obtain ⟨es, clock, hb, _⟩ := h
  exact (Array.getElem?_eq_some_iff.1 hb).1
theorem MapF.kept {S : Nat → Prop} (h : MapF P k kv el w b n f) (hk : Kept S w w') (hn : ¬ S b) : MapF P k kv el w' b n f := by
  have hlt := h.lt
  obtain ⟨es, clock, hb, r⟩ := h
  exact ⟨es, clock, (hk.block b hlt hn).trans hb, r⟩
theorem MapF.below (h : MapF P k kv el w b n f) (hb : Below w.heap.size w w') : MapF P k kv el w' b n f := h.kept (Kept.of_below (S := fun _ => False) hb) (fun h => h)
theorem MapF.mono (h : MapF P k kv el w b n f) {n' : Nat} (hn : n ≤ n') : MapF P k kv el w b n' f := by
  obtain ⟨es, clock, hb, hs, r⟩ := h
  exact ⟨es, clock, hb, Nat.le_trans hs hn, r⟩
/-- No row of cells is the map's block. -/
theorem MapF.notblk {g : Nat} {t : TypeId} {cs : Array Value} (h : MapF P k kv el w b n f) (hg : Blk w g t cs) : g ≠ b := by
  rintro rfl
  obtain ⟨es, clock, hb, _⟩ := h
  have h2 : w.heap[g]? = some (.cells cs t (0, 0)) := hg
  rw [hb] at h2
  cases h2
theorem MapF.notrow {lo sz m g : Nat} {E : TypeId} {v : Value} {xs : List Value} (h : MapF P k kv el w b n f) (hr : w.ownsRow lo E sz v m xs) (hg : v.ownBlock = some g) : g ≠ b := by
  rcases hr.2 with ⟨rfl, _⟩ | ⟨g', cap, cur, rfl, _, hh, _⟩
  · simp [Value.ownBlock] at hg
  · obtain rfl : g' = g := by simpa [Value.ownBlock] using hg
    exact h.notblk (g := g') (t := E) (cs := cur) hh
theorem kept_setBlock {es es' : Array MapEntry} {clock clock' : Nat} (hb : w.heap[b]? = some (.map es clock)) : Kept (· = b) w (setBlock w b (.map es' clock')) :=
  ⟨rfl, rfl, rfl, by simp [setBlock], fun i _ hi => heap_setBlock_other hb _ hi⟩

/-- What stands among the keys that are known. -/
theorem MapF.fnd (K : Keyed P k) (hinj : ∀ x y, kv x = kv y → x = y) {es : Array MapEntry} (h1 : ∀ e ∈ es.toList, ∃ l, keyOf P k e.key = some l) (h3 : ∀ e ∈ es.toList, ∃ x y, e.key = kv x ∧ e.val = el y ∧ f x = some y) (h4 : ∀ x, (∀ e ∈ es.toList, e.key ≠ kv x) → f x = none) {x : κ} {l : Lit} (hx : keyOf P k (kv x) = some l) :
    ((Instr.findKey k (kv x) es.toList).run P w = .ok none w ∧ f x = none ∧ ∀ e ∈ es.toList, e.key ≠ kv x) ∨
    ∃ j e y, (Instr.findKey k (kv x) es.toList).run P w = .ok (some (j, e.val)) w ∧ es.toList[j]? = some e ∧ e.key = kv x ∧ e.val = el y ∧ f x = some y := by
  rcases K.find w hx es.toList h1 with ⟨r, hn⟩ | ⟨j, e, r, hj, he⟩
  · exact .inl ⟨r, h4 x hn, hn⟩
  · obtain ⟨x', y, e1, e2, e3⟩ := h3 e (List.mem_of_getElem? hj)
    obtain rfl : x' = x := hinj _ _ (e1.symm.trans he)
    exact .inr ⟨j, e, y, r, hj, he, e2, e3⟩

/-- 'm[k]', with 'ok' and without. -/
theorem MapF.look {t e : TypeId} (h : MapF P k kv el w b n f) (K : Keyed P k) (hinj : ∀ x y, kv x = kv y → x = y) (ht : P.underlying t = some (.map k e)) {z : Value} (hz : (zeroValue e).run P w = .ok z w) (c : Bool) {x : κ} {l : Lit} (hx : keyOf P k (kv x) = some l) :
    (Instr.lookup t (.map (some b)) (kv x) c).run P w = .ok (if c then .tuple #[((f x).map el).getD z, .bool (f x).isSome] else ((f x).map el).getD z) w := by
  obtain ⟨es, clock, hb, hs, h1, h2, h3, h4⟩ := h
  rcases MapF.fnd (w := w) K hinj h1 h3 h4 hx with ⟨r, hf, _⟩ | ⟨j, e, y, r, _, _, hv, hf⟩
  · simp [Instr.lookup, run_underlying ht, MapKept.run_getObj_map hb, K.check w _ hx, r, hz, Result.andThen, hf]
  · simp [Instr.lookup, run_underlying ht, MapKept.run_getObj_map hb, K.check w _ hx, r, Result.andThen, hf, hv]
/-- 'm[k]' of a nil map is the zero. -/
theorem look_nilF {t e : TypeId} (K : Keyed P k) (ht : P.underlying t = some (.map k e)) {z : Value} (hz : (zeroValue e).run P w = .ok z w) (c : Bool) {v : Value} {l : Lit} (hx : keyOf P k v = some l) :
    (Instr.lookup t (.map none) v c).run P w = .ok (if c then .tuple #[z, .bool false] else z) w := Maps.look_nil c K ht hz hx

/-- 'm[k] = v'. -/
theorem MapF.store {t e : TypeId} (h : MapF P k kv el w b n f) (K : Keyed P k) (hinj : ∀ x y, kv x = kv y → x = y) (ht : P.underlying t = some (.map k e)) {x : κ} {y : ε} {l : Lit} (hx : keyOf P k (kv x) = some l) (hf : f' x = some y) (ho : ∀ x', x' ≠ x → f' x' = f x') :
    ∃ w', (Instr.mapUpdate t (.map (some b)) (kv x) (el y)).run P w = .ok () w' ∧ MapF P k kv el w' b (n + 1) f' ∧ Kept (· = b) w w' := by
  obtain ⟨es, clock, hb, hs, h1, h2, h3, h4⟩ := h
  rcases MapF.fnd (w := w) K hinj h1 h3 h4 hx with ⟨r, hf0, hno⟩ | ⟨j, e0, y0, r, hj, hk, hv, hf0⟩
  · refine ⟨setBlock w b (.map (es.push ⟨kv x, el y, clock⟩) (clock + 1)), ?_, ⟨_, _, heap_setBlock_same hb _, by simp; omega, ?_, ?_, ?_, ?_⟩, kept_setBlock hb⟩
    · simp [Instr.mapUpdate, run_underlying ht, MapKept.run_getObj_map hb, K.check w false hx, r, MapKept.run_setObj_map _ hb, Result.andThen, setBlock]
    · intro e he
      rw [Array.toList_push] at he
      rcases List.mem_append.1 he with h | h
      · exact h1 e h
      · obtain rfl := List.mem_singleton.1 h
        exact ⟨l, hx⟩
    · rw [Array.toList_push, List.pairwise_append]
      refine ⟨h2, by simp, fun a ha c hc => ?_⟩
      obtain rfl := List.mem_singleton.1 hc
      exact hno a ha
    · intro e he
      rw [Array.toList_push] at he
      rcases List.mem_append.1 he with h | h
      · obtain ⟨x', y', e1, e2, e3⟩ := h3 e h
        have hne : x' ≠ x := fun e4 => hno e h (by rw [e1, e4])
        exact ⟨x', y', e1, e2, by rw [ho _ hne]; exact e3⟩
      · obtain rfl := List.mem_singleton.1 h
        exact ⟨x, y, rfl, rfl, hf⟩
    · intro x' hx'
      have hne : x' ≠ x := fun e4 => hx' ⟨kv x, el y, clock⟩ (by simp) (by rw [e4])
      rw [ho _ hne]
      exact h4 x' (fun e he => hx' e (by simp [he]))
  · have hjl : j < es.toList.length := (List.getElem?_eq_some_iff.1 hj).1
    have hja : es[j]? = some e0 := by simpa using hj
    have hlist : (es.modify j (fun e' => { e' with key := kv x, val := el y })).toList = es.toList.set j { e0 with key := kv x, val := el y } := by rw [Array.toList_modify, modify_eq_set _ _ _ _ hj]
    have hother : ∀ i e, es.toList[i]? = some e → i ≠ j → e.key ≠ kv x := fun i e hi hij hke => by
      have hil := (List.getElem?_eq_some_iff.1 hi).1
      have p := List.pairwise_iff_getElem.1 h2
      rcases Nat.lt_or_gt_of_ne hij with hlt | hlt
      · have := p i j hil hjl hlt
        rw [(List.getElem?_eq_some_iff.1 hi).2, (List.getElem?_eq_some_iff.1 hj).2] at this
        exact this (hke.trans hk.symm)
      · have := p j i hjl hil hlt
        rw [(List.getElem?_eq_some_iff.1 hi).2, (List.getElem?_eq_some_iff.1 hj).2] at this
        exact this (hk.trans hke.symm)
    refine ⟨setBlock w b (.map (es.modify j (fun e' => { e' with key := kv x, val := el y })) clock), ?_, ⟨_, _, heap_setBlock_same hb _, by simp; omega, ?_, ?_, ?_, ?_⟩, kept_setBlock hb⟩
    · simp [Instr.mapUpdate, run_underlying ht, MapKept.run_getObj_map hb, K.check w false hx, r, hja, hk, K.stays w hx, MapKept.run_setObj_map _ hb, Result.andThen, setBlock]
    · intro e he
      rw [hlist] at he
      rcases List.mem_or_eq_of_mem_set he with h | rfl
      · exact h1 e h
      · exact ⟨l, hx⟩
    · rw [hlist, List.pairwise_iff_getElem]
      intro i i' hi hi' hlt
      rw [List.length_set] at hi hi'
      have p := List.pairwise_iff_getElem.1 h2 i i' hi hi' hlt
      rw [List.getElem_set, List.getElem_set]
      split
      · rename_i e1
        subst e1
        rw [if_neg (by omega)]
        have h5 := (List.getElem?_eq_some_iff.1 hj).2
        rw [h5, hk] at p
        exact p
      · split
        · rename_i e1 e2
          subst e2
          have h5 := (List.getElem?_eq_some_iff.1 hj).2
          rw [h5, hk] at p
          exact p
        · exact p
    · intro e he
      rw [hlist] at he
      obtain ⟨i, hi⟩ := List.getElem?_of_mem he
      rw [List.getElem?_set] at hi
      split at hi
      · try rw [if_pos hjl] at hi
        injection hi with hi
        subst hi
        exact ⟨x, y, rfl, rfl, hf⟩
      · rename_i hij
        obtain ⟨x', y', e1, e2, e3⟩ := h3 e (List.mem_of_getElem? hi)
        have hne : x' ≠ x := fun e4 => hother i e hi (fun e5 => hij e5.symm) (by rw [e1, e4])
        exact ⟨x', y', e1, e2, by rw [ho _ hne]; exact e3⟩
    · intro x' hx'
      rw [hlist] at hx'
      have hne : x' ≠ x := fun e4 => hx' { e0 with key := kv x, val := el y } (List.mem_iff_getElem.2 ⟨j, by simpa using hjl, by simp⟩) (by rw [e4])
      rw [ho _ hne]
      refine h4 x' (fun e he hke => ?_)
      obtain ⟨i, hi⟩ := List.getElem?_of_mem he
      by_cases hij : i = j
      · subst hij
        rw [hj] at hi
        injection hi with hi
        subst hi
        exact hne (hinj _ _ (hke.symm.trans hk))
      · exact hx' e (List.mem_of_getElem? (by rw [List.getElem?_set_ne (fun e5 => hij e5.symm)]; exact hi)) hke

/-- 'delete(m, k)'. -/
theorem MapF.drop {t e : TypeId} (h : MapF P k kv el w b n f) (K : Keyed P k) (hinj : ∀ x y, kv x = kv y → x = y) (ht : P.underlying t = some (.map k e)) {x : κ} {l : Lit} (hx : keyOf P k (kv x) = some l) (hf : f' x = none) (ho : ∀ x', x' ≠ x → f' x' = f x') (ty : TypeId) :
    ∃ w', (Builtin.delete_ #[t, k] ty #[.map (some b), kv x]).run P w = .ok (.tuple #[]) w' ∧ MapF P k kv el w' b n f' ∧ Kept (· = b) w w' := by
  obtain ⟨es, clock, hb, hs, h1, h2, h3, h4⟩ := h
  rcases MapF.fnd (w := w) K hinj h1 h3 h4 hx with ⟨r, hf0, hno⟩ | ⟨j, e0, y0, r, hj, hk, hv, hf0⟩
  · refine ⟨setBlock w b (.map es clock), ?_, ⟨_, _, heap_setBlock_same hb _, hs, h1, h2, ?_, ?_⟩, kept_setBlock hb⟩
    · simp [Builtin.delete_, run_underlying ht, MapKept.run_getObj_map hb, K.check w _ hx, r, MapKept.run_setObj_map _ hb, Result.andThen, setBlock]
    · intro e he
      obtain ⟨x', y', e1, e2, e3⟩ := h3 e he
      have hne : x' ≠ x := fun e4 => hno e he (by rw [e1, e4])
      exact ⟨x', y', e1, e2, by rw [ho _ hne]; exact e3⟩
    · intro x' hx'
      by_cases hne : x' = x
      · rw [hne]; exact hf
      · rw [ho _ hne]; exact h4 x' hx'
  · have hjl : j < es.toList.length := (List.getElem?_eq_some_iff.1 hj).1
    have hjs : j < es.size := by simpa using hjl
    have hsub : (es.eraseIdxIfInBounds j).toList = es.toList.eraseIdx j := by
      unfold Array.eraseIdxIfInBounds
      rw [dif_pos hjs]
      simp
    have hother : ∀ i e, es.toList[i]? = some e → i ≠ j → e.key ≠ kv x := fun i e hi hij hke => by
      have hil := (List.getElem?_eq_some_iff.1 hi).1
      have p := List.pairwise_iff_getElem.1 h2
      rcases Nat.lt_or_gt_of_ne hij with hlt | hlt
      · have := p i j hil hjl hlt
        rw [(List.getElem?_eq_some_iff.1 hi).2, (List.getElem?_eq_some_iff.1 hj).2] at this
        exact this (hke.trans hk.symm)
      · have := p j i hjl hil hlt
        rw [(List.getElem?_eq_some_iff.1 hi).2, (List.getElem?_eq_some_iff.1 hj).2] at this
        exact this (hk.trans hke.symm)
    refine ⟨setBlock w b (.map (es.eraseIdxIfInBounds j) clock), ?_, ⟨_, _, heap_setBlock_same hb _, Nat.le_trans (MapFrom.size_erase es j) hs, ?_, ?_, ?_, ?_⟩, kept_setBlock hb⟩
    · simp [Builtin.delete_, run_underlying ht, MapKept.run_getObj_map hb, K.check w _ hx, r, MapKept.run_setObj_map _ hb, Result.andThen, setBlock]
    · intro e he
      rw [hsub] at he
      exact h1 e ((List.eraseIdx_sublist _ _).subset he)
    · rw [hsub]
      exact h2.sublist (List.eraseIdx_sublist _ _)
    · intro e he
      rw [hsub] at he
      obtain ⟨i, hij, hi⟩ := List.mem_eraseIdx_iff_getElem?.1 he
      obtain ⟨x', y', e1, e2, e3⟩ := h3 e (List.mem_of_getElem? hi)
      have hne : x' ≠ x := fun e4 => hother i e hi hij (by rw [e1, e4])
      exact ⟨x', y', e1, e2, by rw [ho _ hne]; exact e3⟩
    · intro x' hx'
      by_cases hne : x' = x
      · rw [hne]; exact hf
      · rw [ho _ hne]
        refine h4 x' (fun e he hke => ?_)
        obtain ⟨i, hi⟩ := List.getElem?_of_mem he
        have hij : i ≠ j := fun e5 => by
          subst e5
          rw [hj] at hi
          injection hi with hi
          subst hi
          exact hne (hinj _ _ (hke.symm.trans hk))
        exact hx' e (by rw [hsub]; exact List.mem_eraseIdx_iff_getElem?.2 ⟨i, hij, hi⟩) hke

section
variable {ops : Array Oper} {rest : List Oper} {o : Oper} {a : Act} {Q : Exit → Act → World → Prop}
/-- A look-up, run. -/
theorem exec_lookF {t e : TypeId} (K : Keyed P k) (hinj : ∀ x y, kv x = kv y → x = y) (ht : P.underlying t = some (.map k e)) {z : Value} (hz : (zeroValue e).run P w = .ok z w) (m v : Operand) (c : Bool) (hop : o.op = .lookup t m v c) (x : κ) {l : Lit} (hx : keyOf P k (kv x) = some l)
    (hm : a.eval m = .map (some b)) (hv : a.eval v = kv x) (h : MapF P k kv el w b n f) : (execOp a.eval o).run P w = .ok (.value (if c then .tuple #[((f x).map el).getD z, .bool (f x).isSome] else ((f x).map el).getD z)) w := by
  unfold execOp
  simp only [hop, hm, hv, Sem.run_bind, h.look K hinj ht hz c hx, Result.andThen_ok, Sem.run_pure]
/-- A store into the map, at the operation. -/
theorem wpl_storeF {t e : TypeId} (hw : Region.wanted o (yielded ops a.tmps) = true) (K : Keyed P k) (hinj : ∀ x y, kv x = kv y → x = y) (ht : P.underlying t = some (.map k e)) (m v u : Operand) (hop : o.op = .mapUpdate t m v u) (x : κ) (y : ε) {l : Lit} (hx : keyOf P k (kv x) = some l)
    (hm : a.eval m = .map (some b)) (hv : a.eval v = kv x) (hu : a.eval u = el y) (h : MapF P k kv el w b n f) (hf : f' x = some y) (ho : ∀ x', x' ≠ x → f' x' = f x')
    (hK : ∀ w', MapF P k kv el w' b (n + 1) f' → Kept (· = b) w w' → wpList P ops Q rest (a.put o.dst undef) w') : wpList P ops Q (o :: rest) a w := by
  unfold wpList
  rw [if_pos hw]
  refine .inl ?_
  obtain ⟨w', hrun, r1, r2⟩ := h.store K hinj ht hx hf ho
  unfold Oper.wp
  simp [execOp, hop, hm, hv, hu, hrun, Result.andThen]
  exact hK w' r1 r2
/-- A key is struck, at the operation. -/
theorem wpl_dropF {t e : TypeId} (hw : Region.wanted o (yielded ops a.tmps) = true) (K : Keyed P k) (hinj : ∀ x y, kv x = kv y → x = y) (ht : P.underlying t = some (.map k e)) (m v : Operand) (hop : o.op = .call { callee := .builtin .delete, args := #[m, v], argTypes := #[t, k] }) (x : κ) {l : Lit} (hx : keyOf P k (kv x) = some l)
    (hm : a.eval m = .map (some b)) (hv : a.eval v = kv x) (h : MapF P k kv el w b n f) (hf : f' x = none) (ho : ∀ x', x' ≠ x → f' x' = f x')
    (hK : ∀ w', MapF P k kv el w' b n f' → Kept (· = b) w w' → wpList P ops Q rest (a.put o.dst (.tuple #[])) w') : wpList P ops Q (o :: rest) a w := by
  unfold wpList
  rw [if_pos hw]
  refine .inl ?_
  obtain ⟨w', hrun, r1, r2⟩ := h.drop K hinj ht hx hf ho o.type
  unfold Oper.wp
  simp [execOp, hop, resolve, invoke, builtin, hm, hv, hrun, Result.andThen]
  exact hK w' r1 r2
end
end

end Go.Proofs.Ytajkajgnjcnolaa

/-
  Structs of ints as values: how they are laid out, when two are the same, what an argument of their types is.
-/
namespace Go.Proofs.Ytajkajgnjcnolaa
open Go.RowKit
set_option linter.unusedVariables false
set_option linter.unnecessarySimpa false
set_option linter.unusedSimpArgs false

theorem Try.cellsI : Try.prog.cellsOf 3 = 1 := by kernel_rfl
section
variable {P : Program} (w : World)
theorem run_part_int {e : TypeId} {q : IntKind} (he : P.underlying e = some (.int q)) {xs : Array Value} {off : Nat} {v : Value} (hx : xs[off]? = some v) : (part e xs off).run P w = .ok v w := by
  simp [part, isAgg, run_underlying he, hx]
end
theorem run_field {P : Program} (w : World) (d : Nat) {xs ys : Array Value} {f : Field} {fs : List Field} {a b : Value} {r rest : Bool} (hn : f.name ≠ "_") (p1 : (part f.type xs f.offset).run P w = .ok a w) (p2 : (part f.type ys f.offset).run P w = .ok b w)
    (p3 : (Op.equalIn d f.type a b).run P w = .ok r w) (ih : (Op.eqFields d xs ys fs).run P w = .ok rest w) : (Op.eqFields d xs ys (f :: fs)).run P w = .ok (r && rest) w := by
  unfold Op.eqFields
  rw [if_pos hn]
  simp only [Sem.run_bind, p1, p2, p3, Result.andThen_ok]
  cases r
  · simp
  · simpa using ih
/-- A field of a frame that is an int. -/
structure IntField (P : Program) (f : Field) (o : Nat) : Prop where
  name : f.name ≠ "_"
  ty : P.underlying f.type = some (.int .i64)
  off : f.offset = o
  cells : P.cellsOf f.type = 1
theorem run_field_int {P : Program} (w : World) (d : Nat) {xs ys : Array Value} {f : Field} {fs : List Field} {o : Nat} {a b : Int} {rest : Bool} (h : IntField P f o) (p1 : xs[o]? = some (.int .i64 a)) (p2 : ys[o]? = some (.int .i64 b))
    (ih : (Op.eqFields (d + 1) xs ys fs).run P w = .ok rest w) : (Op.eqFields (d + 1) xs ys (f :: fs)).run P w = .ok ((a == b) && rest) w := by
  obtain ⟨h1, h2, rfl, _⟩ := h
  exact run_field w (d + 1) h1 (run_part_int w h2 p1) (run_part_int w h2 p2) (run_equalIn_int w d f.type .i64 .i64 a b h2) ih
/-- Fields that are ints, one a cell, from cell j on. -/
def IntFields (P : Program) : Nat → List Field → Prop
  | _, [] => True
  | j, f :: fs => IntField P f j ∧ IntFields P (j + 1) fs
theorem run_mix_fields {P : Program} (w : World) (d : Nat) {xs ys : Array Value} {rest : List Field} {r : Bool} {zs zs' : List Int} (hr : (Op.eqFields (d + 1) xs ys rest).run P w = .ok r w) :
    ∀ (fs : List Field) (j : Nat), IntFields P j fs → (∀ i, i < fs.length → xs[j + i]? = some (.int .i64 (zs.getD (j + i) 0)) ∧ ys[j + i]? = some (.int .i64 (zs'.getD (j + i) 0))) →
    (Op.eqFields (d + 1) xs ys (fs ++ rest)).run P w = .ok (decide (∀ i, i < fs.length → zs.getD (j + i) 0 = zs'.getD (j + i) 0) && r) w
  | [], j, _, _ => by simpa using hr
  | f :: fs, j, hI, hat => by
    obtain ⟨h1, h2⟩ := hI
    have a0 := hat 0 (by simp)
    have ih := run_mix_fields w d (zs := zs) (zs' := zs') hr fs (j + 1) h2 (fun i hi => by have := hat (i + 1) (by simpa using hi); rwa [show j + (i + 1) = j + 1 + i by omega] at this)
    rw [List.cons_append, run_field_int w d h1 a0.1 a0.2 ih]
    congr 1
    rw [← Bool.and_assoc]
    congr 1
    rw [Bool.eq_iff_iff]
    simp only [Bool.and_eq_true, beq_iff_eq, decide_eq_true_eq, List.length_cons]
    constructor
    · rintro ⟨h, h'⟩ i hi
      cases i with
      | zero => exact h
      | succ i => rw [show j + (i + 1) = j + 1 + i by omega]; exact h' i (by omega)
    · intro h
      refine ⟨h 0 (by omega), fun i hi => ?_⟩
      have := h (i + 1) (by omega)
      rwa [show j + (i + 1) = j + 1 + i by omega] at this
theorem ints_eq_of_getD {xs ys : List Int} {n : Nat} (hx : xs.length = n) (hy : ys.length = n) (h : ∀ i, i < n → xs.getD i 0 = ys.getD i 0) : xs = ys := by
  apply List.ext_getElem (by omega)
  intro i h1 h2
  have := h i (by omega)
  simpa [List.getD, h1, h2] using this

section
open Go.ChangeShapes Go.WideShapes
variable {H : Type} {enc : TypeId × Value → H} {P : Program} {w : World} {base : Nat} {spare : Nat → Bool} {held : Bool}
theorem trod_int_of {e : TypeId} {o n : Nat} {f : Field} {cs : List Value} {x : Option (DataW H × List MemPlace)} (h : IntField P f o) (hx : x.isSome = true)
    (ht : DataW.trod enc P w base spare held n f.type (List.take (P.cellsOf f.type) (List.drop f.offset cs)) = x) : ∃ z : Int, (cs.drop o).take 1 = [.int .i64 z] ∧ (Lit.int .i64 z).wf = true := by
  obtain ⟨y, rfl⟩ := Option.isSome_iff_exists.1 hx
  rw [h.cells, h.off] at ht
  obtain ⟨z, hz, _, hwf⟩ := DataW.trod_int h.ty ht
  exact ⟨z, hz, hwf⟩
theorem list_cut {l : List Value} {o : Nat} {v : Value} (hh : (l.drop o).take 1 = [v]) : l.drop o = v :: l.drop (o + 1) := by
  by_cases ho : o < l.length
  · rw [List.drop_eq_getElem_cons ho] at hh
    simp only [List.take_succ_cons, List.take_zero, List.cons.injEq, and_true] at hh
    rw [List.drop_eq_getElem_cons ho, hh]
  · rw [List.drop_of_length_le (by omega)] at hh; simp at hh
theorem open_intFields {n : Nat} {cs : List Value} : ∀ (fs : List Field) (j : Nat), IntFields P j fs → (∀ f ∈ fs, (DataW.trod enc P w base spare held n f.type ((cs.drop f.offset).take (P.cellsOf f.type))).isSome = true) →
    ∃ zs : List Int, zs.length = fs.length ∧ (∀ z ∈ zs, (Lit.int .i64 z).wf = true) ∧ cs.drop j = zs.map (fun z => Value.int .i64 z) ++ cs.drop (j + fs.length)
  | [], j, _, _ => ⟨[], rfl, by simp, by simp⟩
  | f :: fs, j, hI, hs => by
    obtain ⟨h1, h2⟩ := hI
    obtain ⟨z, hz, hw⟩ := trod_int_of (e := f.type) h1 (hs f (by simp)) rfl
    obtain ⟨zs, hl, hwf, hd⟩ := open_intFields fs (j + 1) h2 (fun f' hf' => hs f' (by simp [hf']))
    refine ⟨z :: zs, by simp [hl], fun x hx => ?_, ?_⟩
    · rcases List.mem_cons.1 hx with rfl | hx
      · exact hw
      · exact hwf x hx
    · rw [list_cut hz, hd]
      simp [Nat.add_comm, Nat.add_left_comm]
end

/-- Ints alone. -/
def intsA (zs : List Int) : Array Value := (zs.map (fun z => Value.int .i64 z)).toArray
theorem intsA_size (zs : List Int) : (intsA zs).size = zs.length := by simp [intsA]
theorem intsA_one (zs : List Int) : (intsA zs).all (·.oneCell') = true := by
  simp only [intsA, Array.all_eq_true_iff_forall_mem, List.mem_toArray]
  intro x hx
  obtain ⟨z, _, rfl⟩ := List.mem_map.1 hx
  rfl
theorem intsA_at (zs : List Int) (i : Nat) (h : i < zs.length) : (intsA zs)[i]? = some (.int .i64 (zs.getD i 0)) := by
  simp [intsA, h, List.getD]

/-- The type of such structs: n ints. -/
structure IntsType (P : Program) (t : TypeId) (n : Nat) : Prop where
  fields : ∃ fs : List Field, P.underlying t = some (.struct fs.toArray) ∧ fs.length = n ∧ IntFields P 0 fs
  cells : P.cellsOf t = n
  stood : P.stoodInHeld t = false
  guard : P.eqGuardType P.depth t = false

theorem run_equal_ints {P : Program} (w : World) (d : Nat) {t : TypeId} {n : Nat} (T : IntsType P t n) (zs zs' : List Int) (hz : zs.length = n) (hz' : zs'.length = n) :
    (Op.equalIn (d + 2) t (.agg (intsA zs)) (.agg (intsA zs'))).run P w = .ok (decide (zs = zs')) w := by
  obtain ⟨fs, hu, hl, hI⟩ := T.fields
  have hfs : P.fieldsOf t = fs.toArray := by simp [Program.fieldsOf, hu]
  rw [run_equalIn_agg w (d + 1) t _ _ (by rw [hfs]; exact hu) T.stood, hfs]
  have r := run_mix_fields w d (zs := zs) (zs' := zs') (xs := intsA zs) (ys := intsA zs') (rest := []) (r := true) (by simp [Op.eqFields]) fs 0 hI (fun i hi => ⟨by rw [Nat.zero_add]; exact intsA_at zs i (by omega), by rw [Nat.zero_add]; exact intsA_at zs' i (by omega)⟩)
  rw [List.append_nil] at r
  refine (show (Op.eqFields (d + 1) (intsA zs) (intsA zs') fs.toArray.toList).run P w = _ from r).trans ?_
  congr 1
  rw [Bool.eq_iff_iff]
  simp only [Bool.and_eq_true, decide_eq_true_eq, and_true, Nat.zero_add, hl]
  exact ⟨fun h => ints_eq_of_getD hz hz' h, fun h i _ => by rw [h]⟩

theorem run_eql_ints {P : Program} {t : TypeId} {n : Nat} (T : IntsType P t n) (zs zs' : List Int) (hz : zs.length = n) (hz' : zs'.length = n) (w : World) :
    (binOp .eql t (.agg (intsA zs)) (.agg (intsA zs'))).run P w = .ok (.bool (decide (zs = zs'))) w := by
  rw [run_eql_struct, run_equal_ints w 9998 T zs zs' hz hz']; rfl
theorem run_neq_ints {P : Program} {t : TypeId} {n : Nat} (T : IntsType P t n) (zs zs' : List Int) (hz : zs.length = n) (hz' : zs'.length = n) (w : World) :
    (binOp .neq t (.agg (intsA zs)) (.agg (intsA zs'))).run P w = .ok (.bool (!decide (zs = zs'))) w := by
  rw [run_neq_struct, run_equal_ints w 9998 T zs zs' hz hz']; rfl

section
open Go.ChangeShapes Go.WideShapes
variable {H : Type} {enc : TypeId × Value → H} {P : Program} {w : World} {base : Nat} {spare : Nat → Bool} {held : Bool}
theorem open_intsA {r : Reach} {b0 : Nat} {t : TypeId} {n : Nat} {v : Value} {d : DataW H} {p : List MemPlace} (T : IntsType P t n) (hv : Value.okWide P w r b0 t v) (h : DataW.Trod enc P w base spare held t v d p) :
    ∃ zs : List Int, v = .agg (intsA zs) ∧ zs.length = n ∧ ∀ z ∈ zs, (Lit.int .i64 z).wf = true := by
  obtain ⟨fs, hu, hl, hI⟩ := T.fields
  obtain ⟨cs, rfl, hsz⟩ := okWide_struct hu hv
  obtain ⟨fuel, hf⟩ := h
  simp only [Value.cells] at hf
  obtain ⟨xs, m, _, _, hlc, hxl, hat⟩ := DataW.trod_struct hu hf
  have hxl' : xs.length = n := by rw [hxl]; simp [hl]
  have hint : ∀ f ∈ fs, (DataW.trod enc P w base spare held m f.type ((cs.toList.drop f.offset).take (P.cellsOf f.type))).isSome = true := fun f hf => by
    obtain ⟨i, hi, rfl⟩ := List.getElem_of_mem hf
    rw [hat i _ (by rw [List.getElem?_toArray, List.getElem?_eq_getElem hi])]
    simp [hxl', ← hl, hi]
  obtain ⟨zs, hzl, hwf, hz⟩ := open_intFields fs 0 hI hint
  refine ⟨zs, ?_, hzl.trans hl, hwf⟩
  congr 1
  apply Array.ext'
  rw [T.cells] at hlc
  rw [List.drop_zero, Nat.zero_add, hl, List.drop_of_length_le (by simp at hlc; simp; omega), List.append_nil] at hz
  rw [hz]; rfl
end

end Go.Proofs.Ytajkajgnjcnolaa

/-
  Contracts of layer 2 (codec), first part: widths; and of the document's own answers Power, Fits.
-/
namespace Go.Proofs.Ytajkajgnjcnolaa
open Go.RowKit CrcM
set_option linter.unusedVariables false
set_option linter.unnecessarySimpa false
set_option linter.unusedSimpArgs false

/-- Is it a width? -/
def widB (wd : Int) : Bool := decide (1 ≤ wd ∧ wd ≤ 7)
/-- Is it a number in so many bytes? -/
def fitB (wd v : Int) : Bool := decide (1 ≤ wd ∧ wd ≤ 7 ∧ 0 ≤ v ∧ v < 256 ^ wd.toNat)

theorem pow256 (k : Nat) : (256 : Int) ^ k = ((256 ^ k : Nat) : Int) := by rw [Int.natCast_pow]; rfl
theorem pow256' (k : Nat) : 256 ^ k = 2 ^ (8 * k) := by rw [Nat.pow_mul]

theorem fit_div (k x : Nat) (h1 : 1 ≤ k) (h7 : k ≤ 7) : fitB (k : Int) (x : Int) = (((x : Int) / 2 ^ (8 * k)) == 0) := by
  have hp : 0 < 2 ^ (8 * k) := Nat.pow_pos (by decide)
  have e : ((x : Int) / 2 ^ (8 * k)) = ((x / 2 ^ (8 * k) : Nat) : Int) := by rw [Int.natCast_ediv, Int.natCast_pow]; rfl
  rw [e, Bool.eq_iff_iff]
  unfold fitB
  rw [decide_eq_true_iff, beq_iff_eq, Int.toNat_natCast, pow256, pow256']
  constructor
  · intro h
    have : x < 2 ^ (8 * k) := by omega
    rw [Nat.div_eq_of_lt this]; rfl
  · intro h
    have h' : x / 2 ^ (8 * k) = 0 := by omega
    have := (Nat.div_eq_zero_iff).1 h'
    omega

theorem p256_le (k : Nat) (h : k ≤ 7) : 256 ^ k ≤ 72057594037927936 := Nat.le_trans (Nat.pow_le_pow_right (by decide) h) (by decide)

theorem fit_pow (k x : Nat) (h1 : 1 ≤ k) (h7 : k ≤ 7) : fitB (k : Int) (x : Int) = decide ((x : Int) ≤ ((256 ^ k : Nat) : Int) - 1) := by
  unfold fitB
  rw [Bool.eq_iff_iff, decide_eq_true_iff, decide_eq_true_iff, Int.toNat_natCast, pow256]
  omega

/-- The least width: k bytes. -/
def LeastW (v : Int) (k : Nat) : Prop := (1 ≤ k ∧ k ≤ 7 ∧ fitB (k : Int) v = true ∧ ∀ j : Nat, 1 ≤ j → j < k → fitB (j : Int) v = false) ∨ (k = 8 ∧ ∀ j : Nat, 1 ≤ j → j < 8 → fitB (j : Int) v = false)
/-- What Width tells. -/
def WidthPost (v : Int) (w : World) (e : Ending) (w' : World) : Prop := ∃ k : Nat, e = .returned (.int .i64 (k : Nat)) ∧ LeastW v k ∧ w = w'

end Go.Proofs.Ytajkajgnjcnolaa

