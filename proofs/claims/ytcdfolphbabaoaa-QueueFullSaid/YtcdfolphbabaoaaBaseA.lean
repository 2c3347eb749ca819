/-
  Slices of bytes: what they read; rows that a call itself made: appended to, written, sliced, copied.
-/
import Derived.Test.YtcdfolphbabaoaaProg
import Derived.Test.YtcdfolphbabaoaaCrcMath2
import Derived.Test.YtcdfolphbabaoaaBaseG
import Derived.WalkKit
import Derived.WalkSpells
import Derived.WalkLawsBesides
import Derived.Lib.Hide
import Derived.Laws.BitsAllLaws
import Derived.Laws.CopyOwn
import Derived.Laws.AppendOwnNone
import Derived.Maps.AppendAt
import Derived.Deep.MidRow
import Derived.Deep.RegionHeld3
import Derived.Deep.QuietTactic
import Derived.BigQuiet
import Derived.Lib.SlBytesConst
import Derived.OpenShut
namespace Go.Proofs.Ytcdfolphbabaoaa
open Go.RowKit CrcM
set_option linter.unusedVariables false
set_option linter.unnecessarySimpa false
set_option linter.unusedSimpArgs false

/-- A slice of bytes: what it reads. -/
structure RowB (w : World) (a : Option Addr) (len cap : Nat) (bs : List Nat) : Prop where
  length : bs.length = len
  le : len ≤ cap
  max : cap ≤ maxLen
  lt : ∀ c ∈ bs, c < 256
  cells : 0 < len → ∃ b off, a = some ⟨b, off, none⟩ ∧ ∀ i, i < len → w.cell? ⟨b, off + i, none⟩ = some (.int .u8 (bs.getD i 0 : Nat))
  nil : a = none → cap = 0

theorem take_snoc_nat (bs : List Nat) (k : Nat) (h : k < bs.length) : bs.take (k + 1) = bs.take k ++ [bs.getD k 0] := by
  rw [List.take_succ_eq_append_getElem h]; simp [List.getD, h]

theorem getD_lt {bs : List Nat} (hb : ∀ c ∈ bs, c < 256) (k : Nat) : bs.getD k 0 < 256 := by
  by_cases h : k < bs.length
  · have : bs.getD k 0 = bs[k] := by simp [List.getD, h]
    rw [this]; exact hb _ (List.getElem_mem _)
  · simp [List.getD, h]

theorem RowB.below {w w' : World} {a : Option Addr} {len cap : Nat} {bs : List Nat} (h : RowB w a len cap bs) (hb : Below w.heap.size w w') : RowB w' a len cap bs := by
  obtain ⟨h1, h2, h3, h4, h5, h6⟩ := h
  refine ⟨h1, h2, h3, h4, fun h0 => ?_, h6⟩
  obtain ⟨b, off, rfl, hc⟩ := h5 h0
  refine ⟨b, off, rfl, fun i hi => ?_⟩
  have hlt := block_lt_of_cell (hc i hi)
  exact (hb.cell (p := ⟨b, off + i, none⟩) hlt).trans (hc i hi)

theorem row_one (w : World) (g c : Nat) (t : TypeId) (hc : c < 256) (h : w.heap[g]? = some (.cells #[.int .u8 (c : Nat)] t (0, 0))) : RowB w (some ⟨g, 0, none⟩) 1 1 [c] := by
  refine ⟨rfl, Nat.le_refl _, by unfold maxLen; omega, by simpa using hc, fun _ => ⟨g, 0, rfl, fun i hi => ?_⟩, fun h => by cases h⟩
  obtain rfl : i = 0 := by omega
  rw [cell_of_row w g _ _ t _ h]; rfl

theorem row_of_heap {w : World} {g cap : Nat} {bs : List Nat} {C : Array Value} {t : TypeId} {fr : Nat × Nat} (h : w.heap[g]? = some (.cells C t fr)) (hC : C.toList.take bs.length = bs.map fun c => Value.int .u8 (c : Nat))
    (hb : ∀ c ∈ bs, c < 256) (hc : bs.length ≤ cap) (hm : cap ≤ maxLen) : RowB w (some ⟨g, 0, none⟩) bs.length cap bs := by
  refine ⟨rfl, hc, hm, hb, fun _ => ⟨g, 0, rfl, fun i hi => ?_⟩, fun h => by cases h⟩
  rw [cell_of_row w g _ C t fr h, Nat.zero_add]
  have e : (C.toList.take bs.length)[i]? = C[i]? := by rw [List.getElem?_take_of_lt hi]; simp
  rw [← e, hC]
  simp [hi, List.getD]

theorem row_nil (w : World) : RowB w none 0 0 [] := ⟨rfl, Nat.le_refl _, Nat.zero_le _, by simp, fun h => absurd h (by decide), fun _ => rfl⟩

theorem row_of_ints {w : World} {x : Addr} {l c : Nat} {zs : List Int} (hl : l ≤ c) (hm : c ≤ maxLen) (hz : zs.length = c)
    (hcell : ∀ i, i < zs.length → w.cell? (x.add i) = some (.int .u8 (zs.getD i 0))) (hwz : ∀ n ∈ zs, (Lit.int .u8 n).wf = true) : ∃ bs, RowB w (some x) l c bs := by
  refine ⟨(zs.take l).map Int.toNat, by simp; omega, hl, hm, fun c hc => ?_, fun h0 => ?_, fun h => by cases h⟩
  · obtain ⟨n, hn, rfl⟩ := List.mem_map.1 hc
    have := bounds_u8 (hwz n (List.mem_of_mem_take hn))
    omega
  · obtain ⟨b, off, rfl, h⟩ := ints_at hcell (by omega)
    refine ⟨b, off, rfl, fun i hi => ?_⟩
    rw [h i (by omega)]
    have hb := range_u8 hwz i
    have e : ((zs.take l).map Int.toNat).getD i 0 = (zs.getD i 0).toNat := by
      simp [List.getD, List.getElem?_take_of_lt hi]
      cases zs[i]? <;> simp
    rw [e]
    have e2 : zs.getD i 0 = zs[i]?.getD 0 := rfl
    rw [e2] at *
    congr 2
    omega

/-- Bytes as values. -/
def bvals (bs : List Nat) : List Value := bs.map fun c => Value.int .u8 (c : Nat)

theorem bvals_length (bs : List Nat) : (bvals bs).length = bs.length := by simp [bvals]

theorem bvals_at (bs : List Nat) (i : Nat) (h : i < bs.length) : (bvals bs)[i]? = some (.int .u8 (bs.getD i 0 : Nat)) := by simp [bvals, h, List.getD]

theorem bvals_append (a b : List Nat) : bvals (a ++ b) = bvals a ++ bvals b := by simp [bvals]

theorem bvals_one (bs : List Nat) : ∀ u ∈ bvals bs, u.oneCell' = true := by
  intro u hu; obtain ⟨c, _, rfl⟩ := List.mem_map.1 hu; rfl

theorem bvals_set (bs : List Nat) (i x : Nat) : (bvals bs).set i (.int .u8 (x : Nat)) = bvals (bs.set i x) := by simp [bvals, List.map_set]

theorem Try.infoByte : (Try.prog.info? 5).map (fun i => (i.zero, i.size, i.bytes)) = some (some (.int .u8 0), 1, 1) := by kernel_rfl

/-- What a row's cells give. -/
theorem RowB.src {w : World} {a : Option Addr} {len cap : Nat} {bs : List Nat} (h : RowB w a len cap bs) (ad : Addr) (ha : a = some ad) :
    ∀ j u, (bvals bs)[j]? = some u → w.cell? (ad.add j) = some u := by
  intro j u hu
  have hj : j < bs.length := by
    by_cases hj : j < bs.length
    · exact hj
    · rw [List.getElem?_eq_none (by rw [bvals_length]; omega)] at hu; cases hu
  rw [bvals_at bs j hj] at hu
  have hlen := h.length
  obtain ⟨b, off, hab, hc⟩ := h.cells (by omega)
  rw [ha] at hab
  obtain rfl := Option.some.inj hab
  have hadd : (⟨b, off, none⟩ : Addr).add j = ⟨b, off + j, none⟩ := Addr.add_mid b off j
  rw [hadd, hc j (by omega)]
  exact hu

theorem own_row {w : World} {base : Nat} {v : Value} {n : Nat} {bs : List Nat} (h : w.ownsRow base 5 1 v n (bvals bs)) (hb : ∀ c ∈ bs, c < 256) :
    ∃ a cap, v = .slice a n cap ∧ RowB w a n cap bs := by
  have hl : bs.length = n := by have := h.1; rw [bvals_length] at this; omega
  rcases h.2 with ⟨rfl, rfl⟩ | ⟨g, cap, cur, rfl, _, hg, hn, hm, hs, ht⟩
  · exact ⟨none, 0, rfl, hl, Nat.le_refl _, Nat.zero_le _, hb, fun h => absurd h (by decide), fun _ => rfl⟩
  · refine ⟨some ⟨g, 0, none⟩, cap, rfl, hl, hn, hm, hb, fun _ => ⟨g, 0, rfl, fun i hi => ?_⟩, fun h => by cases h⟩
    rw [cell_of_row w g _ cur _ _ hg, Nat.zero_add]
    have e : (cur.toList.take (n * 1))[i]? = cur[i]? := by rw [List.getElem?_take_of_lt (by omega)]; simp
    rw [← e, ht, bvals_at bs i (by omega)]

theorem own_some {w : World} {base : Nat} {v : Value} {n : Nat} {bs : List Nat} (h : w.ownsRow base 5 1 v n (bvals bs)) (hb : ∀ c ∈ bs, c < 256) (h0 : 0 < n) :
    ∃ g cap, v = .slice (some ⟨g, 0, none⟩) n cap ∧ base ≤ g ∧ RowB w (some ⟨g, 0, none⟩) n cap bs ∧ ∀ j, w.frozen? ⟨g, j, none⟩ = false := by
  have hl : bs.length = n := by have := h.1; rw [bvals_length] at this; omega
  obtain ⟨a, cap', hv, hr⟩ := own_row h hb
  rcases h.2 with ⟨rfl, rfl⟩ | ⟨g, cap, cur, rfl, hbg, hg, hn, hm, hs, ht⟩
  · omega
  · obtain ⟨rfl, -, rfl⟩ : some (⟨g, 0, none⟩ : Addr) = a ∧ True ∧ cap = cap' := by simpa using hv
    exact ⟨g, cap, rfl, hbg, hr, fun j => frozen_of_row w g j cur _ hg⟩

theorem own_made (w : World) (n base : Nat) (hn : w.heap.size = n) (hb : base ≤ n) : (w.alloc (Obj.cells #[] 5)).ownsRow base 5 1 (.slice (some ⟨n, 0, none⟩) 0 0) 0 (bvals []) := by
  subst hn
  exact World.ownsRow_made w #[] 0 hb (Nat.zero_le _) rfl

/-- One byte of a row is written. -/
theorem RowB.set {w : World} {g n cap : Nat} {bs : List Nat} (h : RowB w (some ⟨g, 0, none⟩) n cap bs) (i x : Nat) (hi : i < n) (hx : x < 256) :
    RowB (w.setCell ⟨g, i, none⟩ (.int .u8 (x : Nat))) (some ⟨g, 0, none⟩) n cap (bs.set i x) := by
  have hl := h.length
  refine ⟨by rw [List.length_set]; exact hl, h.le, h.max, set_lt h.lt hx, fun h0 => ?_, h.nil⟩
  obtain ⟨b, off, hab, hc⟩ := h.cells h0
  obtain ⟨rfl, rfl⟩ : g = b ∧ 0 = off := by simpa using hab
  refine ⟨g, 0, rfl, fun j hj => ?_⟩
  have hcj := hc j hj
  rw [Nat.zero_add] at *
  by_cases e : i = j
  · subst e
    rw [World.cell?_setCell_same _ _ _ hcj]
    simp [List.getD, List.getElem?_set, hl, hi]
  · rw [World.cell?_setCell_other _ _ _ _ (by simp [e]), hcj]
    simp [List.getD, List.getElem?_set, e]

theorem RowB.at0 {w : World} {g n cap : Nat} {bs : List Nat} (h : RowB w (some ⟨g, 0, none⟩) n cap bs) (i : Nat) (hi : i < n) : w.cell? ⟨g, i, none⟩ = some (.int .u8 (bs.getD i 0 : Nat)) := by
  obtain ⟨b, off, hab, hc⟩ := h.cells (by omega)
  obtain ⟨rfl, rfl⟩ : g = b ∧ 0 = off := by simpa using hab
  have := hc i hi
  rwa [Nat.zero_add] at this

/-- A row in another block is as it was. -/
theorem RowB.set_far {w : World} {a : Option Addr} {g i n cap : Nat} {bs : List Nat} {v : Value} (h : RowB w a n cap bs) (hg : ∀ ad, a = some ad → ad.block ≠ g) :
    RowB (w.setCell ⟨g, i, none⟩ v) a n cap bs := by
  refine ⟨h.length, h.le, h.max, h.lt, fun h0 => ?_, h.nil⟩
  obtain ⟨b, off, rfl, hc⟩ := h.cells h0
  have := hg _ rfl
  exact ⟨b, off, rfl, fun j hj => by rw [World.cell?_setCell_other _ _ _ _ (by simp; intro e; exact absurd e.symm this)]; exact hc j hj⟩

theorem RowB.block {w : World} {a : Option Addr} {n cap : Nat} {bs : List Nat} (h : RowB w a n cap bs) (h0 : 0 < n) : ∃ ad, a = some ad ∧ ad.block < w.heap.size := by
  obtain ⟨b, off, rfl, hc⟩ := h.cells h0
  exact ⟨_, rfl, block_lt_of_cell (hc 0 h0)⟩

/-- A row of bytes that the call made. -/
def bA (bs : List Nat) : Array Value := (bvals bs).toArray

theorem bA_size (bs : List Nat) : (bA bs).size = bs.length := by simp [bA, bvals]

theorem bA_at (bs : List Nat) (i : Nat) (h : i < bs.length) : (bA bs)[i]? = some (.int .u8 (bs.getD i 0 : Nat)) := by
  unfold bA; rw [List.getElem?_toArray]; exact bvals_at bs i h

theorem bA_set (bs : List Nat) (i x : Nat) : (bA bs).setIfInBounds i (.int .u8 (x : Nat)) = bA (bs.set i x) := by
  unfold bA; rw [← bvals_set]; simp

theorem row_bA {w : World} {g : Nat} {bs : List Nat} {t : TypeId} {fr : Nat × Nat} (h : w.heap[g]? = some (.cells (bA bs) t fr)) (hb : ∀ c ∈ bs, c < 256) (hm : bs.length ≤ maxLen) :
    RowB w (some ⟨g, 0, none⟩) bs.length bs.length bs := row_of_heap h (by simp only [bA, bvals]; exact List.take_of_length_le (by simp)) hb (Nat.le_refl _) hm

def zeros (n : Nat) : List Nat := List.replicate n 0

theorem zeros_length (n : Nat) : (zeros n).length = n := by simp [zeros]

theorem zeros_lt (n : Nat) : ∀ c ∈ zeros n, c < 256 := by intro c hc; rw [(List.mem_replicate.1 hc).2]; decide

theorem bne_int {a b : Nat} (h : a ≠ b) : ((a : Int) != (b : Int)) = true := by rw [bne_iff_ne]; omega

theorem bne_same (a : Nat) : ((a : Int) != (a : Int)) = false := by simp

/-- Where a slice from a place on begins. -/
def slAddr (a : Option Addr) (cap lo : Nat) : Option Addr := if cap = lo then a else a.map (·.add lo)

/-- A row whose capacity is told less. -/
theorem RowB.recap {w : World} {a : Option Addr} {len cap : Nat} {bs : List Nat} (h : RowB w a len cap bs) (c : Nat) (h1 : len ≤ c) (h2 : c ≤ cap) : RowB w a len c bs :=
  ⟨h.length, h1, Nat.le_trans h2 h.max, h.lt, h.cells, fun e => by have := h.nil e; omega⟩

theorem RowB.to {w : World} {a : Option Addr} {len cap : Nat} {bs : List Nat} (h : RowB w a len cap bs) (n : Nat) (hn : n ≤ len) : RowB w a n cap (bs.take n) := by
  have hl := h.length
  refine ⟨by simp; omega, Nat.le_trans hn h.le, h.max, fun c hc => h.lt c (List.mem_of_mem_take hc), fun h0 => ?_, h.nil⟩
  obtain ⟨b, off, rfl, hc⟩ := h.cells (by omega)
  refine ⟨b, off, rfl, fun i hi => ?_⟩
  rw [hc i (by omega)]
  simp [List.getD, List.getElem?_take_of_lt hi]

theorem RowB.from {w : World} {a : Option Addr} {len cap : Nat} {bs : List Nat} (h : RowB w a len cap bs) (lo : Nat) (hn : lo ≤ len) : RowB w (slAddr a cap lo) (len - lo) (cap - lo) (bs.drop lo) := by
  have hl := h.length
  have hle := h.le
  refine ⟨by simp; omega, by omega, by have := h.max; omega, fun c hc => h.lt c (List.mem_of_mem_drop hc), fun h0 => ?_, fun hn => ?_⟩
  · obtain ⟨b, off, rfl, hc⟩ := h.cells (by omega)
    refine ⟨b, off + lo, ?_, fun i hi => ?_⟩
    · unfold slAddr; rw [if_neg (by omega)]; simp [Addr.add_mid]
    · rw [Nat.add_assoc, hc (lo + i) (by omega)]
      simp [List.getD, List.getElem?_drop]
  · unfold slAddr at hn
    split at hn
    · omega
    · have : a = none := by cases a <;> simp_all
      have := h.nil this
      omega

theorem infoByteSize : (Try.prog.info? 5).map (·.size) = some 1 := by kernel_rfl

theorem RowB.kept {S : Nat → Prop} {w w' : World} {a : Option Addr} {len cap : Nat} {bs : List Nat} (h : RowB w a len cap bs) (k : Kept S w w') (hn : 0 < len → ∀ ad, a = some ad → ¬ S ad.block) : RowB w' a len cap bs := by
  obtain ⟨h1, h2, h3, h4, h5, h6⟩ := h
  refine ⟨h1, h2, h3, h4, fun h0 => ?_, h6⟩
  obtain ⟨b, off, rfl, hc⟩ := h5 h0
  refine ⟨b, off, rfl, fun i hi => ?_⟩
  have hlt := block_lt_of_cell (hc i hi)
  exact (World.cell?_of_block (w := w) (w' := w') (a := ⟨b, off + i, none⟩) (k.block b hlt (hn h0 _ rfl))).trans (hc i hi)

/-- A row told with a lower bound of its block. -/
theorem row_of_blk {w : World} {g : Nat} {bs : List Nat} {t : TypeId} (h : Blk w g t (bA bs)) (hb : ∀ c ∈ bs, c < 256) (n : Nat) (hn : bs.length = n) (hm : n ≤ 1000000000) : RowB w (some ⟨g, 0, none⟩) n n bs := by
  subst hn; exact row_bA h hb (by unfold maxLen; omega)

theorem RowB.drewN {w : World} {a : Option Addr} {len cap : Nat} {bs : List Nat} (h : RowB w a len cap bs) (n : Nat) : RowB (w.drewN n) a len cap bs := h.below (below_drewN (Below.refl _ _) n)

/-- A slice of ints: what it reads. -/
structure RowZ (w : World) (a : Option Addr) (len cap : Nat) (zs : List Int) : Prop where
  length : zs.length = len
  le : len ≤ cap
  max : cap ≤ maxLen
  wf : ∀ z ∈ zs, (Lit.int .i64 z).wf = true
  cells : 0 < len → ∃ b off, a = some ⟨b, off, none⟩ ∧ ∀ i, i < len → w.cell? ⟨b, off + i, none⟩ = some (.int .i64 (zs.getD i 0))
  nil : a = none → cap = 0

theorem rowZ_nil (w : World) : RowZ w none 0 0 [] := ⟨rfl, Nat.le_refl _, Nat.zero_le _, by simp, fun h => absurd h (by decide), fun _ => rfl⟩

theorem rowZ_of_ints {w : World} {x : Addr} {l c : Nat} {zs : List Int} (hl : l ≤ c) (hm : c ≤ maxLen) (hz : zs.length = c)
    (hcell : ∀ i, i < zs.length → w.cell? (x.add i) = some (.int .i64 (zs.getD i 0))) (hwz : ∀ n ∈ zs, (Lit.int .i64 n).wf = true) : ∃ ys, RowZ w (some x) l c ys := by
  refine ⟨zs.take l, by simp; omega, hl, hm, fun c hc => hwz c (List.mem_of_mem_take hc), fun h0 => ?_, fun h => by cases h⟩
  obtain ⟨b, off, rfl, h⟩ := ints_at hcell (by omega)
  refine ⟨b, off, rfl, fun i hi => ?_⟩
  rw [h i (by omega)]
  simp [List.getD, List.getElem?_take_of_lt hi]

theorem RowZ.below {w w' : World} {a : Option Addr} {len cap : Nat} {zs : List Int} (h : RowZ w a len cap zs) (hb : Below w.heap.size w w') : RowZ w' a len cap zs := by
  obtain ⟨h1, h2, h3, h4, h5, h6⟩ := h
  refine ⟨h1, h2, h3, h4, fun h0 => ?_, h6⟩
  obtain ⟨b, off, rfl, hc⟩ := h5 h0
  refine ⟨b, off, rfl, fun i hi => ?_⟩
  have hlt := block_lt_of_cell (hc i hi)
  exact (hb.cell (p := ⟨b, off + i, none⟩) hlt).trans (hc i hi)

theorem bounds_i64 {z : Int} (h : (Lit.int .i64 z).wf = true) : -9223372036854775808 ≤ z ∧ z ≤ 9223372036854775807 := by
  simp only [Lit.wf, IntKind.min, IntKind.max, IntKind.signed, IntKind.bits, Bool.and_eq_true, decide_eq_true_eq, if_true] at h
  omega

theorem RowZ.bounds {w : World} {a : Option Addr} {len cap : Nat} {zs : List Int} (h : RowZ w a len cap zs) (i : Nat) : -9223372036854775808 ≤ zs.getD i 0 ∧ zs.getD i 0 ≤ 9223372036854775807 := by
  by_cases hi : i < zs.length
  · have e : zs.getD i 0 = zs[i] := by simp [List.getD, hi]
    rw [e]; exact bounds_i64 (h.wf _ (List.getElem_mem _))
  · have e : zs.getD i 0 = 0 := by simp [List.getD, hi]
    rw [e]; omega

end Go.Proofs.Ytcdfolphbabaoaa
