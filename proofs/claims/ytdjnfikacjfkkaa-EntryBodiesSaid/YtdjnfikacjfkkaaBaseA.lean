/-
  Slices of bytes: what they read; rows that a call itself made: appended to, written, sliced, copied.
-/
import Derived.Test.YtdjnfikacjfkkaaProg
import Derived.Test.YtdjnfikacjfkkaaCrcMath2
import Derived.Test.YtdjnfikacjfkkaaBaseK
import Derived.WalkKit
import Derived.WalkSpells
import Derived.WalkLawsBesides
import Derived.Lib.Hide
import Derived.Laws.BitsAllLaws
import Derived.Laws.CopyOwn
import Derived.Laws.AppendOwnNone
import Derived.Maps.AppendAt
import Derived.Deep.MidRow
import Derived.Deep.RegionHeld3
import Derived.Deep.QuietTactic
import Derived.BigQuiet
import Derived.Lib.SlBytesConst
import Derived.OpenShut
namespace Go.Proofs.Ytdjnfikacjfkkaa
open Go.RowKit CrcM
set_option linter.unusedVariables false
set_option linter.unnecessarySimpa false
set_option linter.unusedSimpArgs false

/-- A slice of bytes: what it reads. -/
structure RowB (w : World) (a : Option Addr) (len cap : Nat) (bs : List Nat) : Prop where
  length : bs.length = len
  le : len ≤ cap
  max : cap ≤ maxLen
  lt : ∀ c ∈ bs, c < 256
  cells : 0 < len → ∃ b off, a = some ⟨b, off, none⟩ ∧ ∀ i, i < len → w.cell? ⟨b, off + i, none⟩ = some (.int .u8 (bs.getD i 0 : Nat))
  nil : a = none → cap = 0

theorem take_snoc_nat (bs : List Nat) (k : Nat) (h : k < bs.length) : bs.take (k + 1) = bs.take k ++ [bs.getD k 0] := by
  rw [List.take_succ_eq_append_getElem h]; simp [List.getD, h]

theorem getD_lt {bs : List Nat} (hb : ∀ c ∈ bs, c < 256) (k : Nat) : bs.getD k 0 < 256 := by
  by_cases h : k < bs.length
  · have : bs.getD k 0 = bs[k] := by simp [List.getD, h]
    rw [this]; exact hb _ (List.getElem_mem _)
  · simp [List.getD, h]

theorem RowB.below {w w' : World} {a : Option Addr} {len cap : Nat} {bs : List Nat} (h : RowB w a len cap bs) (hb : Below w.heap.size w w') : RowB w' a len cap bs := by
  obtain ⟨h1, h2, h3, h4, h5, h6⟩ := h
  refine ⟨h1, h2, h3, h4, fun h0 => ?_, h6⟩
  obtain ⟨b, off, rfl, hc⟩ := h5 h0
  refine ⟨b, off, rfl, fun i hi => ?_⟩
  have hlt := block_lt_of_cell (hc i hi)
  exact (hb.cell (p := ⟨b, off + i, none⟩) hlt).trans (hc i hi)

theorem ret_int {k : IntKind} {a b : Int} (h : a = b) : Ending.returned (.int k a) = .returned (.int k b) := by rw [h]

theorem ret_val {a b : Value} (h : a = b) : Ending.returned a = .returned b := by rw [h]

theorem ret_bool {a b : Bool} (h : a = b) : Ending.returned (.bool a) = .returned (.bool b) := by rw [h]

theorem below_alloc (w : World) (o : Obj) : Below w.heap.size w (w.alloc o) := (Below.refl _ _).alloc (Nat.le_refl _) _

theorem row_one (w : World) (g c : Nat) (t : TypeId) (hc : c < 256) (h : w.heap[g]? = some (.cells #[.int .u8 (c : Nat)] t (0, 0))) : RowB w (some ⟨g, 0, none⟩) 1 1 [c] := by
  refine ⟨rfl, Nat.le_refl _, by unfold maxLen; omega, by simpa using hc, fun _ => ⟨g, 0, rfl, fun i hi => ?_⟩, fun h => by cases h⟩
  obtain rfl : i = 0 := by omega
  rw [cell_of_row w g _ _ t _ h]; rfl

theorem row_of_heap {w : World} {g cap : Nat} {bs : List Nat} {C : Array Value} {t : TypeId} {fr : Nat × Nat} (h : w.heap[g]? = some (.cells C t fr)) (hC : C.toList.take bs.length = bs.map fun c => Value.int .u8 (c : Nat))
    (hb : ∀ c ∈ bs, c < 256) (hc : bs.length ≤ cap) (hm : cap ≤ maxLen) : RowB w (some ⟨g, 0, none⟩) bs.length cap bs := by
  refine ⟨rfl, hc, hm, hb, fun _ => ⟨g, 0, rfl, fun i hi => ?_⟩, fun h => by cases h⟩
  rw [cell_of_row w g _ C t fr h, Nat.zero_add]
  have e : (C.toList.take bs.length)[i]? = C[i]? := by rw [List.getElem?_take_of_lt hi]; simp
  rw [← e, hC]
  simp [hi, List.getD]

theorem row_nil (w : World) : RowB w none 0 0 [] := ⟨rfl, Nat.le_refl _, Nat.zero_le _, by simp, fun h => absurd h (by decide), fun _ => rfl⟩

theorem row_of_ints {w : World} {x : Addr} {l c : Nat} {zs : List Int} (hl : l ≤ c) (hm : c ≤ maxLen) (hz : zs.length = c)
    (hcell : ∀ i, i < zs.length → w.cell? (x.add i) = some (.int .u8 (zs.getD i 0))) (hwz : ∀ n ∈ zs, (Lit.int .u8 n).wf = true) : ∃ bs, RowB w (some x) l c bs := by
  refine ⟨(zs.take l).map Int.toNat, by simp; omega, hl, hm, fun c hc => ?_, fun h0 => ?_, fun h => by cases h⟩
  · obtain ⟨n, hn, rfl⟩ := List.mem_map.1 hc
    have := bounds_u8 (hwz n (List.mem_of_mem_take hn))
    omega
  · obtain ⟨b, off, rfl, h⟩ := ints_at hcell (by omega)
    refine ⟨b, off, rfl, fun i hi => ?_⟩
    rw [h i (by omega)]
    have hb := range_u8 hwz i
    have e : ((zs.take l).map Int.toNat).getD i 0 = (zs.getD i 0).toNat := by
      simp [List.getD, List.getElem?_take_of_lt hi]
      cases zs[i]? <;> simp
    rw [e]
    have e2 : zs.getD i 0 = zs[i]?.getD 0 := rfl
    rw [e2] at *
    congr 2
    omega

theorem setRow_new (w : World) (C D : Array Value) (t : TypeId) : (w.alloc (Obj.cells C t)).setRow w.heap.size D = w.alloc (Obj.cells D t) := by
  have hm : ∀ (a : Array Obj) (x : Obj) (f : Obj → Obj), (a.push x).modify a.size f = a.push (f x) := by
    intro a x f
    apply Array.ext
    · simp
    · intro i h1 h2
      simp only [Array.getElem_modify, Array.getElem_push]
      by_cases h : a.size = i
      · subst h; simp
      · have hi : i < a.size := by simp at h1; omega
        simp [h, hi]
  unfold World.setRow
  show ({ w.alloc (.cells C t) with heap := (w.heap.push (.cells C t)).modify w.heap.size _ } : World) = _
  rw [hm]
  rfl

theorem bthen {w w1 w2 : World} (h : Below w.heap.size w w1) (k : Below w1.heap.size w1 w2) : Below w.heap.size w w2 := h.trans (k.mono h.size)

/-- Bytes as values. -/
def bvals (bs : List Nat) : List Value := bs.map fun c => Value.int .u8 (c : Nat)

theorem bvals_length (bs : List Nat) : (bvals bs).length = bs.length := by simp [bvals]

theorem bvals_at (bs : List Nat) (i : Nat) (h : i < bs.length) : (bvals bs)[i]? = some (.int .u8 (bs.getD i 0 : Nat)) := by simp [bvals, h, List.getD]

theorem bvals_append (a b : List Nat) : bvals (a ++ b) = bvals a ++ bvals b := by simp [bvals]

theorem bvals_one (bs : List Nat) : ∀ u ∈ bvals bs, u.oneCell' = true := by
  intro u hu; obtain ⟨c, _, rfl⟩ := List.mem_map.1 hu; rfl

theorem bvals_set (bs : List Nat) (i x : Nat) : (bvals bs).set i (.int .u8 (x : Nat)) = bvals (bs.set i x) := by simp [bvals, List.map_set]

theorem Try.infoByte : (Try.prog.info? 5).map (fun i => (i.zero, i.size, i.bytes)) = some (some (.int .u8 0), 1, 1) := by kernel_rfl

/-- What a row's cells give. -/
theorem RowB.src {w : World} {a : Option Addr} {len cap : Nat} {bs : List Nat} (h : RowB w a len cap bs) (ad : Addr) (ha : a = some ad) :
    ∀ j u, (bvals bs)[j]? = some u → w.cell? (ad.add j) = some u := by
  intro j u hu
  have hj : j < bs.length := by
    by_cases hj : j < bs.length
    · exact hj
    · rw [List.getElem?_eq_none (by rw [bvals_length]; omega)] at hu; cases hu
  rw [bvals_at bs j hj] at hu
  have hlen := h.length
  obtain ⟨b, off, hab, hc⟩ := h.cells (by omega)
  rw [ha] at hab
  obtain rfl := Option.some.inj hab
  have hadd : (⟨b, off, none⟩ : Addr).add j = ⟨b, off + j, none⟩ := Addr.add_mid b off j
  rw [hadd, hc j (by omega)]
  exact hu

theorem own_row {w : World} {base : Nat} {v : Value} {n : Nat} {bs : List Nat} (h : w.ownsRow base 5 1 v n (bvals bs)) (hb : ∀ c ∈ bs, c < 256) :
    ∃ a cap, v = .slice a n cap ∧ RowB w a n cap bs := by
  have hl : bs.length = n := by have := h.1; rw [bvals_length] at this; omega
  rcases h.2 with ⟨rfl, rfl⟩ | ⟨g, cap, cur, rfl, _, hg, hn, hm, hs, ht⟩
  · exact ⟨none, 0, rfl, hl, Nat.le_refl _, Nat.zero_le _, hb, fun h => absurd h (by decide), fun _ => rfl⟩
  · refine ⟨some ⟨g, 0, none⟩, cap, rfl, hl, hn, hm, hb, fun _ => ⟨g, 0, rfl, fun i hi => ?_⟩, fun h => by cases h⟩
    rw [cell_of_row w g _ cur _ _ hg, Nat.zero_add]
    have e : (cur.toList.take (n * 1))[i]? = cur[i]? := by rw [List.getElem?_take_of_lt (by omega)]; simp
    rw [← e, ht, bvals_at bs i (by omega)]

theorem own_some {w : World} {base : Nat} {v : Value} {n : Nat} {bs : List Nat} (h : w.ownsRow base 5 1 v n (bvals bs)) (hb : ∀ c ∈ bs, c < 256) (h0 : 0 < n) :
    ∃ g cap, v = .slice (some ⟨g, 0, none⟩) n cap ∧ base ≤ g ∧ RowB w (some ⟨g, 0, none⟩) n cap bs ∧ ∀ j, w.frozen? ⟨g, j, none⟩ = false := by
  have hl : bs.length = n := by have := h.1; rw [bvals_length] at this; omega
  obtain ⟨a, cap', hv, hr⟩ := own_row h hb
  rcases h.2 with ⟨rfl, rfl⟩ | ⟨g, cap, cur, rfl, hbg, hg, hn, hm, hs, ht⟩
  · omega
  · obtain ⟨rfl, -, rfl⟩ : some (⟨g, 0, none⟩ : Addr) = a ∧ True ∧ cap = cap' := by simpa using hv
    exact ⟨g, cap, rfl, hbg, hr, fun j => frozen_of_row w g j cur _ hg⟩

theorem wpList_append_bytes {w : World} {ops : Array Oper} {rest : List Oper} {o : Oper} {a : Act} {Q : Exit → Act → World → Prop} (hgd : o.guard = none) (s x : Operand)
    (ho : o.op = .call { callee := .builtin .append, args := #[s, x], argTypes := #[51, 51] }) (base : Nat) (v : Value) (n : Nat) (bs : List Nat) (hs : a.eval s = v) (hown : w.ownsRow base 5 1 v n (bvals bs))
    (sp : Option Addr) (m c : Nat) (ds : List Nat) (hx : a.eval x = .slice sp m c) (hrow : RowB w sp m c ds) (h63 : n + m ≤ 70368744177664) (hbase : base ≤ w.heap.size)
    (h : ∀ v' w', w'.ownsRow base 5 1 v' (n + m) (bvals (bs ++ ds)) → w.grownBy w' v.ownBlock → wpList Try.prog ops Q rest (a.put o.dst v') w') : wpList Try.prog ops Q (o :: rest) a w := by
  obtain ⟨i0, hi, hz0, hz1, hz2⟩ := info_parts Try.infoByte
  cases sp with
  | none =>
    obtain rfl : c = 0 := hrow.nil rfl
    obtain rfl : m = 0 := by have := hrow.le; omega
    obtain rfl : ds = [] := List.length_eq_zero_iff.1 hrow.length
    refine wpList_append_own_none hgd s x 51 ho base 5 i0 1 Try.underlying51 hi v n (bvals bs) hs hown hx (h _ _ ?_ ?_)
    · simpa using hown
    · exact ⟨rfl, rfl, rfl, Nat.le_refl _, fun _ _ _ => rfl⟩
  | some ad =>
    refine wpList_append_own w hgd s x 51 ho base 5 i0 (.int .u8 0) 1 1 Try.underlying51 hi hz0 hz1 hz2 rfl (by decide) v n (bvals bs) hs hown ad m c (bvals ds) hx
      (by rw [bvals_length, hrow.length, Nat.mul_one]) (hrow.src ad rfl) (bvals_one ds) (by unfold maxLen; omega) (by omega) hbase ?_
    intro v' w' h1 h2 _
    exact h v' w' (by rw [bvals_append]; exact h1) h2

/-- As above; and it is told where the row lies then. -/
theorem wpList_append_bytes_at {w : World} {ops : Array Oper} {rest : List Oper} {o : Oper} {a : Act} {Q : Exit → Act → World → Prop} (hgd : o.guard = none) (s x : Operand)
    (ho : o.op = .call { callee := .builtin .append, args := #[s, x], argTypes := #[51, 51] }) (base : Nat) (v : Value) (n : Nat) (bs : List Nat) (hs : a.eval s = v) (hown : w.ownsRow base 5 1 v n (bvals bs))
    (sp : Option Addr) (m c : Nat) (ds : List Nat) (hx : a.eval x = .slice sp m c) (hrow : RowB w sp m c ds) (h63 : n + m ≤ 70368744177664) (hbase : base ≤ w.heap.size)
    (h : ∀ v' w', w'.ownsRow base 5 1 v' (n + m) (bvals (bs ++ ds)) → w.grownBy w' v.ownBlock → (v'.ownBlock = v.ownBlock ∨ v'.ownBlock = some w.heap.size) → wpList Try.prog ops Q rest (a.put o.dst v') w') : wpList Try.prog ops Q (o :: rest) a w := by
  obtain ⟨i0, hi, hz0, hz1, hz2⟩ := info_parts Try.infoByte
  cases sp with
  | none =>
    obtain rfl : c = 0 := hrow.nil rfl
    obtain rfl : m = 0 := by have := hrow.le; omega
    obtain rfl : ds = [] := List.length_eq_zero_iff.1 hrow.length
    refine wpList_append_own_none hgd s x 51 ho base 5 i0 1 Try.underlying51 hi v n (bvals bs) hs hown hx (h _ _ ?_ ?_ (.inl rfl))
    · simpa using hown
    · exact ⟨rfl, rfl, rfl, Nat.le_refl _, fun _ _ _ => rfl⟩
  | some ad =>
    refine wpList_append_own_at w hgd s x 51 ho base 5 i0 (.int .u8 0) 1 1 Try.underlying51 hi hz0 hz1 hz2 rfl (by decide) v n (bvals bs) hs hown ad m c (bvals ds) hx
      (by rw [bvals_length, hrow.length, Nat.mul_one]) (hrow.src ad rfl) (bvals_one ds) (by unfold maxLen; omega) (by omega) hbase ?_
    intro v' w' h1 h2 _ h4
    exact h v' w' (by rw [bvals_append]; exact h1) h2 h4

theorem own_made (w : World) (n base : Nat) (hn : w.heap.size = n) (hb : base ≤ n) : (w.alloc (Obj.cells #[] 5)).ownsRow base 5 1 (.slice (some ⟨n, 0, none⟩) 0 0) 0 (bvals []) := by
  subst hn
  exact World.ownsRow_made w #[] 0 hb (Nat.zero_le _) rfl

/-- One byte of a row is written. -/
theorem RowB.set {w : World} {g n cap : Nat} {bs : List Nat} (h : RowB w (some ⟨g, 0, none⟩) n cap bs) (i x : Nat) (hi : i < n) (hx : x < 256) :
    RowB (w.setCell ⟨g, i, none⟩ (.int .u8 (x : Nat))) (some ⟨g, 0, none⟩) n cap (bs.set i x) := by
  have hl := h.length
  refine ⟨by rw [List.length_set]; exact hl, h.le, h.max, set_lt h.lt hx, fun h0 => ?_, h.nil⟩
  obtain ⟨b, off, hab, hc⟩ := h.cells h0
  obtain ⟨rfl, rfl⟩ : g = b ∧ 0 = off := by simpa using hab
  refine ⟨g, 0, rfl, fun j hj => ?_⟩
  have hcj := hc j hj
  rw [Nat.zero_add] at *
  by_cases e : i = j
  · subst e
    rw [World.cell?_setCell_same _ _ _ hcj]
    simp [List.getD, List.getElem?_set, hl, hi]
  · rw [World.cell?_setCell_other _ _ _ _ (by simp [e]), hcj]
    simp [List.getD, List.getElem?_set, e]

theorem RowB.at0 {w : World} {g n cap : Nat} {bs : List Nat} (h : RowB w (some ⟨g, 0, none⟩) n cap bs) (i : Nat) (hi : i < n) : w.cell? ⟨g, i, none⟩ = some (.int .u8 (bs.getD i 0 : Nat)) := by
  obtain ⟨b, off, hab, hc⟩ := h.cells (by omega)
  obtain ⟨rfl, rfl⟩ : g = b ∧ 0 = off := by simpa using hab
  have := hc i hi
  rwa [Nat.zero_add] at this

/-- A row in another block is as it was. -/
theorem RowB.set_far {w : World} {a : Option Addr} {g i n cap : Nat} {bs : List Nat} {v : Value} (h : RowB w a n cap bs) (hg : ∀ ad, a = some ad → ad.block ≠ g) :
    RowB (w.setCell ⟨g, i, none⟩ v) a n cap bs := by
  refine ⟨h.length, h.le, h.max, h.lt, fun h0 => ?_, h.nil⟩
  obtain ⟨b, off, rfl, hc⟩ := h.cells h0
  have := hg _ rfl
  exact ⟨b, off, rfl, fun j hj => by rw [World.cell?_setCell_other _ _ _ _ (by simp; intro e; exact absurd e.symm this)]; exact hc j hj⟩

theorem RowB.block {w : World} {a : Option Addr} {n cap : Nat} {bs : List Nat} (h : RowB w a n cap bs) (h0 : 0 < n) : ∃ ad, a = some ad ∧ ad.block < w.heap.size := by
  obtain ⟨b, off, rfl, hc⟩ := h.cells h0
  exact ⟨_, rfl, block_lt_of_cell (hc 0 h0)⟩

/-- A row of bytes that the call made. -/
def bA (bs : List Nat) : Array Value := (bvals bs).toArray

theorem bA_size (bs : List Nat) : (bA bs).size = bs.length := by simp [bA, bvals]

theorem bA_at (bs : List Nat) (i : Nat) (h : i < bs.length) : (bA bs)[i]? = some (.int .u8 (bs.getD i 0 : Nat)) := by
  unfold bA; rw [List.getElem?_toArray]; exact bvals_at bs i h

theorem bA_set (bs : List Nat) (i x : Nat) : (bA bs).setIfInBounds i (.int .u8 (x : Nat)) = bA (bs.set i x) := by
  unfold bA; rw [← bvals_set]; simp

theorem row_bA {w : World} {g : Nat} {bs : List Nat} {t : TypeId} {fr : Nat × Nat} (h : w.heap[g]? = some (.cells (bA bs) t fr)) (hb : ∀ c ∈ bs, c < 256) (hm : bs.length ≤ maxLen) :
    RowB w (some ⟨g, 0, none⟩) bs.length bs.length bs := row_of_heap h (by simp only [bA, bvals]; exact List.take_of_length_le (by simp)) hb (Nat.le_refl _) hm

def zeros (n : Nat) : List Nat := List.replicate n 0

theorem zeros_length (n : Nat) : (zeros n).length = n := by simp [zeros]

theorem zeros_lt (n : Nat) : ∀ c ∈ zeros n, c < 256 := by intro c hc; rw [(List.mem_replicate.1 hc).2]; decide

theorem make_bytes (w : World) (n : Nat) (h : n ≤ 70368744177664) :
    (Instr.makeSlice 51 (.int .i64 n) (.int .i64 n)).run Try.prog w = .ok (.slice (some ⟨w.heap.size, 0, none⟩) n n) (w.alloc (Obj.cells (bA (zeros n)) 5)) := by
  obtain ⟨i0, hi, hz0, hz1, hz2⟩ := info_parts Try.infoByte
  have hr := run_make (P := Try.prog) w 51 5 i0 (.int .u8 0) Try.underlying51 hi hz0 .i64 .i64 n n (by omega) (Int.le_refl _) (by rw [hz2]; omega) (by omega)
  rw [hr, hz1, Int.toNat_natCast, Nat.mul_one]
  have e : madeCells (Value.int .u8 0).cells n = bA (zeros n) := by
    apply Array.ext'
    simp [madeCells, bA, bvals, zeros, Value.cells]
    apply List.ext_getElem? ; intro i
    by_cases hi : i < n <;> simp [hi]
    all_goals (rw [Nat.mod_one]; rfl)
  rw [e]

theorem bne_int {a b : Nat} (h : a ≠ b) : ((a : Int) != (b : Int)) = true := by rw [bne_iff_ne]; omega

theorem bne_same (a : Nat) : ((a : Int) != (a : Int)) = false := by simp

/-- Where a slice from a place on begins. -/
def slAddr (a : Option Addr) (cap lo : Nat) : Option Addr := if cap = lo then a else a.map (·.add lo)

theorem run_slice_to (w : World) (a : Option Addr) (len cap n : Nat) (h : n ≤ cap) (hm : cap ≤ maxLen) :
    (Instr.slice 51 (.slice a len cap) none (some (.int .i64 n)) none).run Try.prog w = .ok (.slice a n cap) w := by
  obtain ⟨i0, hi, hz0, hz1, hz2⟩ := info_parts Try.infoByte
  unfold maxLen at hm
  have hwr : IntKind.i64.wrap (n : Int) = n := by rw [IntKind.wrap_i64]; omega
  have hb : (0 : Int) ≤ n ∧ (n : Int) ≤ cap := by omega
  have ha : (if cap = 0 then a else a.map (·.add (0 * i0.size))) = a := by
    cases a <;> simp [Addr.add]
  simp [Instr.slice, Instr.sliceBounds, Instr.sliceBound, run_underlying Try.underlying51, asIntOf, sizeOf, typeInfo, hi, hb]
  cases a <;> simp [Addr.add] <;> (intro hh; omega)

theorem run_slice_from (w : World) (a : Option Addr) (len cap lo : Nat) (h : lo ≤ len) (hc : len ≤ cap) (hm : cap ≤ maxLen) :
    (Instr.slice 51 (.slice a len cap) (some (.int .i64 lo)) none none).run Try.prog w = .ok (.slice (slAddr a cap lo) (len - lo) (cap - lo)) w := by
  obtain ⟨i0, hi, hz0, hz1, hz2⟩ := info_parts Try.infoByte
  have hb : (0 : Int) ≤ lo ∧ (lo : Int) ≤ len := by omega
  simp [Instr.slice, Instr.sliceBounds, Instr.sliceBound, run_underlying Try.underlying51, asIntOf, sizeOf, typeInfo, hi, hb, hz1, slAddr]
  intro hh; omega

theorem run_sliceAt_to (w : World) (a : Option Addr) (len cap n : Nat) (h : n ≤ cap) (hm : cap ≤ maxLen) :
    (Instr.sliceAt 51 (.slice a len cap) none (some (.int .i64 n)) none).run Try.prog w = .ok (.slice a n cap) w := by
  have h1 := run_slice_to w a len cap n h hm
  unfold Instr.sliceAt
  rw [Sem.run_bind, run_underlying Try.underlying51]
  exact h1

theorem run_sliceAt_from (w : World) (a : Option Addr) (len cap lo : Nat) (h : lo ≤ len) (hc : len ≤ cap) (hm : cap ≤ maxLen) :
    (Instr.sliceAt 51 (.slice a len cap) (some (.int .i64 lo)) none none).run Try.prog w = .ok (.slice (slAddr a cap lo) (len - lo) (cap - lo)) w := by
  have h1 := run_slice_from w a len cap lo h hc hm
  unfold Instr.sliceAt
  rw [Sem.run_bind, run_underlying Try.underlying51]
  exact h1

theorem run_slice_mid (w : World) (a : Option Addr) (len cap lo hi : Nat) (h : lo ≤ hi) (hc : hi ≤ cap) (hm : cap ≤ maxLen) :
    (Instr.slice 51 (.slice a len cap) (some (.int .i64 lo)) (some (.int .i64 hi)) none).run Try.prog w = .ok (.slice (slAddr a cap lo) (hi - lo) (cap - lo)) w := by
  obtain ⟨i0, hi0, hz0, hz1, hz2⟩ := info_parts Try.infoByte
  have hb : (0 : Int) ≤ lo ∧ (lo : Int) ≤ hi := by omega
  have hb2 : (0 : Int) ≤ hi ∧ (hi : Int) ≤ cap := by omega
  simp [Instr.slice, Instr.sliceBounds, Instr.sliceBound, run_underlying Try.underlying51, asIntOf, sizeOf, typeInfo, hi0, hb, hb2, hz1, slAddr]
  rw [if_pos hc, if_pos h]

theorem run_sliceAt_mid (w : World) (a : Option Addr) (len cap lo hi : Nat) (h : lo ≤ hi) (hc : hi ≤ cap) (hm : cap ≤ maxLen) :
    (Instr.sliceAt 51 (.slice a len cap) (some (.int .i64 lo)) (some (.int .i64 hi)) none).run Try.prog w = .ok (.slice (slAddr a cap lo) (hi - lo) (cap - lo)) w := by
  have h1 := run_slice_mid w a len cap lo hi h hc hm
  unfold Instr.sliceAt
  rw [Sem.run_bind, run_underlying Try.underlying51]
  exact h1

theorem run_slice_three (w : World) (a : Option Addr) (len cap n : Nat) (h : n ≤ cap) (hm : cap ≤ maxLen) :
    (Instr.slice 51 (.slice a len cap) none (some (.int .i64 n)) (some (.int .i64 n))).run Try.prog w = .ok (.slice a n n) w := by
  obtain ⟨i0, hi0, hz0, hz1, hz2⟩ := info_parts Try.infoByte
  have hb : (0 : Int) ≤ n ∧ (n : Int) ≤ n := by omega
  have hb2 : (0 : Int) ≤ n ∧ (n : Int) ≤ cap := by omega
  simp [Instr.slice, Instr.sliceBounds, Instr.sliceBound, run_underlying Try.underlying51, asIntOf, sizeOf, typeInfo, hi0, hb, hb2, hz1]
  cases a <;> simp [Addr.add] <;> (intro hh; omega)

theorem run_sliceAt_three (w : World) (a : Option Addr) (len cap n : Nat) (h : n ≤ cap) (hm : cap ≤ maxLen) :
    (Instr.sliceAt 51 (.slice a len cap) none (some (.int .i64 n)) (some (.int .i64 n))).run Try.prog w = .ok (.slice a n n) w := by
  have h1 := run_slice_three w a len cap n h hm
  unfold Instr.sliceAt
  rw [Sem.run_bind, run_underlying Try.underlying51]
  exact h1

/-- A row whose capacity is told less. -/
theorem RowB.recap {w : World} {a : Option Addr} {len cap : Nat} {bs : List Nat} (h : RowB w a len cap bs) (c : Nat) (h1 : len ≤ c) (h2 : c ≤ cap) : RowB w a len c bs :=
  ⟨h.length, h1, Nat.le_trans h2 h.max, h.lt, h.cells, fun e => by have := h.nil e; omega⟩

theorem RowB.to {w : World} {a : Option Addr} {len cap : Nat} {bs : List Nat} (h : RowB w a len cap bs) (n : Nat) (hn : n ≤ len) : RowB w a n cap (bs.take n) := by
  have hl := h.length
  refine ⟨by simp; omega, Nat.le_trans hn h.le, h.max, fun c hc => h.lt c (List.mem_of_mem_take hc), fun h0 => ?_, h.nil⟩
  obtain ⟨b, off, rfl, hc⟩ := h.cells (by omega)
  refine ⟨b, off, rfl, fun i hi => ?_⟩
  rw [hc i (by omega)]
  simp [List.getD, List.getElem?_take_of_lt hi]

theorem RowB.from {w : World} {a : Option Addr} {len cap : Nat} {bs : List Nat} (h : RowB w a len cap bs) (lo : Nat) (hn : lo ≤ len) : RowB w (slAddr a cap lo) (len - lo) (cap - lo) (bs.drop lo) := by
  have hl := h.length
  have hle := h.le
  refine ⟨by simp; omega, by omega, by have := h.max; omega, fun c hc => h.lt c (List.mem_of_mem_drop hc), fun h0 => ?_, fun hn => ?_⟩
  · obtain ⟨b, off, rfl, hc⟩ := h.cells (by omega)
    refine ⟨b, off + lo, ?_, fun i hi => ?_⟩
    · unfold slAddr; rw [if_neg (by omega)]; simp [Addr.add_mid]
    · rw [Nat.add_assoc, hc (lo + i) (by omega)]
      simp [List.getD, List.getElem?_drop]
  · unfold slAddr at hn
    split at hn
    · omega
    · have : a = none := by cases a <;> simp_all
      have := h.nil this
      omega

theorem infoByteSize : (Try.prog.info? 5).map (·.size) = some 1 := by kernel_rfl

theorem wpList_copy_bytes {w : World} {ops : Array Oper} {rest : List Oper} {o : Oper} {a : Act} {Q : Exit → Act → World → Prop} (hgd : o.guard = none) (d s : Operand)
    (ho : o.op = .call { callee := .builtin .copy, args := #[d, s], argTypes := #[51, 51] }) (g dLen dCap : Nat) (ds : List Nat) (sp : Option Addr) (sLen sCap : Nat) (bs : List Nat)
    (hd : a.eval d = .slice (some ⟨g, 0, none⟩) dLen dCap) (hs : a.eval s = .slice sp sLen sCap) (hg : w.heap[g]? = some (.cells (bA ds) 5 (0, 0))) (hl : ds.length = dLen) (hrow : RowB w sp sLen sCap bs)
    (h : ∀ w', w'.heap[g]? = some (.cells (bA (bs.take dLen ++ ds.drop (min sLen dLen))) 5 (0, 0)) → Below g w w' → wpList Try.prog ops Q rest (a.put o.dst (goInt (min sLen dLen : Nat))) w') :
    wpList Try.prog ops Q (o :: rest) a w := by
  have hbl := hrow.length
  have hlen : (bvals (bs.take dLen)).length = min sLen dLen := by rw [bvals_length, List.length_take, hbl, Nat.min_comm]
  refine wpList_copy_splice hgd d s _ _ ho 5 Try.underlying51 infoByteSize _ _ _ _ _ _ hd hs g 0 (bvals ds) 5 hg (bvals (bs.take dLen)) hlen ?_ ?_ (bvals_one _) g w (Below.refl _ _) (Nat.le_refl _) ?_
  · intro h0
    rw [hlen] at h0
    have h0' : 0 < sLen := by omega
    obtain ⟨b, off, rfl, _⟩ := hrow.cells h0'
    refine ⟨rfl, _, rfl, fun j v hv => ?_⟩
    refine hrow.src _ rfl j v ?_
    have hj : j < (bvals (bs.take dLen)).length := by
      by_cases hj : j < (bvals (bs.take dLen)).length
      · exact hj
      · rw [List.getElem?_eq_none (by omega)] at hv; cases hv
    rw [hlen] at hj
    rw [← hv]
    simp only [bvals, List.getElem?_map, List.getElem?_take_of_lt (show j < dLen by omega)]
  · rw [hlen, bvals_length, hl]; omega
  · intro w' hg' hb'
    rw [hlen]
    refine h w' ?_ hb'
    have hg2 := hg'.out
    rw [hg2]
    have e : splice (bvals ds) 0 (bvals (bs.take dLen)) = bvals (bs.take dLen ++ ds.drop (min sLen dLen)) := by
      unfold splice
      rw [hlen, bvals_append]
      simp [bvals]
    rw [e]; rfl

theorem RowB.kept {S : Nat → Prop} {w w' : World} {a : Option Addr} {len cap : Nat} {bs : List Nat} (h : RowB w a len cap bs) (k : Kept S w w') (hn : 0 < len → ∀ ad, a = some ad → ¬ S ad.block) : RowB w' a len cap bs := by
  obtain ⟨h1, h2, h3, h4, h5, h6⟩ := h
  refine ⟨h1, h2, h3, h4, fun h0 => ?_, h6⟩
  obtain ⟨b, off, rfl, hc⟩ := h5 h0
  refine ⟨b, off, rfl, fun i hi => ?_⟩
  have hlt := block_lt_of_cell (hc i hi)
  exact (World.cell?_of_block (w := w) (w' := w') (a := ⟨b, off + i, none⟩) (k.block b hlt (hn h0 _ rfl))).trans (hc i hi)

/-- A row told with a lower bound of its block. -/
theorem row_of_blk {w : World} {g : Nat} {bs : List Nat} {t : TypeId} (h : Blk w g t (bA bs)) (hb : ∀ c ∈ bs, c < 256) (n : Nat) (hn : bs.length = n) (hm : n ≤ 1000000000) : RowB w (some ⟨g, 0, none⟩) n n bs := by
  subst hn; exact row_bA h hb (by unfold maxLen; omega)

theorem RowB.drewN {w : World} {a : Option Addr} {len cap : Nat} {bs : List Nat} (h : RowB w a len cap bs) (n : Nat) : RowB (w.drewN n) a len cap bs := h.below (below_drewN (Below.refl _ _) n)

/-- A slice of ints: what it reads. -/
structure RowZ (w : World) (a : Option Addr) (len cap : Nat) (zs : List Int) : Prop where
  length : zs.length = len
  le : len ≤ cap
  max : cap ≤ maxLen
  wf : ∀ z ∈ zs, (Lit.int .i64 z).wf = true
  cells : 0 < len → ∃ b off, a = some ⟨b, off, none⟩ ∧ ∀ i, i < len → w.cell? ⟨b, off + i, none⟩ = some (.int .i64 (zs.getD i 0))
  nil : a = none → cap = 0

theorem rowZ_nil (w : World) : RowZ w none 0 0 [] := ⟨rfl, Nat.le_refl _, Nat.zero_le _, by simp, fun h => absurd h (by decide), fun _ => rfl⟩

theorem rowZ_of_ints {w : World} {x : Addr} {l c : Nat} {zs : List Int} (hl : l ≤ c) (hm : c ≤ maxLen) (hz : zs.length = c)
    (hcell : ∀ i, i < zs.length → w.cell? (x.add i) = some (.int .i64 (zs.getD i 0))) (hwz : ∀ n ∈ zs, (Lit.int .i64 n).wf = true) : ∃ ys, RowZ w (some x) l c ys := by
  refine ⟨zs.take l, by simp; omega, hl, hm, fun c hc => hwz c (List.mem_of_mem_take hc), fun h0 => ?_, fun h => by cases h⟩
  obtain ⟨b, off, rfl, h⟩ := ints_at hcell (by omega)
  refine ⟨b, off, rfl, fun i hi => ?_⟩
  rw [h i (by omega)]
  simp [List.getD, List.getElem?_take_of_lt hi]

theorem RowZ.below {w w' : World} {a : Option Addr} {len cap : Nat} {zs : List Int} (h : RowZ w a len cap zs) (hb : Below w.heap.size w w') : RowZ w' a len cap zs := by
  obtain ⟨h1, h2, h3, h4, h5, h6⟩ := h
  refine ⟨h1, h2, h3, h4, fun h0 => ?_, h6⟩
  obtain ⟨b, off, rfl, hc⟩ := h5 h0
  refine ⟨b, off, rfl, fun i hi => ?_⟩
  have hlt := block_lt_of_cell (hc i hi)
  exact (hb.cell (p := ⟨b, off + i, none⟩) hlt).trans (hc i hi)

theorem bounds_i64 {z : Int} (h : (Lit.int .i64 z).wf = true) : -9223372036854775808 ≤ z ∧ z ≤ 9223372036854775807 := by
  simp only [Lit.wf, IntKind.min, IntKind.max, IntKind.signed, IntKind.bits, Bool.and_eq_true, decide_eq_true_eq, if_true] at h
  omega

theorem RowZ.bounds {w : World} {a : Option Addr} {len cap : Nat} {zs : List Int} (h : RowZ w a len cap zs) (i : Nat) : -9223372036854775808 ≤ zs.getD i 0 ∧ zs.getD i 0 ≤ 9223372036854775807 := by
  by_cases hi : i < zs.length
  · have e : zs.getD i 0 = zs[i] := by simp [List.getD, hi]
    rw [e]; exact bounds_i64 (h.wf _ (List.getElem_mem _))
  · have e : zs.getD i 0 = 0 := by simp [List.getD, hi]
    rw [e]; omega

end Go.Proofs.Ytdjnfikacjfkkaa
