/-
  Rows of bytes that a call itself made: appended to, written, sliced. The table in a drawn region.
-/
import Derived.Test.YtnfiklmlmobchaaCrcD
import Derived.Test.YtnfiklmlmobchaaCrcMath2
import Derived.Laws.AppendOwnNone
import Derived.Deep.MidRow
import Derived.Deep.RegionHeld3
namespace Go.Proofs.Ytnfiklmlmobchaa
open Go.RowKit CrcM
set_option linter.unusedVariables false
set_option linter.unnecessarySimpa false
set_option linter.unusedSimpArgs false

/-- Bytes as values. -/
def bvals (bs : List Nat) : List Value := bs.map fun c => Value.int .u8 (c : Nat)
theorem bvals_length (bs : List Nat) : (bvals bs).length = bs.length := by simp [bvals]
theorem bvals_at (bs : List Nat) (i : Nat) (h : i < bs.length) : (bvals bs)[i]? = some (.int .u8 (bs.getD i 0 : Nat)) := by simp [bvals, h, List.getD]
theorem bvals_append (a b : List Nat) : bvals (a ++ b) = bvals a ++ bvals b := by simp [bvals]
theorem bvals_one (bs : List Nat) : ∀ u ∈ bvals bs, u.oneCell' = true := by
  intro u hu; obtain ⟨c, _, rfl⟩ := List.mem_map.1 hu; rfl
theorem bvals_set (bs : List Nat) (i x : Nat) : (bvals bs).set i (.int .u8 (x : Nat)) = bvals (bs.set i x) := by simp [bvals, List.map_set]

theorem Try.infoByte : (Try.prog.info? 5).map (fun i => (i.zero, i.size, i.bytes)) = some (some (.int .u8 0), 1, 1) := by kernel_rfl

/-- What a row's cells give. -/
theorem RowB.src {w : World} {a : Option Addr} {len cap : Nat} {bs : List Nat} (h : RowB w a len cap bs) (ad : Addr) (ha : a = some ad) :
    ∀ j u, (bvals bs)[j]? = some u → w.cell? (ad.add j) = some u := by
  intro j u hu
  have hj : j < bs.length := by
    by_cases hj : j < bs.length
    · exact hj
    · rw [List.getElem?_eq_none (by rw [bvals_length]; omega)] at hu; cases hu
  rw [bvals_at bs j hj] at hu
  have hlen := h.length
  obtain ⟨b, off, hab, hc⟩ := h.cells (by omega)
  rw [ha] at hab
  obtain rfl := Option.some.inj hab
  have hadd : (⟨b, off, none⟩ : Addr).add j = ⟨b, off + j, none⟩ := Addr.add_mid b off j
  rw [hadd, hc j (by omega)]
  exact hu

theorem own_row {w : World} {base : Nat} {v : Value} {n : Nat} {bs : List Nat} (h : w.ownsRow base 5 1 v n (bvals bs)) (hb : ∀ c ∈ bs, c < 256) :
    ∃ a cap, v = .slice a n cap ∧ RowB w a n cap bs := by
  have hl : bs.length = n := by have := h.1; rw [bvals_length] at this; omega
  rcases h.2 with ⟨rfl, rfl⟩ | ⟨g, cap, cur, rfl, _, hg, hn, hm, hs, ht⟩
  · exact ⟨none, 0, rfl, hl, Nat.le_refl _, Nat.zero_le _, hb, fun h => absurd h (by decide), fun _ => rfl⟩
  · refine ⟨some ⟨g, 0, none⟩, cap, rfl, hl, hn, hm, hb, fun _ => ⟨g, 0, rfl, fun i hi => ?_⟩, fun h => by cases h⟩
    rw [cell_of_row w g _ cur _ _ hg, Nat.zero_add]
    have e : (cur.toList.take (n * 1))[i]? = cur[i]? := by rw [List.getElem?_take_of_lt (by omega)]; simp
    rw [← e, ht, bvals_at bs i (by omega)]

theorem own_some {w : World} {base : Nat} {v : Value} {n : Nat} {bs : List Nat} (h : w.ownsRow base 5 1 v n (bvals bs)) (hb : ∀ c ∈ bs, c < 256) (h0 : 0 < n) :
    ∃ g cap, v = .slice (some ⟨g, 0, none⟩) n cap ∧ base ≤ g ∧ RowB w (some ⟨g, 0, none⟩) n cap bs ∧ ∀ j, w.frozen? ⟨g, j, none⟩ = false := by
  have hl : bs.length = n := by have := h.1; rw [bvals_length] at this; omega
  obtain ⟨a, cap', hv, hr⟩ := own_row h hb
  rcases h.2 with ⟨rfl, rfl⟩ | ⟨g, cap, cur, rfl, hbg, hg, hn, hm, hs, ht⟩
  · omega
  · obtain ⟨rfl, -, rfl⟩ : some (⟨g, 0, none⟩ : Addr) = a ∧ True ∧ cap = cap' := by simpa using hv
    exact ⟨g, cap, rfl, hbg, hr, fun j => frozen_of_row w g j cur _ hg⟩

theorem wpList_append_bytes {w : World} {ops : Array Oper} {rest : List Oper} {o : Oper} {a : Act} {Q : Exit → Act → World → Prop} (hgd : o.guard = none) (s x : Operand)
    (ho : o.op = .call { callee := .builtin .append, args := #[s, x], argTypes := #[22, 22] }) (base : Nat) (v : Value) (n : Nat) (bs : List Nat) (hs : a.eval s = v) (hown : w.ownsRow base 5 1 v n (bvals bs))
    (sp : Option Addr) (m c : Nat) (ds : List Nat) (hx : a.eval x = .slice sp m c) (hrow : RowB w sp m c ds) (h63 : n + m ≤ 70368744177664) (hbase : base ≤ w.heap.size)
    (h : ∀ v' w', w'.ownsRow base 5 1 v' (n + m) (bvals (bs ++ ds)) → w.grownBy w' v.ownBlock → wpList Try.prog ops Q rest (a.put o.dst v') w') : wpList Try.prog ops Q (o :: rest) a w := by
  obtain ⟨i0, hi, hz0, hz1, hz2⟩ := info_parts Try.infoByte
  cases sp with
  | none =>
    obtain rfl : c = 0 := hrow.nil rfl
    obtain rfl : m = 0 := by have := hrow.le; omega
    obtain rfl : ds = [] := List.length_eq_zero_iff.1 hrow.length
    refine wpList_append_own_none hgd s x 22 ho base 5 i0 1 Try.underlying22 hi v n (bvals bs) hs hown hx (h _ _ ?_ ?_)
    · simpa using hown
    · exact ⟨rfl, rfl, rfl, Nat.le_refl _, fun _ _ _ => rfl⟩
  | some ad =>
    refine wpList_append_own w hgd s x 22 ho base 5 i0 (.int .u8 0) 1 1 Try.underlying22 hi hz0 hz1 hz2 rfl (by decide) v n (bvals bs) hs hown ad m c (bvals ds) hx
      (by rw [bvals_length, hrow.length, Nat.mul_one]) (hrow.src ad rfl) (bvals_one ds) (by unfold maxLen; omega) (by omega) hbase ?_
    intro v' w' h1 h2 _
    exact h v' w' (by rw [bvals_append]; exact h1) h2

theorem own_made (w : World) (n base : Nat) (hn : w.heap.size = n) (hb : base ≤ n) : (w.alloc (Obj.cells #[] 5)).ownsRow base 5 1 (.slice (some ⟨n, 0, none⟩) 0 0) 0 (bvals []) := by
  subst hn
  exact World.ownsRow_made w #[] 0 hb (Nat.zero_le _) rfl

/-- Behind an append to a new row beside the table: the table is there, what was there is as it was. -/
theorem behind_append {w w3 : World} (C : Array Value) {v : Value} (hg : ((w.alloc (Obj.cells C 26)).alloc (Obj.cells #[] 5)).grownBy w3 v.ownBlock) (hv : v.ownBlock = some (w.heap.size + 1)) :
    w3.heap[w.heap.size]? = some (.cells C 26 (0, 0)) ∧ Below w.heap.size w w3 := by
  have h2 : ((w.alloc (Obj.cells C 26)).alloc (Obj.cells #[] 5)).heap.size = w.heap.size + 2 := by simp
  refine ⟨?_, hg.os, hg.tape, hg.output, by have := hg.size; omega, fun k hk => ?_⟩
  · rw [hg.block _ (by omega) (by rw [hv]; intro e; have := Option.some.inj e; omega)]
    exact heap_alloc2_old w _ _
  · rw [hg.block _ (by omega) (by rw [hv]; intro e; have := Option.some.inj e; omega), Below.heap_alloc _ _ _ (by simp; omega), Below.heap_alloc _ _ _ hk]

/-- One byte of a row is written. -/
theorem RowB.set {w : World} {g n cap : Nat} {bs : List Nat} (h : RowB w (some ⟨g, 0, none⟩) n cap bs) (i x : Nat) (hi : i < n) (hx : x < 256) :
    RowB (w.setCell ⟨g, i, none⟩ (.int .u8 (x : Nat))) (some ⟨g, 0, none⟩) n cap (bs.set i x) := by
  have hl := h.length
  refine ⟨by rw [List.length_set]; exact hl, h.le, h.max, set_lt h.lt hx, fun h0 => ?_, h.nil⟩
  obtain ⟨b, off, hab, hc⟩ := h.cells h0
  obtain ⟨rfl, rfl⟩ : g = b ∧ 0 = off := by simpa using hab
  refine ⟨g, 0, rfl, fun j hj => ?_⟩
  have hcj := hc j hj
  rw [Nat.zero_add] at *
  by_cases e : i = j
  · subst e
    rw [World.cell?_setCell_same _ _ _ hcj]
    simp [List.getD, List.getElem?_set, hl, hi]
  · rw [World.cell?_setCell_other _ _ _ _ (by simp [e]), hcj]
    simp [List.getD, List.getElem?_set, e]

theorem RowB.at0 {w : World} {g n cap : Nat} {bs : List Nat} (h : RowB w (some ⟨g, 0, none⟩) n cap bs) (i : Nat) (hi : i < n) : w.cell? ⟨g, i, none⟩ = some (.int .u8 (bs.getD i 0 : Nat)) := by
  obtain ⟨b, off, hab, hc⟩ := h.cells (by omega)
  obtain ⟨rfl, rfl⟩ : g = b ∧ 0 = off := by simpa using hab
  have := hc i hi
  rwa [Nat.zero_add] at this

/-- A row in another block is as it was. -/
theorem RowB.set_far {w : World} {a : Option Addr} {g i n cap : Nat} {bs : List Nat} {v : Value} (h : RowB w a n cap bs) (hg : ∀ ad, a = some ad → ad.block ≠ g) :
    RowB (w.setCell ⟨g, i, none⟩ v) a n cap bs := by
  refine ⟨h.length, h.le, h.max, h.lt, fun h0 => ?_, h.nil⟩
  obtain ⟨b, off, rfl, hc⟩ := h.cells h0
  have := hg _ rfl
  exact ⟨b, off, rfl, fun j hj => by rw [World.cell?_setCell_other _ _ _ _ (by simp; intro e; exact absurd e.symm this)]; exact hc j hj⟩

theorem RowB.block {w : World} {a : Option Addr} {n cap : Nat} {bs : List Nat} (h : RowB w a n cap bs) (h0 : 0 < n) : ∃ ad, a = some ad ∧ ad.block < w.heap.size := by
  obtain ⟨b, off, rfl, hc⟩ := h.cells h0
  exact ⟨_, rfl, block_lt_of_cell (hc 0 h0)⟩

/-- The table in a block. -/
theorem tab_range {w : World} {g : Nat} {t : TypeId} {fr : Nat × Nat} (h : w.heap[g]? = some (.cells tbl t fr)) : w.rangeAt g 0 tblL := by
  intro j v hv
  rw [Nat.zero_add, cell_of_row w g j tbl t fr h]
  simpa [tbl] using hv
theorem range_below {w w' : World} {g B : Nat} {cs : List Value} (h : w.rangeAt g 0 cs) (hb : Below B w w') (hg : g < B) : w'.rangeAt g 0 cs :=
  fun j v hv => (hb.cell (p := ⟨g, 0 + j, none⟩) hg).trans (h j v hv)
/-- A load, as one word: so that the walk leaves a load of a whole table in one piece. -/
def ldAt (P : Program) (t : TypeId) (v : Value) (w : World) : Result Value := (Instr.loadAt t v).run P w
theorem execOp_ld (P : Program) (e : Operand → Value) (d : Option Tmp) (t : TypeId) (x : Operand) (ty : TypeId) (pos : String) (af : Array Edge) (gu : Option (Nat × Bool)) (w : World) :
    (execOp e { dst := d, op := .load t x, type := ty, pos := pos, after := af, guard := gu }).run P w = (ldAt P t (e x) w).andThen fun a w' => .ok (.value a) w' := by
  unfold execOp ldAt
  simp only [Sem.run_bind, Sem.run_pure]
theorem execOp_ldT (P : Program) (e : Operand → Value) (d : Option Tmp) (x : Operand) (ty : TypeId) (pos : String) (af : Array Edge) (gu : Option (Nat × Bool)) (w : World) :
    (execOp e { dst := d, op := .load 26 x, type := ty, pos := pos, after := af, guard := gu }).run P w = (ldAt P 26 (e x) w).andThen fun a w' => .ok (.value a) w' := execOp_ld P e d _ x ty pos af gu w
theorem ld_tbl {P : Program} {t : TypeId} {g : Nat} {d : TypeDesc} (hu : P.underlying t = some d) (hd : d.isRow = true) (hi : (P.info? t).map (·.size) = some tblL.length) (w : World) (h : w.rangeAt g 0 tblL) :
    ldAt P t (.pointer (some ⟨g, 0, none⟩)) w = .ok (.agg tbl) w := run_loadAt_mid w g 0 t tblL d h hu hd hi
theorem range_keep {w w' : World} {g : Nat} {cs : List Value} (h : w.rangeAt g 0 cs) (hb : Below w.heap.size w w') : w'.rangeAt g 0 cs :=
  fun j v hv => (hb.cell (p := ⟨g, 0 + j, none⟩) (block_lt_of_cell (h j v hv))).trans (h j v hv)
theorem enter_sum (args : Array Value) (w : World) : (callFunc 16 args).run Try.prog w = .ok (.enter 16 args) w := by kernel_rfl
theorem enter_raw (args : Array Value) (w : World) : (callFunc 13 args).run Try.prog w = .ok (.enter 13 args) w := by kernel_rfl
theorem info_tblL : (Try.prog.info? 26).map (·.size) = some tblL.length := by rw [tblL_length]; exact Try.infoTab

/-- A row of bytes that the call made. -/
def bA (bs : List Nat) : Array Value := (bvals bs).toArray
theorem bA_size (bs : List Nat) : (bA bs).size = bs.length := by simp [bA, bvals]
theorem bA_at (bs : List Nat) (i : Nat) (h : i < bs.length) : (bA bs)[i]? = some (.int .u8 (bs.getD i 0 : Nat)) := by
  unfold bA; rw [List.getElem?_toArray]; exact bvals_at bs i h
theorem bA_set (bs : List Nat) (i x : Nat) : (bA bs).setIfInBounds i (.int .u8 (x : Nat)) = bA (bs.set i x) := by
  unfold bA; rw [← bvals_set]; simp
theorem row_bA {w : World} {g : Nat} {bs : List Nat} {t : TypeId} {fr : Nat × Nat} (h : w.heap[g]? = some (.cells (bA bs) t fr)) (hb : ∀ c ∈ bs, c < 256) (hm : bs.length ≤ maxLen) :
    RowB w (some ⟨g, 0, none⟩) bs.length bs.length bs := row_of_heap h (by simp only [bA, bvals]; exact List.take_of_length_le (by simp)) hb (Nat.le_refl _) hm
def zeros (n : Nat) : List Nat := List.replicate n 0
theorem zeros_length (n : Nat) : (zeros n).length = n := by simp [zeros]
theorem zeros_lt (n : Nat) : ∀ c ∈ zeros n, c < 256 := by intro c hc; rw [(List.mem_replicate.1 hc).2]; decide
theorem zeros_num (n : Nat) : num (zeros n) = 0 := num_zeros n
theorem make_bytes (w : World) (n : Nat) (h : n ≤ 70368744177664) :
    (Instr.makeSlice 22 (.int .i64 n) (.int .i64 n)).run Try.prog w = .ok (.slice (some ⟨w.heap.size, 0, none⟩) n n) (w.alloc (Obj.cells (bA (zeros n)) 5)) := by
  obtain ⟨i0, hi, hz0, hz1, hz2⟩ := info_parts Try.infoByte
  have hr := run_make (P := Try.prog) w 22 5 i0 (.int .u8 0) Try.underlying22 hi hz0 .i64 .i64 n n (by omega) (Int.le_refl _) (by rw [hz2]; omega) (by omega)
  rw [hr, hz1, Int.toNat_natCast, Nat.mul_one]
  have e : madeCells (Value.int .u8 0).cells n = bA (zeros n) := by
    apply Array.ext'
    simp [madeCells, bA, bvals, zeros, Value.cells]
    apply List.ext_getElem? ; intro i
    by_cases hi : i < n <;> simp [hi]
    all_goals (rw [Nat.mod_one]; rfl)
  rw [e]

theorem or_val (x k : Nat) (hx : x < 256) (hk : k < 8) : bits BinOp.or IntKind.u8 (x : Int) (2 ^ k % 256) = ((x ||| 2 ^ k : Nat) : Int) := by
  have hp : 2 ^ k < 256 := Nat.lt_of_lt_of_le (Nat.pow_lt_pow_right (by decide) hk) (by decide)
  have e := u8_or_nat x (2 ^ k) hx hp
  rw [show ((2 : Int) ^ k % 256) = ((2 ^ k : Nat) : Int) from by
    have h1 : ((2 ^ k % 256 : Nat) : Int) = (2 : Int) ^ k % 256 := by rw [Int.natCast_emod, Int.natCast_pow]; rfl
    rw [← h1, Nat.mod_eq_of_lt hp]]
  exact e

theorem bne_int {a b : Nat} (h : a ≠ b) : ((a : Int) != (b : Int)) = true := by rw [bne_iff_ne]; omega
theorem bne_same (a : Nat) : ((a : Int) != (a : Int)) = false := by simp

/-- One bit is put into a row of bytes that hasn't it: the steps of the walk, and what the row is then. -/
theorem put_bit (bs : List Nat) (n at_ : Nat) (hl : bs.length = n) (hb : ∀ c ∈ bs, c < 256) (ha : at_ < 8 * n) (h : (num bs).testBit at_ = false) :
    ∃ (x y : Nat) (bs' : List Nat), (bA bs)[at_ / 8]? = some (.int .u8 (x : Nat)) ∧ bits BinOp.or IntKind.u8 (x : Int) (2 ^ (at_ % 8) % 256) = (y : Int) ∧
      (bA bs).setIfInBounds (at_ / 8) (.int .u8 (y : Nat)) = bA bs' ∧ bs'.length = n ∧ (∀ c ∈ bs', c < 256) ∧ num bs' = num bs ^^^ 2 ^ at_ := by
  have hk : at_ % 8 < 8 := Nat.mod_lt _ (by decide)
  have hi : at_ / 8 < bs.length := by omega
  have hx := getD_lt hb (at_ / 8)
  have hp : 2 ^ (at_ % 8) < 256 := Nat.lt_of_lt_of_le (Nat.pow_lt_pow_right (by decide) hk) (by decide)
  have e8 : 8 * (at_ / 8) + at_ % 8 = at_ := by omega
  refine ⟨bs.getD (at_ / 8) 0, bs.getD (at_ / 8) 0 ||| 2 ^ (at_ % 8), _, bA_at bs _ hi, or_val _ _ hx hk, bA_set bs _ _, by rw [List.length_set]; exact hl, set_lt hb (Nat.or_lt_two_pow (n := 8) hx hp), ?_⟩
  rw [num_or bs _ _ hi hb hk (by rw [e8]; exact h), e8]

end Go.Proofs.Ytnfiklmlmobchaa
