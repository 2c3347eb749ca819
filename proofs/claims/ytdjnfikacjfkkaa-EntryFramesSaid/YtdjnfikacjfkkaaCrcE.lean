/-
  Rows of bytes that a call itself made: appended to, written, sliced. The table in a drawn region.
-/
import Derived.Test.YtdjnfikacjfkkaaCrcD
import Derived.Test.YtdjnfikacjfkkaaCrcMath2
import Derived.Laws.AppendOwnNone
import Derived.Deep.MidRow
import Derived.Deep.RegionHeld3
namespace Go.Proofs.Ytdjnfikacjfkkaa
open Go.RowKit CrcM
set_option linter.unusedVariables false
set_option linter.unnecessarySimpa false
set_option linter.unusedSimpArgs false

/-- The table in a block. -/
theorem tab_range {w : World} {g : Nat} {t : TypeId} {fr : Nat × Nat} (h : w.heap[g]? = some (.cells tbl t fr)) : w.rangeAt g 0 tblL := by
  intro j v hv
  rw [Nat.zero_add, cell_of_row w g j tbl t fr h]
  simpa [tbl] using hv

theorem range_below {w w' : World} {g B : Nat} {cs : List Value} (h : w.rangeAt g 0 cs) (hb : Below B w w') (hg : g < B) : w'.rangeAt g 0 cs :=
  fun j v hv => (hb.cell (p := ⟨g, 0 + j, none⟩) hg).trans (h j v hv)

/-- A load, as one word: so that the walk leaves a load of a whole table in one piece. -/
def ldAt (P : Program) (t : TypeId) (v : Value) (w : World) : Result Value := (Instr.loadAt t v).run P w

theorem execOp_ld (P : Program) (e : Operand → Value) (d : Option Tmp) (t : TypeId) (x : Operand) (ty : TypeId) (pos : String) (af : Array Edge) (gu : Option (Nat × Bool)) (w : World) :
    (execOp e { dst := d, op := .load t x, type := ty, pos := pos, after := af, guard := gu }).run P w = (ldAt P t (e x) w).andThen fun a w' => .ok (.value a) w' := by
  unfold execOp ldAt
  simp only [Sem.run_bind, Sem.run_pure]

theorem ld_tbl {P : Program} {t : TypeId} {g : Nat} {d : TypeDesc} (hu : P.underlying t = some d) (hd : d.isRow = true) (hi : (P.info? t).map (·.size) = some tblL.length) (w : World) (h : w.rangeAt g 0 tblL) :
    ldAt P t (.pointer (some ⟨g, 0, none⟩)) w = .ok (.agg tbl) w := run_loadAt_mid w g 0 t tblL d h hu hd hi

theorem range_keep {w w' : World} {g : Nat} {cs : List Value} (h : w.rangeAt g 0 cs) (hb : Below w.heap.size w w') : w'.rangeAt g 0 cs :=
  fun j v hv => (hb.cell (p := ⟨g, 0 + j, none⟩) (block_lt_of_cell (h j v hv))).trans (h j v hv)

theorem zeros_num (n : Nat) : num (zeros n) = 0 := num_zeros n

theorem or_val (x k : Nat) (hx : x < 256) (hk : k < 8) : bits BinOp.or IntKind.u8 (x : Int) (2 ^ k % 256) = ((x ||| 2 ^ k : Nat) : Int) := by
  have hp : 2 ^ k < 256 := Nat.lt_of_lt_of_le (Nat.pow_lt_pow_right (by decide) hk) (by decide)
  have e := u8_or_nat x (2 ^ k) hx hp
  rw [show ((2 : Int) ^ k % 256) = ((2 ^ k : Nat) : Int) from by
    have h1 : ((2 ^ k % 256 : Nat) : Int) = (2 : Int) ^ k % 256 := by rw [Int.natCast_emod, Int.natCast_pow]; rfl
    rw [← h1, Nat.mod_eq_of_lt hp]]
  exact e

/-- One bit is put into a row of bytes that hasn't it: the steps of the walk, and what the row is then. -/
theorem put_bit (bs : List Nat) (n at_ : Nat) (hl : bs.length = n) (hb : ∀ c ∈ bs, c < 256) (ha : at_ < 8 * n) (h : (num bs).testBit at_ = false) :
    ∃ (x y : Nat) (bs' : List Nat), (bA bs)[at_ / 8]? = some (.int .u8 (x : Nat)) ∧ bits BinOp.or IntKind.u8 (x : Int) (2 ^ (at_ % 8) % 256) = (y : Int) ∧
      (bA bs).setIfInBounds (at_ / 8) (.int .u8 (y : Nat)) = bA bs' ∧ bs'.length = n ∧ (∀ c ∈ bs', c < 256) ∧ num bs' = num bs ^^^ 2 ^ at_ := by
  have hk : at_ % 8 < 8 := Nat.mod_lt _ (by decide)
  have hi : at_ / 8 < bs.length := by omega
  have hx := getD_lt hb (at_ / 8)
  have hp : 2 ^ (at_ % 8) < 256 := Nat.lt_of_lt_of_le (Nat.pow_lt_pow_right (by decide) hk) (by decide)
  have e8 : 8 * (at_ / 8) + at_ % 8 = at_ := by omega
  refine ⟨bs.getD (at_ / 8) 0, bs.getD (at_ / 8) 0 ||| 2 ^ (at_ % 8), _, bA_at bs _ hi, or_val _ _ hx hk, bA_set bs _ _, by rw [List.length_set]; exact hl, set_lt hb (Nat.or_lt_two_pow (n := 8) hx hp), ?_⟩
  rw [num_or bs _ _ hi hb hk (by rw [e8]; exact h), e8]

end Go.Proofs.Ytdjnfikacjfkkaa
