import Derived.Test.YtajkajgnjcnolaaMg02
import Derived.WalkKit
import Derived.WalkSpells
import Derived.WalkLawsBesides
import Derived.Lib.Hide
import Derived.Laws.BitsAllLaws
import Derived.Laws.CopyOwn
import Derived.Deep.QuietTactic
import Derived.BigQuiet
import Derived.Lib.SlBytesConst
import Derived.OpenShut
import Derived.Test.YtajkajgnjcnolaaMg01
import Derived.Laws.AppendOwnNone
import Derived.Deep.MidRow
import Derived.Deep.RegionHeld3
import Derived.Deep.DeepCutAuto
import Derived.Laws.StructEq
import Derived.ChangeKeysEq
import Derived.ChangeSame
import Derived.WideShapes
import Derived.Deep.Slices
/-
  Contracts of layer 2 (codec), second part: pens.
-/
namespace Go.Proofs.Ytajkajgnjcnolaa
open Go.RowKit CrcM
set_option linter.unusedVariables false
set_option linter.unnecessarySimpa false
set_option linter.unusedSimpArgs false

/-- What own tells: a row of its own. -/
def OwnPost (n : Nat) (bs : List Nat) (w : World) (e : Ending) (w' : World) : Prop :=
  ∃ g, e = .returned (.slice (some ⟨g, 0, none⟩) n n) ∧ w.heap.size ≤ g ∧ Blk w' g 5 (bA bs) ∧ Below w.heap.size w w'

theorem own_start (bs : List Nat) (n : Nat) (h : bs.length = n) : bs.take n ++ (zeros n).drop (min n n) = bs := by
  rw [Nat.min_self, List.take_of_length_le (by omega), List.drop_of_length_le (by rw [zeros_length]; omega), List.append_nil]

/-- The blocks that a call of a pen may change. -/
def PenSet (p : Nat) (v : Value) (k : Nat) : Prop := k = p ∨ some k = v.ownBlock

theorem PenSet.nil {p k : Nat} (h : PenSet p (.slice none 0 0) k) : k = p := by
  rcases h with h | h
  · exact h
  · cases h

theorem leb_set (wd k x : Nat) (hk : k < wd) (hw : wd ≤ 7) :
    (bA (leb k x ++ zeros (7 - k))).setIfInBounds k (.int .u8 ((x / 2 ^ (8 * k) % 256 : Nat) : Int)) = bA (leb (k + 1) x ++ zeros (7 - (k + 1))) := by
  rw [bA_set, List.set_append_right _ _ (by rw [leb_length]; omega), leb_length, leb_succ]
  have e : zeros (7 - k) = 0 :: zeros (7 - (k + 1)) := by
    unfold zeros; rw [show 7 - k = (7 - (k + 1)) + 1 by omega, List.replicate_succ]
  rw [e, Nat.sub_self, List.set_cons_zero]
  simp

theorem byte_val (x k : Nat) : (x : Int) / 2 ^ (8 * k) % 256 = ((x / 2 ^ (8 * k) % 256 : Nat) : Int) := by
  rw [Int.natCast_emod, Int.natCast_ediv, Int.natCast_pow]; rfl

/-- What Out tells of a right pen. -/
def OutOk (bs : List Nat) (w : World) (e : Ending) (w' : World) : Prop :=
  ∃ g, e = .returned (.tuple #[.slice (some ⟨g, 0, none⟩) bs.length bs.length, .int .i64 0]) ∧ w.heap.size ≤ g ∧ Blk w' g 5 (bA bs) ∧ Below w.heap.size w w'

end Go.Proofs.Ytajkajgnjcnolaa

/-
  Contracts of layer 2 (codec), third part: readers.
-/
namespace Go.Proofs.Ytajkajgnjcnolaa
open Go.RowKit CrcM
set_option linter.unusedVariables false
set_option linter.unnecessarySimpa false
set_option linter.unusedSimpArgs false

theorem i64_or_nat (a b : Nat) (ha : a < 9223372036854775808) (hb : b < 9223372036854775808) : bits .or .i64 (a : Int) (b : Int) = ((a ||| b : Nat) : Int) := by
  have hx : a ||| b < 2 ^ 63 := Nat.or_lt_two_pow (by omega) (by omega)
  show IntKind.i64.wrap ((BitVec.ofInt 64 (a : Int) ||| BitVec.ofInt 64 (b : Int)).toNat : Int) = _
  rw [BitVec.toNat_or, ofInt_u64 a (by omega), ofInt_u64 b (by omega), IntKind.wrap_i64]
  omega

theorem slAddr_block (a : Option Addr) (cap lo : Nat) (ad : Addr) (h : slAddr a cap lo = some ad) : ∃ ad', a = some ad' ∧ ad'.block = ad.block := by
  unfold slAddr at h
  split at h
  · exact ⟨ad, h, rfl⟩
  · cases a with
    | none => cases h
    | some x => obtain rfl := Option.some.inj h; exact ⟨x, rfl, by unfold Addr.add; split <;> rfl⟩

/-- What Done tells. -/
def doneN (b : Bool) (n : Nat) : Int := if b = true ∨ 0 < n then 14 else 0
theorem doneN_bad (n : Nat) : doneN true n = 14 := by simp [doneN]
theorem doneN_left (b : Bool) (n : Nat) (h : 0 < n) : doneN b n = 14 := by unfold doneN; rw [if_pos (.inr h)]
theorem doneN_ok : doneN false 0 = 0 := by simp [doneN]

theorem num7_lt (bs : List Nat) (hb : ∀ c ∈ bs, c < 256) (k : Nat) (hk : k ≤ 7) : num (bs.take k) < 72057594037927936 := by
  have h1 := num_lt (bs.take k) (fun c hc => hb c (List.mem_of_mem_take hc))
  have : (bs.take k).length ≤ 7 := by simp; omega
  exact Nat.lt_of_lt_of_le h1 (Nat.le_trans (Nat.pow_le_pow_right (by decide) (Nat.mul_le_mul_left 8 this)) (by decide))

theorem int_next (bs : List Nat) (k : Nat) (hk : k < 7) (hl : k < bs.length) (hb : ∀ c ∈ bs, c < 256) :
    bits BinOp.or IntKind.i64 ((num (bs.take k) : Nat) : Int) (wrap64 (((bs.getD k 0 : Nat) : Int) * 2 ^ (8 * k))) = ((num (bs.take (k + 1)) : Nat) : Int) := by
  have ht : ∀ c ∈ bs.take k, c < 256 := fun c hc => hb c (List.mem_of_mem_take hc)
  have h1 := num7_lt bs hb k (by omega)
  have hlen : (bs.take k).length = k := by simp; omega
  have hp : 2 ^ (8 * k) ≤ 2 ^ 48 := Nat.pow_le_pow_right (by decide) (by omega)
  have hc := getD_lt hb k
  have h2 : bs.getD k 0 * 2 ^ (8 * k) < 9223372036854775808 := by
    have : bs.getD k 0 * 2 ^ (8 * k) ≤ 255 * 2 ^ 48 := Nat.mul_le_mul (by omega) hp
    omega
  rw [take_snoc_nat bs k hl, num_snoc _ _ ht, hlen]
  have e : (((bs.getD k 0 : Nat) : Int) * 2 ^ (8 * k)) = ((bs.getD k 0 * 2 ^ (8 * k) : Nat) : Int) := by
    rw [Int.natCast_mul, Int.natCast_pow]; rfl
  rw [e, show wrap64 ((bs.getD k 0 * 2 ^ (8 * k) : Nat) : Int) = ((bs.getD k 0 * 2 ^ (8 * k) : Nat) : Int) from by unfold wrap64; omega]
  exact i64_or_nat _ _ (by omega) h2

end Go.Proofs.Ytajkajgnjcnolaa

/-
  The document's Same: two slices of bytes.
-/
namespace Go.Proofs.Ytajkajgnjcnolaa
open Go.RowKit CrcM
set_option linter.unusedVariables false
set_option linter.unnecessarySimpa false
set_option linter.unusedSimpArgs false

/-- The world of a call that only draws. -/
def Drawn (b : Bool) (w : World) (e : Ending) (w' : World) : Prop := e = .returned (.bool b) ∧ ∃ n, w' = w.drewN n

theorem take_eq_succ {xs bs : List Nat} {k : Nat} (ha : k < xs.length) (hb : k < bs.length) (h : xs.take k = bs.take k) (e : xs.getD k 0 = bs.getD k 0) : xs.take (k + 1) = bs.take (k + 1) := by
  rw [take_snoc_nat xs k ha, take_snoc_nat bs k hb, h, e]

end Go.Proofs.Ytajkajgnjcnolaa

/-
  Contracts of the document's own answers of layer 2 (Num, Read), and of the anchor.
-/
namespace Go.Proofs.Ytajkajgnjcnolaa
open Go.RowKit CrcM
set_option linter.unusedVariables false
set_option linter.unnecessarySimpa false
set_option linter.unusedSimpArgs false

/-- What the document's Num tells: a row of the call's own. -/
def RNumPost (bs : List Nat) (w : World) (e : Ending) (w' : World) : Prop :=
  ∃ a cap, e = .returned (.slice a bs.length cap) ∧ RowB w' a bs.length cap bs ∧ (∀ ad, a = some ad → w.heap.size ≤ ad.block) ∧ Below w.heap.size w w'

theorem div_next (x j : Nat) : x / 2 ^ (8 * j) / 256 = x / 2 ^ (8 * (j + 1)) := by
  rw [Nat.div_div_eq_div_mul, show 8 * (j + 1) = 8 * j + 8 by omega, Nat.pow_add]

/-- Numbers from behind. -/
theorem num_drop (bs : List Nat) (j : Nat) (h : j < bs.length) : num (bs.drop j) = bs.getD j 0 + 256 * num (bs.drop (j + 1)) := by
  rw [List.drop_eq_getElem_cons h]
  show bs[j] + 256 * num (bs.drop (j + 1)) = _
  simp [List.getD, h]

theorem leb_inj (k x y : Nat) (hx : fitB (k : Int) (x : Int) = true) (hy : fitB (k : Int) (y : Int) = true) : leb k x = leb k y ↔ x = y := by
  have h1 := of_decide_eq_true hx
  have h2 := of_decide_eq_true hy
  rw [Int.toNat_natCast, pow256, pow256'] at h1 h2
  constructor
  · intro h
    have := congrArg num h
    rw [leb_num, leb_num, Nat.mod_eq_of_lt (by omega), Nat.mod_eq_of_lt (by omega)] at this
    exact this
  · rintro rfl; rfl
theorem leb_back (k x : Nat) (hx : fitB (k : Int) (x : Int) = true) : num (leb k x) = x := by
  have h1 := of_decide_eq_true hx
  rw [Int.toNat_natCast, pow256, pow256'] at h1
  rw [leb_num, Nat.mod_eq_of_lt (by omega)]

end Go.Proofs.Ytajkajgnjcnolaa

/-
  Contracts of layer 1's calls (crc): halve, goOn, New, Raw, Step, Sum.
-/
namespace Go.Proofs.Ytajkajgnjcnolaa
open Go.RowKit CrcM
set_option linter.unusedVariables false
set_option linter.unnecessarySimpa false
set_option linter.unusedSimpArgs false

theorem ret_u32 {a b : Int} (h : a = b) : Ending.returned (.int .u32 a) = .returned (.int .u32 b) := by rw [h]

theorem and1 (r : Nat) (h : r < 4294967296) : bits BinOp.and IntKind.u32 (r : Int) 1 = ((r % 2 : Nat) : Int) := by
  have e := u32_and_nat r 1 h (by decide)
  rw [show ((1 : Nat) : Int) = 1 from rfl] at e
  rw [e, Nat.and_one_is_mod]

theorem hv_even {r : Nat} (h : r % 2 = 0) : hv r = r / 2 := by unfold hv; rw [if_neg (by omega)]

theorem hv_odd {r : Nat} (h : r % 2 = 1) : hv r = (r / 2) ^^^ poly := by unfold hv; rw [if_pos h]

theorem xor_poly (r : Nat) (h : r < 4294967296) : bits BinOp.xor IntKind.u32 ((r : Int) / 2) 2197175160 = (((r / 2) ^^^ poly : Nat) : Int) := by
  have e := u32_xor_nat (r / 2) 2197175160 (by omega) (by decide)
  rw [show ((2197175160 : Nat) : Int) = 2197175160 from rfl, show ((r / 2 : Nat) : Int) = (r : Int) / 2 from by omega] at e
  rw [e]; rfl

/-- The table's cells. -/
def TabAt (w : World) (tb : Nat) : Prop := ∀ i : Nat, i < 256 → w.cell? ⟨tb, i, none⟩ = some (.int .u32 (tw i : Nat))

theorem xor8 (t c : Nat) (hc : c < 256) : bits BinOp.xor IntKind.u8 ((t : Int) % 256) (c : Int) = (((t % 256) ^^^ c : Nat) : Int) := by
  have e := u8_xor_nat (t % 256) c (Nat.mod_lt _ (by decide)) hc
  rw [show ((t % 256 : Nat) : Int) = (t : Int) % 256 from by omega] at e
  exact e

theorem xor32 (v t : Nat) (hv : v < 4294967296) (ht : t < 4294967296) : bits BinOp.xor IntKind.u32 (v : Int) ((t : Int) / 256) = ((v ^^^ (t / 256) : Nat) : Int) := by
  have e := u32_xor_nat v (t / 256) hv (by omega)
  rw [show ((t / 256 : Nat) : Int) = (t : Int) / 256 from by omega] at e
  exact e

theorem x8_lt (t c : Nat) (hc : c < 256) : (t % 256) ^^^ c < 256 := Nat.xor_lt_two_pow (n := 8) (Nat.mod_lt _ (by decide)) hc

end Go.Proofs.Ytajkajgnjcnolaa

/-
  Contracts of layer 1's calls (crc): Raw, Step, Sum; New.
-/
namespace Go.Proofs.Ytajkajgnjcnolaa
open Go.RowKit CrcM
set_option linter.unusedVariables false
set_option linter.unnecessarySimpa false
set_option linter.unusedSimpArgs false

/-- The table as a value. -/
def tblL : List Value := (List.range 256).map fun i => Value.int .u32 (tw i : Nat)

def tbl : Array Value := tblL.toArray

theorem tbl_size : tbl.size = 256 := by simp [tbl, tblL]

theorem tblL_length : tblL.length = 256 := by simp [tblL]

theorem tbl_at (i : Nat) (h : i < 256) : tbl[i]? = some (.int .u32 (tw i : Nat)) := by simp [tbl, tblL, h]

theorem tblL_at (i : Nat) (h : i < 256) : tblL[i]? = some (.int .u32 (tw i : Nat)) := by simp [tblL, h]

theorem TabAt.of_heap {w : World} {g : Nat} {t : TypeId} {fr : Nat × Nat} (h : w.heap[g]? = some (.cells tbl t fr)) : TabAt w g :=
  fun i hi => by rw [cell_of_row w g i tbl t fr h]; exact tbl_at i hi

theorem not_u32 (x : Nat) (h : x < 4294967296) : bits BinOp.xor IntKind.u32 IntKind.u32.max (x : Int) = ((x ^^^ 4294967295 : Nat) : Int) := by
  have e := u32_xor_nat 4294967295 x (by decide) h
  rw [show IntKind.u32.max = ((4294967295 : Nat) : Int) from by decide, e, Nat.xor_comm]

theorem tab_kept {w w' : World} {g : Nat} (h : TabAt w g) (hb : Below w.heap.size w w') : TabAt w' g :=
  fun i hi => (hb.cell (p := ⟨g, i, none⟩) (block_lt_of_cell (h i hi))).trans (h i hi)

/-- The first k words of the table, and noughts behind them. -/
def pt (k : Nat) : Array Value := ((List.range 256).map fun i => Value.int .u32 ((if i < k then tw i else 0 : Nat) : Int)).toArray

theorem pt_size (k : Nat) : (pt k).size = 256 := by simp [pt]

theorem pt_full : pt 256 = tbl := by
  have h : ∀ i ∈ List.range 256, Value.int .u32 ((if i < 256 then tw i else 0 : Nat) : Int) = Value.int .u32 ((tw i : Nat) : Int) := fun i hi => by rw [if_pos (by simpa using hi)]
  unfold pt tbl tblL; rw [List.map_congr_left h]

theorem pt_set (k : Nat) (h : k < 256) : (pt k).setIfInBounds k (.int .u32 ((tw k : Nat) : Int)) = pt (k + 1) := by
  apply Array.ext_getElem?
  intro i
  rw [Array.getElem?_setIfInBounds]
  by_cases hi : i < 256
  · by_cases hk : k = i
    · subst hk; simp [pt, h]
    · rw [if_neg hk]
      simp only [pt, List.getElem?_toArray, List.getElem?_map, List.getElem?_range hi, Option.map_some]
      by_cases h1 : i < k
      · rw [if_pos h1, if_pos (by omega)]
      · rw [if_neg h1, if_neg (by omega)]
  · rw [if_neg (by omega)]
    simp [pt, hi]

theorem pt_at (k : Nat) (h : k < 256) : (pt k)[k]? = some (.int .u32 0) := by simp [pt, h]

theorem pt_cells (k : Nat) : (pt k).all (·.oneCell') = true := by
  unfold pt; simp [Array.all_eq_true_iff_forall_mem, Value.oneCell']

theorem tbl_cells : tbl.all (·.oneCell') = true := by rw [← pt_full]; exact pt_cells 256

theorem u32_wrap (k : Nat) (h : k < 256) : IntKind.u32.wrap (k : Int) = k := by rw [IntKind.wrap_u32']; omega

end Go.Proofs.Ytajkajgnjcnolaa

/-
  Contracts of the document's own answers of layer 1 (step, Over, Sum, Same, Bit), of word, and of the anchor.
-/
namespace Go.Proofs.Ytajkajgnjcnolaa
open Go.RowKit CrcM
set_option linter.unusedVariables false
set_option linter.unnecessarySimpa false
set_option linter.unusedSimpArgs false

theorem xor32n (a b : Nat) (ha : a < 4294967296) (hb : b < 4294967296) : bits BinOp.xor IntKind.u32 (a : Int) (b : Int) = ((a ^^^ b : Nat) : Int) := u32_xor_nat a b ha hb

theorem xor_half (r : Nat) (h : r < 4294967296) (ho : r % 2 = 1) : bits BinOp.xor IntKind.u32 ((r : Int) / 2) 2197175160 = ((hv r : Nat) : Int) := by
  rw [xor_poly r h, hv_odd ho]

theorem anchor_sum : sm [49, 50, 51, 52, 53, 54, 55, 56, 57] = 3808858755 := by decide +kernel

end Go.Proofs.Ytajkajgnjcnolaa

/-
  Small facts for the laws of layer 1: a slice of bytes that came in; the table in a box of the law's own.
-/
namespace Go.Proofs.Ytajkajgnjcnolaa
open Go.RowKit CrcM
set_option linter.unusedVariables false
set_option linter.unnecessarySimpa false
set_option linter.unusedSimpArgs false

end Go.Proofs.Ytajkajgnjcnolaa

/-
  Rows of bytes that a call itself made: appended to, written, sliced. The table in a drawn region.
-/
namespace Go.Proofs.Ytajkajgnjcnolaa
open Go.RowKit CrcM
set_option linter.unusedVariables false
set_option linter.unnecessarySimpa false
set_option linter.unusedSimpArgs false

/-- The table in a block. -/
theorem tab_range {w : World} {g : Nat} {t : TypeId} {fr : Nat × Nat} (h : w.heap[g]? = some (.cells tbl t fr)) : w.rangeAt g 0 tblL := by
  intro j v hv
  rw [Nat.zero_add, cell_of_row w g j tbl t fr h]
  simpa [tbl] using hv

theorem range_below {w w' : World} {g B : Nat} {cs : List Value} (h : w.rangeAt g 0 cs) (hb : Below B w w') (hg : g < B) : w'.rangeAt g 0 cs :=
  fun j v hv => (hb.cell (p := ⟨g, 0 + j, none⟩) hg).trans (h j v hv)

/-- A load, as one word: so that the walk leaves a load of a whole table in one piece. -/
def ldAt (P : Program) (t : TypeId) (v : Value) (w : World) : Result Value := (Instr.loadAt t v).run P w

theorem execOp_ld (P : Program) (e : Operand → Value) (d : Option Tmp) (t : TypeId) (x : Operand) (ty : TypeId) (pos : String) (af : Array Edge) (gu : Option (Nat × Bool)) (w : World) :
    (execOp e { dst := d, op := .load t x, type := ty, pos := pos, after := af, guard := gu }).run P w = (ldAt P t (e x) w).andThen fun a w' => .ok (.value a) w' := by
  unfold execOp ldAt
  simp only [Sem.run_bind, Sem.run_pure]

theorem ld_tbl {P : Program} {t : TypeId} {g : Nat} {d : TypeDesc} (hu : P.underlying t = some d) (hd : d.isRow = true) (hi : (P.info? t).map (·.size) = some tblL.length) (w : World) (h : w.rangeAt g 0 tblL) :
    ldAt P t (.pointer (some ⟨g, 0, none⟩)) w = .ok (.agg tbl) w := run_loadAt_mid w g 0 t tblL d h hu hd hi

theorem range_keep {w w' : World} {g : Nat} {cs : List Value} (h : w.rangeAt g 0 cs) (hb : Below w.heap.size w w') : w'.rangeAt g 0 cs :=
  fun j v hv => (hb.cell (p := ⟨g, 0 + j, none⟩) (block_lt_of_cell (h j v hv))).trans (h j v hv)

theorem zeros_num (n : Nat) : num (zeros n) = 0 := num_zeros n

theorem or_val (x k : Nat) (hx : x < 256) (hk : k < 8) : bits BinOp.or IntKind.u8 (x : Int) (2 ^ k % 256) = ((x ||| 2 ^ k : Nat) : Int) := by
  have hp : 2 ^ k < 256 := Nat.lt_of_lt_of_le (Nat.pow_lt_pow_right (by decide) hk) (by decide)
  have e := u8_or_nat x (2 ^ k) hx hp
  rw [show ((2 : Int) ^ k % 256) = ((2 ^ k : Nat) : Int) from by
    have h1 : ((2 ^ k % 256 : Nat) : Int) = (2 : Int) ^ k % 256 := by rw [Int.natCast_emod, Int.natCast_pow]; rfl
    rw [← h1, Nat.mod_eq_of_lt hp]]
  exact e

/-- One bit is put into a row of bytes that hasn't it: the steps of the walk, and what the row is then. -/
theorem put_bit (bs : List Nat) (n at_ : Nat) (hl : bs.length = n) (hb : ∀ c ∈ bs, c < 256) (ha : at_ < 8 * n) (h : (num bs).testBit at_ = false) :
    ∃ (x y : Nat) (bs' : List Nat), (bA bs)[at_ / 8]? = some (.int .u8 (x : Nat)) ∧ bits BinOp.or IntKind.u8 (x : Int) (2 ^ (at_ % 8) % 256) = (y : Int) ∧
      (bA bs).setIfInBounds (at_ / 8) (.int .u8 (y : Nat)) = bA bs' ∧ bs'.length = n ∧ (∀ c ∈ bs', c < 256) ∧ num bs' = num bs ^^^ 2 ^ at_ := by
  have hk : at_ % 8 < 8 := Nat.mod_lt _ (by decide)
  have hi : at_ / 8 < bs.length := by omega
  have hx := getD_lt hb (at_ / 8)
  have hp : 2 ^ (at_ % 8) < 256 := Nat.lt_of_lt_of_le (Nat.pow_lt_pow_right (by decide) hk) (by decide)
  have e8 : 8 * (at_ / 8) + at_ % 8 = at_ := by omega
  refine ⟨bs.getD (at_ / 8) 0, bs.getD (at_ / 8) 0 ||| 2 ^ (at_ % 8), _, bA_at bs _ hi, or_val _ _ hx hk, bA_set bs _ _, by rw [List.length_set]; exact hl, set_lt hb (Nat.or_lt_two_pow (n := 8) hx hp), ?_⟩
  rw [num_or bs _ _ hi hb hk (by rw [e8]; exact h), e8]

end Go.Proofs.Ytajkajgnjcnolaa

/-
  Slices of slices of bytes; contracts of word, Seal, Open (layer 1), and of Same.
-/
namespace Go.Proofs.Ytajkajgnjcnolaa
open Go.RowKit CrcM
set_option linter.unusedVariables false
set_option linter.unnecessarySimpa false
set_option linter.unusedSimpArgs false

theorem word_next (bs : List Nat) (k : Nat) (hk : k < 4) (hl : k < bs.length) (hb : ∀ c ∈ bs, c < 256) :
    bits BinOp.or IntKind.u32 ((num (bs.take k) : Nat) : Int) ((((bs.getD k 0 : Nat) : Int)) * 2 ^ (8 * k) % 4294967296) = ((num (bs.take (k + 1)) : Nat) : Int) := by
  have ht : ∀ c ∈ bs.take k, c < 256 := fun c hc => hb c (List.mem_of_mem_take hc)
  have h1 := num_lt (bs.take k) ht
  have hlen : (bs.take k).length = k := by simp; omega
  rw [hlen] at h1
  have hp : 2 ^ (8 * k) ≤ 2 ^ 24 := Nat.pow_le_pow_right (by decide) (by omega)
  have hc := getD_lt hb k
  have h2 : bs.getD k 0 * 2 ^ (8 * k) < 4294967296 := by
    have : bs.getD k 0 * 2 ^ (8 * k) ≤ 255 * 2 ^ 24 := Nat.mul_le_mul (by omega) hp
    omega
  rw [take_snoc_nat bs k hl, num_snoc _ _ ht, hlen]
  have e : ((((bs.getD k 0 : Nat) : Int)) * 2 ^ (8 * k) % 4294967296) = ((bs.getD k 0 * 2 ^ (8 * k) : Nat) : Int) := by
    have h3 : ((bs.getD k 0 * 2 ^ (8 * k) % 4294967296 : Nat) : Int) = (((bs.getD k 0 : Nat) : Int)) * 2 ^ (8 * k) % 4294967296 := by
      rw [Int.natCast_emod, Int.natCast_mul, Int.natCast_pow]; rfl
    rw [← h3, Nat.mod_eq_of_lt h2]
  rw [e]
  exact u32_or_nat _ _ (Nat.lt_of_lt_of_le h1 (Nat.le_trans hp (by decide))) h2

theorem seal_start (bs : List Nat) (len : Nat) (h : bs.length = len) : bs.take (len + 4) ++ (zeros (len + 4)).drop (min len (len + 4)) = bs ++ zeros 4 := by
  rw [List.take_of_length_le (by omega), Nat.min_eq_left (by omega)]
  congr 1
  simp [zeros, show len + 4 - len = 4 by omega]

theorem seal_set (bs : List Nat) (len k s : Nat) (h : bs.length = len) (hk : k < 4) :
    (bs ++ (leb k s ++ zeros (4 - k))).set (len + k) (s / 2 ^ (8 * k) % 256) = bs ++ (leb (k + 1) s ++ zeros (4 - (k + 1))) := by
  subst h
  rw [List.set_append_right _ _ (by omega), List.set_append_right _ _ (by rw [leb_length]; omega), leb_length, leb_succ]
  have e : zeros (4 - k) = 0 :: zeros (4 - (k + 1)) := by
    unfold zeros; rw [show 4 - k = (4 - (k + 1)) + 1 by omega, List.replicate_succ]
  rw [e, show bs.length + k - bs.length - k = 0 by omega, List.set_cons_zero]
  simp

/-- What Seal tells. -/
def SealPost (n : Nat) (bs : List Nat) (w : World) (e : Ending) (w' : World) : Prop :=
  ∃ g, e = .returned (.slice (some ⟨g, 0, none⟩) (n + 4) (n + 4)) ∧ w.heap.size ≤ g ∧ w'.heap[g]? = some (.cells (bA (sealed bs)) 5 (0, 0)) ∧ Below w.heap.size w w'

end Go.Proofs.Ytajkajgnjcnolaa

/-
  Exclusive ors of lists of bytes.
-/
namespace Go.Proofs.Ytajkajgnjcnolaa
open Go.RowKit CrcM
set_option linter.unusedVariables false
set_option linter.unnecessarySimpa false
set_option linter.unusedSimpArgs false

/-- The first k bytes of an exclusive or. -/
def zx (xs ys : List Nat) (k : Nat) : List Nat := (List.range k).map fun i => xs.getD i 0 ^^^ ys.getD i 0
theorem zx_length (xs ys : List Nat) (k : Nat) : (zx xs ys k).length = k := by simp [zx]
theorem zx_succ (xs ys : List Nat) (k : Nat) : zx xs ys (k + 1) = zx xs ys k ++ [xs.getD k 0 ^^^ ys.getD k 0] := by simp [zx, List.range_succ]
theorem zx_lt {xs ys : List Nat} (hx : ∀ c ∈ xs, c < 256) (hy : ∀ c ∈ ys, c < 256) (k : Nat) : ∀ c ∈ zx xs ys k, c < 256 := by
  intro c hc; obtain ⟨i, _, rfl⟩ := List.mem_map.1 hc; exact Nat.xor_lt_two_pow (n := 8) (getD_lt hx i) (getD_lt hy i)
theorem ovr_zeros (n : Nat) : ovr 0 (zeros n) = 0 := by rw [ovr_num _ 0 (zeros_lt n), zeros_num]; exact hvs_zero _
theorem xor_mul (k x y : Nat) : 2 ^ k * x ^^^ 2 ^ k * y = 2 ^ k * (x ^^^ y) := by
  apply Nat.eq_of_testBit_eq; intro i
  simp only [Nat.testBit_xor, Nat.testBit_two_pow_mul]
  by_cases hk : k ≤ i <;> simp [hk]
theorem num_one (a : List Nat) (c : Nat) (ha : ∀ x ∈ a, x < 256) : num (a ++ [c]) = num a ^^^ 2 ^ (8 * a.length) * c := by
  rw [num_append a [c] ha, show num [c] = c from by simp [num]]
theorem num_zx (xs ys : List Nat) (hx : ∀ c ∈ xs, c < 256) (hy : ∀ c ∈ ys, c < 256) : ∀ k, k ≤ xs.length → k ≤ ys.length → num (zx xs ys k) = num (xs.take k) ^^^ num (ys.take k) := by
  intro k
  induction k with
  | zero => intro _ _; simp [zx, num]
  | succ k ih =>
    intro h1 h2
    have hl1 : (xs.take k).length = k := by simp; omega
    have hl2 : (ys.take k).length = k := by simp; omega
    rw [zx_succ, num_one _ _ (zx_lt hx hy k), zx_length, ih (by omega) (by omega), take_snoc_nat xs k (by omega), take_snoc_nat ys k (by omega),
      num_one _ _ (fun c hc => hx c (List.mem_of_mem_take hc)), num_one _ _ (fun c hc => hy c (List.mem_of_mem_take hc)), hl1, hl2, ← xor_mul]
    simp only [Nat.xor_assoc]
    congr 1
    simp only [← Nat.xor_assoc]
    rw [Nat.xor_comm (num (List.take k ys))]

theorem getD_app (a b : List Nat) (i : Nat) : (a ++ b).getD i 0 = if i < a.length then a.getD i 0 else b.getD (i - a.length) 0 := by
  simp only [List.getD, List.getElem?_append]
  split <;> rfl

theorem zx_take (xs ys : List Nat) (n m : Nat) (h : n ≤ m) : (zx xs ys m).take n = zx (xs.take n) (ys.take n) n := by
  unfold zx
  rw [← List.map_take, List.take_range, Nat.min_eq_left h]
  apply List.map_congr_left
  intro i hi
  have hi' : i < n := by simpa using hi
  simp [List.getD, List.getElem?_take_of_lt hi']

theorem zx_drop (xs ys : List Nat) (n m : Nat) : (zx xs ys (n + m)).drop n = zx (xs.drop n) (ys.drop n) m := by
  apply List.ext_getElem
  · simp [zx]
  · intro i h1 h2
    simp [zx] at h2
    simp [zx, List.getD, List.getElem?_drop]

theorem num_zx_full (xs ys : List Nat) (n : Nat) (hx : ∀ c ∈ xs, c < 256) (hy : ∀ c ∈ ys, c < 256) (h1 : xs.length = n) (h2 : ys.length = n) : num (zx xs ys n) = num xs ^^^ num ys := by
  rw [num_zx xs ys hx hy n (by omega) (by omega), List.take_of_length_le (by omega), List.take_of_length_le (by omega)]

/-- What is sealed, with a pattern put in, is opened just if the pattern is a multiple. -/
theorem pattern_spec (xs qs : List Nat) (n : Nat) (hx : ∀ c ∈ xs, c < 256) (hq : ∀ c ∈ qs, c < 256) (hl : xs.length = n) (hm : qs.length = n + 4) :
    sm ((zx (sealed xs) qs (n + 4)).take n) = num ((zx (sealed xs) qs (n + 4)).drop n) ↔ ovr 0 qs = 0 := by
  have hq1 : ∀ c ∈ qs.take n, c < 256 := fun c hc => hq c (List.mem_of_mem_take hc)
  have hq2 : ∀ c ∈ qs.drop n, c < 256 := fun c hc => hq c (List.mem_of_mem_drop hc)
  have l1 : (qs.take n).length = n := by simp; omega
  have l2 : (qs.drop n).length = 4 := by simp; omega
  have hsl : (leb 4 (sm xs)).length = 4 := leb_length _ _
  have e1 : num ((zx (sealed xs) qs (n + 4)).drop n) = sm xs ^^^ num (qs.drop n) := by
    rw [zx_drop, num_zx_full _ _ 4 (fun c hc => sealed_lt hx c (List.mem_of_mem_drop hc)) hq2 (by rw [List.length_drop, sealed_length]; omega) l2]
    congr 1
    have : (sealed xs).drop n = leb 4 (sm xs) := by subst hl; simp [sealed]
    rw [this, leb_num, Nat.mod_eq_of_lt (sm_lt hx)]
  have t1 : (sealed xs).take n = xs := by subst hl; simp [sealed]
  have e2 : sm ((zx (sealed xs) qs (n + 4)).take n) = sm xs ^^^ hvs (8 * n) (num (qs.take n)) := by
    rw [zx_take _ _ n (n + 4) (by omega), t1]
    unfold sm
    rw [ovr_num _ _ (zx_lt hx hq1 n), ovr_num _ _ hx, zx_length, hl, num_zx_full xs (qs.take n) n hx hq1 hl l1, ← Nat.xor_assoc, hvs_xor]
    simp only [Nat.xor_assoc]
    congr 1
    exact Nat.xor_comm _ _
  have e3 : ovr 0 qs = hvs 32 (hvs (8 * n) (num (qs.take n)) ^^^ num (qs.drop n)) := by
    conv => lhs; rw [← List.take_append_drop n qs]
    rw [ovr_append, ovr_num _ _ hq2, ovr_num _ _ hq1, Nat.zero_xor, l1, l2]
  have b1 : hvs (8 * n) (num (qs.take n)) < 4294967296 := by
    have := ovr_lt (qs.take n) (r := 0) (by decide) hq1
    rwa [ovr_num _ _ hq1, Nat.zero_xor, l1] at this
  have b2 : num (qs.drop n) < 4294967296 := by
    have := num_lt _ hq2
    rw [l2] at this
    exact this
  rw [e1, e2, e3]
  constructor
  · intro h
    rw [xor_cancel h, Nat.xor_self, hvs_zero]
  · intro h
    have h0 := hvs_eq_zero 32 (Nat.xor_lt_two_pow (n := 32) b1 b2) h
    have h1 : hvs (8 * n) (num (qs.take n)) = num (qs.drop n) := by
      have := congrArg (fun x => x ^^^ num (qs.drop n)) h0
      simpa [Nat.xor_assoc, Nat.xor_self] using this
    rw [h1]

end Go.Proofs.Ytajkajgnjcnolaa

/-
  Frames and sectors as values: how they are laid out, when two are the same, what an argument of their types is.
-/
namespace Go.Proofs.Ytajkajgnjcnolaa
open Go.RowKit CrcM
set_option linter.unusedVariables false
set_option linter.unnecessarySimpa false
set_option linter.unusedSimpArgs false

/-- A frame as it reads. -/
structure FrR where
  k : Int
  z : Int
  o : Int
  e : Int
  s : Int
  b : List Nat
  deriving DecidableEq

def frL (f : FrR) : List Value := [.int .i64 f.k, .int .i64 f.z, .int .i64 f.o, .int .i64 f.e, .int .i64 f.s] ++ bvals f.b
def frA (f : FrR) : Array Value := (frL f).toArray

/-- What an argument's frame is. -/
structure FrOk (f : FrR) : Prop where
  len : f.b.length = 44
  lt : ∀ c ∈ f.b, c < 256
  wk : (Lit.int .i64 f.k).wf = true
  wz : (Lit.int .i64 f.z).wf = true
  wo : (Lit.int .i64 f.o).wf = true
  we : (Lit.int .i64 f.e).wf = true
  ws : (Lit.int .i64 f.s).wf = true

theorem frL_length {f : FrR} (h : f.b.length = 44) : (frL f).length = 49 := by simp [frL, bvals_length, h]
theorem frA_size {f : FrR} (h : f.b.length = 44) : (frA f).size = 49 := by simp [frA, frL_length h]
theorem frA_one {f : FrR} : (frA f).all (·.oneCell') = true := by
  simp only [frA, Array.all_eq_true_iff_forall_mem, List.mem_toArray]
  intro x hx
  rcases List.mem_append.1 hx with h | h
  · simp at h; rcases h with rfl | rfl | rfl | rfl | rfl <;> rfl
  · exact bvals_one _ x h
theorem bA_one (bs : List Nat) : (bA bs).all (·.oneCell') = true := by
  simp only [bA, Array.all_eq_true_iff_forall_mem, List.mem_toArray]
  exact fun x hx => bvals_one _ x hx
theorem frA_at0 (f : FrR) : (frA f)[0]? = some (.int .i64 f.k) := by simp [frA, frL]
theorem frA_at1 (f : FrR) : (frA f)[1]? = some (.int .i64 f.z) := by simp [frA, frL]
theorem frA_at2 (f : FrR) : (frA f)[2]? = some (.int .i64 f.o) := by simp [frA, frL]
theorem frA_at3 (f : FrR) : (frA f)[3]? = some (.int .i64 f.e) := by simp [frA, frL]
theorem frA_at4 (f : FrR) : (frA f)[4]? = some (.int .i64 f.s) := by simp [frA, frL]
theorem frA_body (f : FrR) (i : Nat) (h : i < f.b.length) : (frA f)[5 + i]? = some (.int .u8 (f.b.getD i 0 : Nat)) := by
  simp only [frA, frL, List.getElem?_toArray]
  rw [List.getElem?_append_right (by simp)]
  simpa using bvals_at f.b i h
theorem frA_part {f : FrR} (h : f.b.length = 44) : (frA f).extract 5 (5 + 44) = bA f.b := by
  simp only [frA, bA, frL, List.extract_toArray, List.extract_eq_take_drop]
  rw [List.drop_append_of_le_length (by simp)]
  simp
  rw [List.take_of_length_le (by rw [bvals_length]; omega)]

section
variable {P : Program} (w : World)

theorem run_items_bytes (d : Nat) {e : TypeId} (he : P.underlying e = some (.int .u8)) (xs ys : List Nat) : ∀ is : List Nat, (∀ i ∈ is, i < xs.length ∧ i < ys.length) →
    (Op.eqItems (d + 1) e 1 (bA xs) (bA ys) is).run P w = .ok (decide (∀ i ∈ is, xs.getD i 0 = ys.getD i 0)) w
  | [], _ => by simp [Op.eqItems]
  | i :: is, h => by
    have hi := h i (by simp)
    have ih := run_items_bytes d he xs ys is (fun j hj => h j (by simp [hj]))
    have p1 := run_part_int (P := P) w he (bA_at xs i hi.1)
    have p2 := run_part_int (P := P) w he (bA_at ys i hi.2)
    have p3 := run_equalIn_int (P := P) w d e .u8 .u8 (xs.getD i 0 : Nat) (ys.getD i 0 : Nat) he
    simp only [Op.eqItems, Sem.run_bind, Nat.mul_one, p1, p2, p3, Result.andThen_ok]
    by_cases hc : xs.getD i 0 = ys.getD i 0
    · rw [hc]
      simp only [beq_self_eq_true, Bool.not_true, Bool.false_eq_true, if_false]
      rw [ih]
      congr 1
      rw [Bool.eq_iff_iff]
      simp only [decide_eq_true_eq, List.mem_cons, forall_eq_or_imp]
      exact ⟨fun hh => ⟨hc, hh⟩, fun hh => hh.2⟩
    · have : (((xs.getD i 0 : Nat) : Int) == ((ys.getD i 0 : Nat) : Int)) = false := by rw [beq_eq_false_iff_ne]; omega
      rw [this]
      simp only [Bool.not_false, if_true, Sem.run_pure]
      congr 1
      symm
      rw [decide_eq_false_iff_not]
      exact fun hh => hc (hh i (by simp))

theorem list_eq_of_getD {xs ys : List Nat} {n : Nat} (hx : xs.length = n) (hy : ys.length = n) (h : ∀ i, i < n → xs.getD i 0 = ys.getD i 0) : xs = ys := by
  apply List.ext_getElem (by omega)
  intro i h1 h2
  have := h i (by omega)
  simpa [List.getD, h1, h2] using this

theorem run_equal_bytes (d : Nat) {t e : TypeId} {n : Nat} (hu : P.underlying t = some (.array n e)) (he : P.underlying e = some (.int .u8)) (hc : P.cellsOf e = 1) (xs ys : List Nat) (hx : xs.length = n) (hy : ys.length = n) :
    (Op.equalIn (d + 2) t (.agg (bA xs)) (.agg (bA ys))).run P w = .ok (decide (xs = ys)) w := by
  obtain ⟨i, hi⟩ := info_of_underlying he
  rw [run_equalIn_array w (d + 1) (bA xs) (bA ys) hu hi, hc, run_items_bytes w d he xs ys (List.range n) (fun i hi => by rw [hx, hy]; simpa using hi)]
  congr 1
  rw [Bool.eq_iff_iff]
  simp only [decide_eq_true_eq, List.mem_range]
  exact ⟨fun h => list_eq_of_getD hx hy h, fun h => by rw [h]; simp⟩
end

theorem Try.cellsByte : Try.prog.cellsOf 5 = 1 := by kernel_rfl
theorem Try.cellsSec : Try.prog.cellsOf 34 = 64 := by kernel_rfl
theorem infoSec : (Try.prog.info? 34).map (·.size) = some 64 := by kernel_rfl
theorem info64 : (Try.prog.info? 33).map (·.size) = some 64 := by kernel_rfl
theorem info_sec {bs : List Nat} (h : bs.length = 64) : (Try.prog.info? 34).map (·.size) = some (bA bs).size := by rw [bA_size, h]; exact infoSec
theorem info_64 {bs : List Nat} (h : bs.length = 64) : (Try.prog.info? 33).map (·.size) = some (bA bs).size := by rw [bA_size, h]; exact info64

/-- All fields of two frames, one by one. -/
theorem fr_eq (f g : FrR) : f = g ↔ f.k = g.k ∧ f.z = g.z ∧ f.o = g.o ∧ f.e = g.e ∧ f.s = g.s ∧ f.b = g.b := by
  cases f; cases g; simp

theorem part_int (w : World) {xs : Array Value} {off : Nat} {v : Value} (hx : xs[off]? = some v) : (part 3 xs off).run Try.prog w = .ok v w := run_part_int w Try.underlying3 hx

/-- The type of frames. -/
structure FrameType (P : Program) (t : TypeId) : Prop where
  fields : ∃ f0 f1 f2 f3 f4 f5 : Field, ∃ e : TypeId, P.underlying t = some (.struct #[f0, f1, f2, f3, f4, f5]) ∧ IntField P f0 0 ∧ IntField P f1 1 ∧ IntField P f2 2 ∧ IntField P f3 3 ∧ IntField P f4 4 ∧
    f5.name ≠ "_" ∧ f5.offset = 5 ∧ P.underlying f5.type = some (.array 44 e) ∧ P.underlying e = some (.int .u8) ∧ P.cellsOf f5.type = 44 ∧ P.cellsOf e = 1
  cells : P.cellsOf t = 49
  stood : P.stoodInHeld t = false
  guard : P.eqGuardType P.depth t = false

theorem run_part_body {P : Program} (w : World) {t e : TypeId} (hu : P.underlying t = some (.array 44 e)) (hc : P.cellsOf t = 44) {f : FrR} (h : f.b.length = 44) : (part t (frA f) 5).run P w = .ok (.agg (bA f.b)) w := by
  obtain ⟨i, hi⟩ := info_of_underlying hu
  have hs := run_sizeOf w hi
  rw [hc] at hs
  simp [part, isAgg, run_underlying hu, hs, frA_part h]

theorem run_equal_frame {P : Program} (w : World) (d : Nat) {t : TypeId} (T : FrameType P t) (f g : FrR) (hf : f.b.length = 44) (hg : g.b.length = 44) :
    (Op.equalIn (d + 3) t (.agg (frA f)) (.agg (frA g))).run P w = .ok (decide (f = g)) w := by
  obtain ⟨f0, f1, f2, f3, f4, f5, e, hu, h0, h1, h2, h3, h4, n5, o5, u5, ue, c5, ce⟩ := T.fields
  have hfs : P.fieldsOf t = #[f0, f1, f2, f3, f4, f5] := by simp [Program.fieldsOf, hu]
  rw [run_equalIn_agg w (d + 2) t _ _ (by rw [hfs]; exact hu) T.stood, hfs]
  have b1 : (part f5.type (frA f) f5.offset).run P w = .ok (.agg (bA f.b)) w := by rw [o5]; exact run_part_body w u5 c5 hf
  have b2 : (part f5.type (frA g) f5.offset).run P w = .ok (.agg (bA g.b)) w := by rw [o5]; exact run_part_body w u5 c5 hg
  have e5 := run_equal_bytes (P := P) w d u5 ue ce f.b g.b hf hg
  have r := run_field_int w (d + 1) h0 (frA_at0 f) (frA_at0 g) (run_field_int w (d + 1) h1 (frA_at1 f) (frA_at1 g) (run_field_int w (d + 1) h2 (frA_at2 f) (frA_at2 g) (run_field_int w (d + 1) h3 (frA_at3 f) (frA_at3 g) (run_field_int w (d + 1) h4 (frA_at4 f) (frA_at4 g)
    (run_field w (d + 2) n5 b1 b2 e5 (fs := []) (rest := true) (by simp [Op.eqFields]))))))
  refine r.trans ?_
  congr 1
  rw [Bool.eq_iff_iff, decide_eq_true_eq, fr_eq]
  simp [and_assoc]

theorem run_eql_frame {P : Program} {t : TypeId} (T : FrameType P t) (f g : FrR) (hf : f.b.length = 44) (hg : g.b.length = 44) (w : World) :
    (binOp .eql t (.agg (frA f)) (.agg (frA g))).run P w = .ok (.bool (decide (f = g))) w := by
  rw [run_eql_struct, run_equal_frame w 9997 T f g hf hg]; rfl
theorem run_neq_frame {P : Program} {t : TypeId} (T : FrameType P t) (f g : FrR) (hf : f.b.length = 44) (hg : g.b.length = 44) (w : World) :
    (binOp .neq t (.agg (frA f)) (.agg (frA g))).run P w = .ok (.bool (!decide (f = g))) w := by
  rw [run_neq_struct, run_equal_frame w 9997 T f g hf hg]; rfl
/-- The type of sectors. -/
structure BytesType (P : Program) (t : TypeId) (n : Nat) : Prop where
  under : ∃ e : TypeId, P.underlying t = some (.array n e) ∧ P.underlying e = some (.int .u8) ∧ P.cellsOf e = 1
  cells : P.cellsOf t = n
  guard : P.eqGuardType P.depth t = false
theorem run_eql_sector {P : Program} {t : TypeId} {n : Nat} (T : BytesType P t n) (xs ys : List Nat) (hx : xs.length = n) (hy : ys.length = n) (w : World) :
    (binOp .eql t (.agg (bA xs)) (.agg (bA ys))).run P w = .ok (.bool (decide (xs = ys))) w := by
  obtain ⟨e, h1, h2, h3⟩ := T.under
  rw [run_eql_struct, run_equal_bytes w 9998 h1 h2 h3 xs ys hx hy]; rfl
theorem tySec : BytesType Try.prog 34 64 := ⟨⟨5, Try.underlying34, Try.underlying5, Try.cellsByte⟩, Try.cellsSec, by kernel_rfl⟩
theorem ty64 : BytesType Try.prog 33 64 := ⟨⟨5, Try.underlying33, Try.underlying5, Try.cellsByte⟩, by kernel_rfl, by kernel_rfl⟩

section
open Go.ChangeShapes Go.WideShapes
variable {H : Type} {enc : TypeId × Value → H} {P : Program} {w : World} {base : Nat} {spare : Nat → Bool} {held : Bool}

/-- An array of bytes, as it is read. -/
theorem trod_bytes {t e : TypeId} {n fuel : Nat} {cs : List Value} {x : DataW H × List MemPlace} (hu : P.underlying t = some (.array n e)) (he : P.underlying e = some (.int .u8)) (hc : P.cellsOf e = 1) (hn : P.cellsOf t = n)
    (h : DataW.trod enc P w base spare held fuel t cs = some x) : ∃ bs : List Nat, cs = bvals bs ∧ bs.length = n ∧ ∀ c ∈ bs, c < 256 := by
  cases fuel with
  | zero => simp [DataW.trod] at h
  | succ m =>
    unfold DataW.trod at h
    rw [hu] at h
    simp only [hc, hn] at h
    split at h
    · rename_i hl
      simp only [Option.map_eq_some_iff] at h
      obtain ⟨xs, hm, _⟩ := h
      have hlen := mapM_some_length hm
      have hat := mapM_some_get hm
      have hcell : ∀ i, i < n → ∃ z : Nat, cs[i]? = some (.int .u8 (z : Nat)) ∧ z < 256 := fun i hi => by
        have h1 := hat i i (by simp [hi])
        rw [List.getElem?_eq_getElem (show i < xs.length by rw [hlen]; simpa using hi)] at h1
        obtain ⟨z, hz, _, hwf⟩ := DataW.trod_int he h1
        rw [Nat.mul_one, List.drop_eq_getElem_cons (by omega), List.take_succ_cons] at hz
        simp only [List.take_zero, List.cons.injEq, and_true] at hz
        have hb := bounds_u8 hwf
        refine ⟨z.toNat, ?_, by omega⟩
        rw [List.getElem?_eq_getElem (by omega), hz, Int.toNat_of_nonneg hb.1]
      obtain ⟨f, hf⟩ := Go.Deep.choose_lt hcell
      refine ⟨(List.range n).map f, ?_, by simp, fun c hc => ?_⟩
      · apply List.ext_getElem?
        intro i
        by_cases hi : i < n
        · rw [(hf i hi).1]; simp [bvals, hi]
        · rw [List.getElem?_eq_none (by omega), List.getElem?_eq_none (by simp [bvals]; omega)]
      · obtain ⟨i, hi, rfl⟩ := List.mem_map.1 hc
        exact (hf i (by simpa using hi)).2
    · cases h

theorem open_bytesA {r : Reach} {b0 : Nat} {t : TypeId} {n : Nat} {v : Value} {d : DataW H} {p : List MemPlace} (T : BytesType P t n) (hv : Value.okWide P w r b0 t v) (h : DataW.Trod enc P w base spare held t v d p) :
    ∃ bs : List Nat, v = .agg (bA bs) ∧ bs.length = n ∧ ∀ c ∈ bs, c < 256 := by
  obtain ⟨e, h1, h2, h3⟩ := T.under
  simp only [Value.okWide, h1] at hv
  obtain ⟨cs, rfl, _, _⟩ := hv
  obtain ⟨fuel, hf⟩ := h
  simp only [Value.cells] at hf
  obtain ⟨bs, hb, hl, hlt⟩ := trod_bytes h1 h2 h3 T.cells hf
  refine ⟨bs, ?_, hl, hlt⟩
  congr 1
  apply Array.ext'
  rw [hb, bA]

theorem open_frameA {r : Reach} {b0 : Nat} {t : TypeId} {v : Value} {d : DataW H} {p : List MemPlace} (T : FrameType P t) (hv : Value.okWide P w r b0 t v) (h : DataW.Trod enc P w base spare held t v d p) :
    ∃ f : FrR, v = .agg (frA f) ∧ FrOk f := by
  obtain ⟨f0, f1, f2, f3, f4, f5, e, hu, h0, h1, h2, h3, h4, n5, o5, u5, ue, c5, ce⟩ := T.fields
  obtain ⟨cs, rfl, hsz⟩ := okWide_struct hu hv
  obtain ⟨fuel, hf⟩ := h
  simp only [Value.cells] at hf
  obtain ⟨xs, n, _, _, hl, hxl, hat⟩ := DataW.trod_struct hu hf
  have hsome : ∀ i, i < 6 → (xs[i]?).isSome = true := fun i hi => by
    have : xs.length = 6 := hxl
    simp [this, hi]
  obtain ⟨z0, e0, w0⟩ := trod_int_of (e := e) h0 (hsome 0 (by decide)) (hat 0 f0 rfl)
  obtain ⟨z1, e1, w1⟩ := trod_int_of (e := e) h1 (hsome 1 (by decide)) (hat 1 f1 rfl)
  obtain ⟨z2, e2, w2⟩ := trod_int_of (e := e) h2 (hsome 2 (by decide)) (hat 2 f2 rfl)
  obtain ⟨z3, e3, w3⟩ := trod_int_of (e := e) h3 (hsome 3 (by decide)) (hat 3 f3 rfl)
  obtain ⟨z4, e4, w4⟩ := trod_int_of (e := e) h4 (hsome 4 (by decide)) (hat 4 f4 rfl)
  obtain ⟨y5, hy5⟩ := Option.isSome_iff_exists.1 (hsome 5 (by decide))
  have t5 := (hat 5 f5 rfl).trans hy5
  rw [c5, o5] at t5
  obtain ⟨bs, hb, hbl, hblt⟩ := trod_bytes u5 ue ce c5 t5
  refine ⟨⟨z0, z1, z2, z3, z4, bs⟩, ?_, ⟨hbl, hblt, w0, w1, w2, w3, w4⟩⟩
  congr 1
  apply Array.ext'
  rw [T.cells] at hl
  generalize cs.toList = l at *
  have cut : ∀ (l : List Value) (o : Nat) (v : Value), (l.drop o).take 1 = [v] → l.drop o = v :: l.drop (o + 1) := fun l o v hh => by
    by_cases ho : o < l.length
    · rw [List.drop_eq_getElem_cons ho] at hh
      simp only [List.take_succ_cons, List.take_zero, List.cons.injEq, and_true] at hh
      rw [List.drop_eq_getElem_cons ho, hh]
    · rw [List.drop_of_length_le (by omega)] at hh; simp at hh
  have hl5 : l.drop 5 = bvals bs := by rw [← hb, List.take_of_length_le (by simp; omega)]
  have := cut l 0 _ e0
  rw [List.drop_zero, cut l 1 _ e1, cut l 2 _ e2, cut l 3 _ e3, cut l 4 _ e4, hl5] at this
  rw [this]; rfl
end

end Go.Proofs.Ytajkajgnjcnolaa

/-
  Contracts of layer 3 (frame), first part: within, Right, and the document's Right.
-/
namespace Go.Proofs.Ytajkajgnjcnolaa
open Go.RowKit CrcM
set_option linter.unusedVariables false
set_option linter.unnecessarySimpa false
set_option linter.unusedSimpArgs false

/-- May a frame be? -/
def rightB (f : FrR) : Bool := wB f.k 1 5 && wB f.z 0 65535 && wB f.o 0 65535 && wB f.e 1 4294967295 && wB f.s 0 281474976710655

theorem right_iff (f : FrR) : rightB f = true ↔ (1 ≤ f.k ∧ f.k ≤ 5) ∧ (0 ≤ f.z ∧ f.z ≤ 65535) ∧ (0 ≤ f.o ∧ f.o ≤ 65535) ∧ (1 ≤ f.e ∧ f.e ≤ 4294967295) ∧ (0 ≤ f.s ∧ f.s ≤ 281474976710655) := by
  simp [rightB, wB, and_assoc]

end Go.Proofs.Ytajkajgnjcnolaa

