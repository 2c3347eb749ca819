/-
  Contracts of layer 1's calls (crc): Raw, Step, Sum; New.
-/
import Derived.Test.YtdjnfikacjfkkaaCrcA
import Derived.Laws.CopyOwn
namespace Go.Proofs.Ytdjnfikacjfkkaa
open Go.RowKit CrcM
set_option linter.unusedVariables false
set_option linter.unnecessarySimpa false
set_option linter.unusedSimpArgs false

/-- The table as a value. -/
def tblL : List Value := (List.range 256).map fun i => Value.int .u32 (tw i : Nat)

def tbl : Array Value := tblL.toArray

theorem tbl_size : tbl.size = 256 := by simp [tbl, tblL]

theorem tblL_length : tblL.length = 256 := by simp [tblL]

theorem tbl_at (i : Nat) (h : i < 256) : tbl[i]? = some (.int .u32 (tw i : Nat)) := by simp [tbl, tblL, h]

theorem tblL_at (i : Nat) (h : i < 256) : tblL[i]? = some (.int .u32 (tw i : Nat)) := by simp [tblL, h]

theorem TabAt.of_heap {w : World} {g : Nat} {t : TypeId} {fr : Nat × Nat} (h : w.heap[g]? = some (.cells tbl t fr)) : TabAt w g :=
  fun i hi => by rw [cell_of_row w g i tbl t fr h]; exact tbl_at i hi

theorem not_u32 (x : Nat) (h : x < 4294967296) : bits BinOp.xor IntKind.u32 IntKind.u32.max (x : Int) = ((x ^^^ 4294967295 : Nat) : Int) := by
  have e := u32_xor_nat 4294967295 x (by decide) h
  rw [show IntKind.u32.max = ((4294967295 : Nat) : Int) from by decide, e, Nat.xor_comm]

theorem tab_kept {w w' : World} {g : Nat} (h : TabAt w g) (hb : Below w.heap.size w w') : TabAt w' g :=
  fun i hi => (hb.cell (p := ⟨g, i, none⟩) (block_lt_of_cell (h i hi))).trans (h i hi)

/-- The first k words of the table, and noughts behind them. -/
def pt (k : Nat) : Array Value := ((List.range 256).map fun i => Value.int .u32 ((if i < k then tw i else 0 : Nat) : Int)).toArray

theorem pt_size (k : Nat) : (pt k).size = 256 := by simp [pt]

theorem pt_full : pt 256 = tbl := by
  have h : ∀ i ∈ List.range 256, Value.int .u32 ((if i < 256 then tw i else 0 : Nat) : Int) = Value.int .u32 ((tw i : Nat) : Int) := fun i hi => by rw [if_pos (by simpa using hi)]
  unfold pt tbl tblL; rw [List.map_congr_left h]

theorem pt_set (k : Nat) (h : k < 256) : (pt k).setIfInBounds k (.int .u32 ((tw k : Nat) : Int)) = pt (k + 1) := by
  apply Array.ext_getElem?
  intro i
  rw [Array.getElem?_setIfInBounds]
  by_cases hi : i < 256
  · by_cases hk : k = i
    · subst hk; simp [pt, h]
    · rw [if_neg hk]
      simp only [pt, List.getElem?_toArray, List.getElem?_map, List.getElem?_range hi, Option.map_some]
      by_cases h1 : i < k
      · rw [if_pos h1, if_pos (by omega)]
      · rw [if_neg h1, if_neg (by omega)]
  · rw [if_neg (by omega)]
    simp [pt, hi]

theorem pt_at (k : Nat) (h : k < 256) : (pt k)[k]? = some (.int .u32 0) := by simp [pt, h]

theorem pt_cells (k : Nat) : (pt k).all (·.oneCell') = true := by
  unfold pt; simp [Array.all_eq_true_iff_forall_mem, Value.oneCell']

theorem tbl_cells : tbl.all (·.oneCell') = true := by rw [← pt_full]; exact pt_cells 256

theorem u32_wrap (k : Nat) (h : k < 256) : IntKind.u32.wrap (k : Int) = k := by rw [IntKind.wrap_u32']; omega

end Go.Proofs.Ytdjnfikacjfkkaa
