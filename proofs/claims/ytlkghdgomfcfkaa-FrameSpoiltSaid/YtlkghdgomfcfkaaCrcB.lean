/-
  Contracts of layer 1's calls (crc): Raw, Step, Sum; New.
-/
import Derived.Test.YtlkghdgomfcfkaaCrcA
import Derived.Laws.CopyOwn
namespace Go.Proofs.Ytlkghdgomfcfkaa
open Go.RowKit CrcM
set_option linter.unusedVariables false
set_option linter.unnecessarySimpa false
set_option linter.unusedSimpArgs false

/-- The table as a value. -/
def tblL : List Value := (List.range 256).map fun i => Value.int .u32 (tw i : Nat)

def tbl : Array Value := tblL.toArray

theorem tbl_size : tbl.size = 256 := by simp [tbl, tblL]

theorem tblL_length : tblL.length = 256 := by simp [tblL]

theorem tbl_at (i : Nat) (h : i < 256) : tbl[i]? = some (.int .u32 (tw i : Nat)) := by simp [tbl, tblL, h]

theorem tblL_at (i : Nat) (h : i < 256) : tblL[i]? = some (.int .u32 (tw i : Nat)) := by simp [tblL, h]

theorem TabAt.of_heap {w : World} {g : Nat} {t : TypeId} {fr : Nat × Nat} (h : w.heap[g]? = some (.cells tbl t fr)) : TabAt w g :=
  fun i hi => by rw [cell_of_row w g i tbl t fr h]; exact tbl_at i hi

theorem go_anyI (R : Int) (tb : Nat) (r : Nat) (hR : R = (r : Int)) (a : Option Addr) (len cap : Nat) (bs : List Nat) (w : World) (hr : r < 4294967296) (hb : RowB w a len cap bs) (ht : TabAt w tb) :
    Calls Try.prog 44 #[.pointer (some ⟨tb, 0, none⟩), .int .u32 R, .slice a len cap] w fun e w' => e = .returned (.int .u32 (ovr r bs : Nat)) ∧ w = w' := by
  subst hR; exact go_any tb r a len cap bs w hr hb ht

theorem tab_new (w : World) : TabAt (w.alloc (Obj.cells tbl 28)) w.heap.size := TabAt.of_heap (heap_alloc_new w _)

theorem not_u32 (x : Nat) (h : x < 4294967296) : bits BinOp.xor IntKind.u32 IntKind.u32.max (x : Int) = ((x ^^^ 4294967295 : Nat) : Int) := by
  have e := u32_xor_nat 4294967295 x (by decide) h
  rw [show IntKind.u32.max = ((4294967295 : Nat) : Int) from by decide, e, Nat.xor_comm]

set_option maxHeartbeats 400000 in
theorem sum_any (a : Option Addr) (len cap : Nat) (bs : List Nat) (w : World) (hb : RowB w a len cap bs) :
    Calls Try.prog 36 #[.agg tbl, .slice a len cap] w fun e w' => e = .returned (.int .u32 (sm bs : Nat)) ∧ Below w.heap.size w w' := by
  have hlt : ovr 4294967295 bs < 4294967296 := ovr_lt bs (by decide) hb.lt
  go_enter Try.func36, Try.ntmps36
  go_wp2_with fail
  refine (go_anyI _ _ 4294967295 rfl _ _ _ bs _ (by decide) (hb.below (below_alloc w _)) (tab_new w)).mono ?_
  rintro e w' ⟨rfl, rfl⟩
  go_wp2_with fail
  go_ret
  exact ⟨ret_u32 (not_u32 _ hlt), below_alloc w _⟩

theorem tab_kept {w w' : World} {g : Nat} (h : TabAt w g) (hb : Below w.heap.size w w') : TabAt w' g :=
  fun i hi => (hb.cell (p := ⟨g, i, none⟩) (block_lt_of_cell (h i hi))).trans (h i hi)

theorem Try.infoTab : (Try.prog.info? 28).map (·.size) = some 256 := by kernel_rfl

theorem info_tbl : (Try.prog.info? 28).map (·.size) = some tbl.size := by rw [tbl_size]; exact Try.infoTab

/-- The first k words of the table, and noughts behind them. -/
def pt (k : Nat) : Array Value := ((List.range 256).map fun i => Value.int .u32 ((if i < k then tw i else 0 : Nat) : Int)).toArray

theorem pt_size (k : Nat) : (pt k).size = 256 := by simp [pt]

theorem pt_full : pt 256 = tbl := by
  have h : ∀ i ∈ List.range 256, Value.int .u32 ((if i < 256 then tw i else 0 : Nat) : Int) = Value.int .u32 ((tw i : Nat) : Int) := fun i hi => by rw [if_pos (by simpa using hi)]
  unfold pt tbl tblL; rw [List.map_congr_left h]

theorem pt_set (k : Nat) (h : k < 256) : (pt k).setIfInBounds k (.int .u32 ((tw k : Nat) : Int)) = pt (k + 1) := by
  apply Array.ext_getElem?
  intro i
  rw [Array.getElem?_setIfInBounds]
  by_cases hi : i < 256
  · by_cases hk : k = i
    · subst hk; simp [pt, h]
    · rw [if_neg hk]
      simp only [pt, List.getElem?_toArray, List.getElem?_map, List.getElem?_range hi, Option.map_some]
      by_cases h1 : i < k
      · rw [if_pos h1, if_pos (by omega)]
      · rw [if_neg h1, if_neg (by omega)]
  · rw [if_neg (by omega)]
    simp [pt, hi]

theorem pt_at (k : Nat) (h : k < 256) : (pt k)[k]? = some (.int .u32 0) := by simp [pt, h]

theorem pt_cells (k : Nat) : (pt k).all (·.oneCell') = true := by
  unfold pt; simp [Array.all_eq_true_iff_forall_mem, Value.oneCell']

theorem tbl_cells : tbl.all (·.oneCell') = true := by rw [← pt_full]; exact pt_cells 256

theorem zero_tab (w : World) : (zeroValue 28).run Try.prog w = .ok (.agg (pt 0)) w := by kernel_rfl

theorem u32_wrap (k : Nat) (h : k < 256) : IntKind.u32.wrap (k : Int) = k := by rw [IntKind.wrap_u32']; omega

set_option maxRecDepth 100000 in
set_option maxHeartbeats 1000000 in
theorem new_any (w : World) :
    Calls Try.prog 10 #[] w fun e w' => e = .returned (.agg tbl) ∧ Below w.heap.size w w' := by
  have hz := zero_tab
  go_enter Try.func10, Try.ntmps10
  go_wp2_with fail
  clear hz
  go_loopw [4] (fun i wr => ∃ k : Nat, k ≤ 256 ∧ i = .int .i64 k ∧ wr = (w.alloc (Obj.cells (pt 0) 28)).alloc (Obj.cells (pt k) 28)) (fun i _ => 256 - (intOf i).toNat)
  case atStart => exact ⟨0, Nat.zero_le _, rfl, rfl⟩
  case round =>
    obtain ⟨k, hk, rfl, rfl⟩ := hrel
    by_cases hlt : k < 256
    · have hw := u32_wrap k hlt
      have hd : decide ((k : Int) < 256) = true := by simp; omega
      go_wp2_with fail
      clear hw
      go_loop [3, 9] (fun r j => ∃ m : Nat, m ≤ 8 ∧ j = .int .i64 m ∧ r = .int .u32 (hvs m k : Nat)) (fun _ j => 8 - (intOf j).toNat)
      case atStart => exact ⟨0, Nat.zero_le _, rfl, rfl⟩
      case round =>
        obtain ⟨m, hm, rfl, rfl⟩ := hrel
        by_cases hlm : m < 8
        · have hx0 : hvs m k < 4294967296 := hvs_lt32 m (by omega)
          have hs : Hid (hvs (m + 1) k = hv (hvs m k)) := Lib.hid (hvs_succ m k)
          generalize hvs m k = x at *
          go_wp2_with fail
          refine (halve_any x _ hx0).mono ?_
          rintro e w' ⟨rfl, rfl⟩
          go_wp2_with fail
          go_round
          case rel => exact ⟨m + 1, by omega, by go_num, by rw [hs.out]⟩
          case measure => simp [intOf]; omega
        · obtain rfl : m = 8 := by omega
          have hset := pt_set k hlt
          have hkk := pt_at k hlt
          unfold tw at hset
          generalize hvs 8 k = x at *
          go_wp2_with fail
          go_roundw
          case rel => exact ⟨k + 1, by omega, by go_num, rfl⟩
          case measure => simp [intOf]; omega
    · obtain rfl : k = 256 := by omega
      rw [pt_full]
      go_wp2_with (first | (refine wpList_load_row rfl 28 _ rfl (w.heap.size + 1) rfl 28 tbl (0, 0) _ (heap_alloc2_new w _ _) Try.underlying28 rfl info_tbl ?_) | (refine wpList_store_row rfl 28 _ _ rfl w.heap.size tbl rfl rfl 28 (pt 0) (heap_alloc2_old w _ _) info_tbl (by rw [pt_size, tbl_size]) tbl_cells ?_))
      have hg := setRow_heap _ w.heap.size (pt 0) tbl 28 (0, 0) (heap_alloc2_old w (Obj.cells (pt 0) 28) (Obj.cells tbl 28))
      refine bodyPost_ret (v := .agg tbl) (results_cell_row Try.results10 _ _ w.heap.size 28 tbl (0, 0) _ rfl hg Try.underlying28 rfl info_tbl) rfl ⟨rfl, ?_⟩
      exact below_setRow ((below_alloc w _).trans ((below_alloc _ _).mono (by simp))) (Nat.le_refl _) _

end Go.Proofs.Ytlkghdgomfcfkaa
