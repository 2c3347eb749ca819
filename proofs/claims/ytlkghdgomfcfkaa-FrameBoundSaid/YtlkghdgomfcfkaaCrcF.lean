/-
  Slices of slices of bytes; contracts of word, Seal, Open (layer 1), and of Same.
-/
import Derived.Test.YtlkghdgomfcfkaaCrcE
import Derived.Deep.DeepCutAuto
import Derived.Laws.CopyOwn
namespace Go.Proofs.Ytlkghdgomfcfkaa
open Go.RowKit CrcM
set_option linter.unusedVariables false
set_option linter.unnecessarySimpa false
set_option linter.unusedSimpArgs false

theorem word_next (bs : List Nat) (k : Nat) (hk : k < 4) (hl : k < bs.length) (hb : ∀ c ∈ bs, c < 256) :
    bits BinOp.or IntKind.u32 ((num (bs.take k) : Nat) : Int) ((((bs.getD k 0 : Nat) : Int)) * 2 ^ (8 * k) % 4294967296) = ((num (bs.take (k + 1)) : Nat) : Int) := by
  have ht : ∀ c ∈ bs.take k, c < 256 := fun c hc => hb c (List.mem_of_mem_take hc)
  have h1 := num_lt (bs.take k) ht
  have hlen : (bs.take k).length = k := by simp; omega
  rw [hlen] at h1
  have hp : 2 ^ (8 * k) ≤ 2 ^ 24 := Nat.pow_le_pow_right (by decide) (by omega)
  have hc := getD_lt hb k
  have h2 : bs.getD k 0 * 2 ^ (8 * k) < 4294967296 := by
    have : bs.getD k 0 * 2 ^ (8 * k) ≤ 255 * 2 ^ 24 := Nat.mul_le_mul (by omega) hp
    omega
  rw [take_snoc_nat bs k hl, num_snoc _ _ ht, hlen]
  have e : ((((bs.getD k 0 : Nat) : Int)) * 2 ^ (8 * k) % 4294967296) = ((bs.getD k 0 * 2 ^ (8 * k) : Nat) : Int) := by
    have h3 : ((bs.getD k 0 * 2 ^ (8 * k) % 4294967296 : Nat) : Int) = (((bs.getD k 0 : Nat) : Int)) * 2 ^ (8 * k) % 4294967296 := by
      rw [Int.natCast_emod, Int.natCast_mul, Int.natCast_pow]; rfl
    rw [← h3, Nat.mod_eq_of_lt h2]
  rw [e]
  exact u32_or_nat _ _ (Nat.lt_of_lt_of_le h1 (Nat.le_trans hp (by decide))) h2

set_option maxRecDepth 100000 in
set_option maxHeartbeats 400000 in
theorem word_some (b off len cap : Nat) (bs : List Nat) (w : World) (hl : bs.length = len) (h4 : 4 ≤ len) (hc : len ≤ cap) (hm : cap ≤ 9223372036854775807)
    (hb : ∀ c ∈ bs, c < 256) (hcell : ∀ i, i < len → w.cell? ⟨b, off + i, none⟩ = some (.int .u8 (bs.getD i 0 : Nat))) :
    Calls Try.prog 37 #[.slice (some ⟨b, off, none⟩) len cap] w fun e w' => e = .returned (.int .u32 (num (bs.take 4) : Nat)) ∧ w = w' := by
  have Hl := Lib.hid hl
  have Hcell := Lib.hid hcell
  have Hb := Lib.hid hb
  clear hl hcell hb
  go_enter Try.func37, Try.ntmps37
  go_wp2_with fail
  go_loop [3, 5] (fun t i => ∃ k : Nat, k ≤ 4 ∧ i = .int .i64 k ∧ t = .int .u32 (num (bs.take k) : Nat)) (fun _ i => 4 - (intOf i).toNat)
  case atStart => exact ⟨0, Nat.zero_le _, rfl, rfl⟩
  case round =>
    obtain ⟨k, hk, rfl, rfl⟩ := hrel
    by_cases hlt : k < 4
    · have hck := Hcell.out k (by omega)
      have hC0 : bs.getD k 0 < 256 := getD_lt Hb.out k
      have hn := Lib.hid (word_next bs k hlt (by rw [Hl.out]; omega) Hb.out)
      generalize bs.getD k 0 = c at *
      generalize num (bs.take k) = t at *
      go_wp2_with fail
      go_round
      case rel => exact ⟨k + 1, by omega, by go_num, by rw [← hn.out]⟩
      case measure => simp [intOf]; omega
    · obtain rfl : k = 4 := by omega
      go_wp2_with fail
      go_ret
      exact ⟨rfl, rfl⟩

theorem word_any (a : Option Addr) (len cap : Nat) (bs : List Nat) (w : World) (h : RowB w a len cap bs) (h4 : 4 ≤ len) :
    Calls Try.prog 37 #[.slice a len cap] w fun e w' => e = .returned (.int .u32 (num (bs.take 4) : Nat)) ∧ w = w' := by
  obtain ⟨b, off, rfl, hc⟩ := h.cells (by omega)
  have hm := h.max
  exact word_some b off len cap bs w h.length h4 h.le (by unfold maxLen at hm; omega) h.lt hc

theorem seal_start (bs : List Nat) (len : Nat) (h : bs.length = len) : bs.take (len + 4) ++ (zeros (len + 4)).drop (min len (len + 4)) = bs ++ zeros 4 := by
  rw [List.take_of_length_le (by omega), Nat.min_eq_left (by omega)]
  congr 1
  simp [zeros, show len + 4 - len = 4 by omega]

theorem seal_set (bs : List Nat) (len k s : Nat) (h : bs.length = len) (hk : k < 4) :
    (bs ++ (leb k s ++ zeros (4 - k))).set (len + k) (s / 2 ^ (8 * k) % 256) = bs ++ (leb (k + 1) s ++ zeros (4 - (k + 1))) := by
  subst h
  rw [List.set_append_right _ _ (by omega), List.set_append_right _ _ (by rw [leb_length]; omega), leb_length, leb_succ]
  have e : zeros (4 - k) = 0 :: zeros (4 - (k + 1)) := by
    unfold zeros; rw [show 4 - k = (4 - (k + 1)) + 1 by omega, List.replicate_succ]
  rw [e, show bs.length + k - bs.length - k = 0 by omega, List.set_cons_zero]
  simp

/-- What Seal tells. -/
def SealPost (n : Nat) (bs : List Nat) (w : World) (e : Ending) (w' : World) : Prop :=
  ∃ g, e = .returned (.slice (some ⟨g, 0, none⟩) (n + 4) (n + 4)) ∧ w.heap.size ≤ g ∧ w'.heap[g]? = some (.cells (bA (sealed bs)) 5 (0, 0)) ∧ Below w.heap.size w w'

set_option maxRecDepth 100000 in
set_option maxHeartbeats 1000000 in
theorem seal_any (a : Option Addr) (len cap : Nat) (bs : List Nat) (w : World) (hr : RowB w a len cap bs) (hlen : len ≤ 1000000) :
    Calls Try.prog 23 #[.agg tbl, .slice a len cap] w (SealPost len bs w) := by
  have hmk : ∀ w : World, (Instr.makeSlice 47 (.int .i64 ((len : Int) + 4)) (.int .i64 ((len : Int) + 4))).run Try.prog w = .ok (.slice (some ⟨w.heap.size, 0, none⟩) (len + 4) (len + 4)) (w.alloc (Obj.cells (bA (zeros (len + 4))) 5)) := fun w => by
    have h := make_bytes w (len + 4) (by omega)
    rwa [show ((len + 4 : Nat) : Int) = (len : Int) + 4 from by omega] at h
  have hrW := (hr.below (below_alloc w (Obj.cells tbl 28))).below (below_alloc _ (Obj.cells (bA (zeros (len + 4))) 5))
  have HrW := Lib.hid hrW
  have hbl := hr.length
  have Hlt := Lib.hid hr.lt
  have HrW2 : ∀ {w2 : World}, Below (w.heap.size + 1) ((w.alloc (Obj.cells tbl 28)).alloc (Obj.cells (bA (zeros (len + 4))) 5)) w2 → RowB ((w.alloc (Obj.cells tbl 28)).alloc (Obj.cells (bA (zeros (len + 4))) 5)) a len cap bs → RowB w2 a len cap bs := fun hb _ =>
    hr.below (((below_alloc w _).trans ((below_alloc _ _).mono (by simp))).trans (hb.mono (by omega)))
  clear hrW hr
  go_enter Try.func23, Try.ntmps23
  go_wp2_with (first | (refine wpList_copy_bytes rfl (.tmp 12) (.tmp 13) rfl (w.heap.size + 1) _ _ _ _ _ _ bs rfl rfl (heap_alloc2_new w _ _) (zeros_length _) HrW.out ?_; intro w2 hg2 hb2; have hT2 : w2.heap[w.heap.size]? = some (Obj.cells tbl 28 (0, 0)) := (hb2.block _ (by omega)).trans (heap_alloc2_old w _ _); rw [seal_start bs len hbl] at hg2; have HT2 := Lib.hid hT2; have HG2 := Lib.hid hg2; clear hT2 hg2; go_frame) | (refine wpList_load_row rfl 28 _ rfl w.heap.size rfl 28 tbl (0, 0) _ HT2.out Try.underlying28 rfl info_tbl ?_; go_frame))
  refine (sum_any _ _ _ _ _ (HrW2 hb2 HrW.out)).mono ?_
  rintro e w3 ⟨rfl, hb3⟩
  have Hs : Hid (sealed bs = bs ++ leb 4 (sm bs)) := Lib.hid rfl
  have hB : Below w.heap.size w w3 := (((below_alloc w _).trans ((below_alloc _ _).mono (by simp))).trans (hb2.mono (by omega))).trans (hb3.mono (by have := hb2.size; simp at this; omega))
  have HG3 : Hid (w3.heap[w.heap.size + 1]? = some (Obj.cells (bA (bs ++ zeros 4)) 5 (0, 0))) := Lib.hid ((hb3.block _ (by have := hb2.size; simp at this; omega)).trans HG2.out)
  clear HrW HrW2 HT2 HG2 hb2 hb3
  generalize sm bs = s at *
  go_wp2_with fail
  go_loopw [18] (fun i wr => ∃ k : Nat, k ≤ 4 ∧ i = .int .i64 k ∧ wr.heap[w.heap.size + 1]? = some (Obj.cells (bA (bs ++ (leb k s ++ zeros (4 - k)))) 5 (0, 0)) ∧ Below w.heap.size w wr) (fun i _ => 4 - (intOf i).toNat)
  case atStart => exact ⟨0, Nat.zero_le _, rfl, HG3.out, hB⟩
  case round =>
    obtain ⟨k, hk, rfl, hg, hbw⟩ := hrel
    have Hg := Lib.hid hg
    clear hg HG3 hB
    by_cases hlt : k < 4
    · have hfz : wr.frozen? ⟨w.heap.size + 1, len + k, none⟩ = false := frozen_of_row wr _ _ _ _ Hg.out
      obtain ⟨c, hc⟩ : ∃ c : Nat, wr.cell? ⟨w.heap.size + 1, len + k, none⟩ = some (.int .u8 (c : Nat)) := ⟨_, (cell_of_row wr _ _ _ _ _ Hg.out).trans (bA_at _ _ (by simp [leb_length, zeros_length, hbl]; omega))⟩
      obtain ⟨v, hv⟩ : ∃ v : Nat, v = s / 2 ^ (8 * k) % 256 := ⟨_, rfl⟩
      have hval : (s : Int) / 2 ^ (8 * k) % 256 = ((v : Nat) : Int) := by
        rw [hv, Int.natCast_emod, Int.natCast_ediv, Int.natCast_pow]; rfl
      have Hv := Lib.hid hv
      clear hv
      go_wp2_with fail
      go_roundw
      case rel =>
        refine ⟨k + 1, by omega, by go_num, ?_, hbw.setCell (by simp) _⟩
        rw [heap_setCell_same _ _ _ _ _ _ Hg.out, bA_set, Hv.out, seal_set bs len k s hbl hlt]
      case measure => simp [intOf]; omega
    · obtain rfl : k = 4 := by omega
      go_wp2_with fail
      go_ret
      refine ⟨w.heap.size + 1, rfl, by omega, ?_, hbw⟩
      rw [Hg.out, Hs.out]
      simp [zeros]

end Go.Proofs.Ytlkghdgomfcfkaa
