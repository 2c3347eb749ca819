/-
  The contract of the document's Divides (layer 1): long division is the table's word.
-/
import Derived.Test.YtlkghdgomfcfkaaCrcH
namespace Go.Proofs.Ytlkghdgomfcfkaa
open Go.RowKit CrcM
set_option linter.unusedVariables false
set_option linter.unnecessarySimpa false
set_option linter.unusedSimpArgs false

/-- A number's bits. -/
def bitsL (M L : Nat) : List Nat := (List.range L).map fun i => (M.testBit i).toNat
theorem bitsL_length (M L : Nat) : (bitsL M L).length = L := by simp [bitsL]
theorem bitsL_at (M L i : Nat) (h : i < L) : (bitsL M L).getD i 0 = (M.testBit i).toNat := by simp [bitsL, List.getD, h]
theorem bitsL_succ (M L : Nat) : bitsL M (L + 1) = bitsL M L ++ [(M.testBit L).toNat] := by simp [bitsL, List.range_succ]
theorem bitsL_flip (M L i : Nat) (h : i < L) : (bitsL M L).set i (1 - (M.testBit i).toNat) = bitsL (M ^^^ 2 ^ i) L := by
  apply List.ext_getElem
  · simp [bitsL]
  · intro j h1 h2
    simp only [List.length_set, bitsL_length] at h1
    rw [List.getElem_set]
    by_cases e : i = j
    · subst e
      simp only [if_true, bitsL, List.getElem_map, List.getElem_range, Nat.testBit_xor, Nat.testBit_two_pow_self]
      cases M.testBit i <;> rfl
    · rw [if_neg e]
      simp only [bitsL, List.getElem_map, List.getElem_range, Nat.testBit_xor]
      rw [Nat.testBit_two_pow_of_ne e]
      simp

/-- The generator's powers, as the document lists them. -/
def pws : List Nat := [32, 28, 27, 26, 25, 23, 22, 20, 19, 18, 14, 13, 11, 10, 9, 8, 6, 0]
theorem pws_length : pws.length = 18 := rfl
theorem pws_le : ∀ k, k < 18 → pws.getD k 0 ≤ 32 := by decide
/-- The first k of them, as a number. -/
def gpn : Nat → Nat
  | 0 => 0
  | k + 1 => gpn k ^^^ 2 ^ (32 - pws.getD k 0)
theorem gpn_full : gpn 18 = 2 * poly + 1 := by decide

theorem flip_next (M i k : Nat) (hk : k < 18) : (M ^^^ 2 ^ i * gpn k) ^^^ 2 ^ (i + 32 - pws.getD k 0) = M ^^^ 2 ^ i * gpn (k + 1) := by
  have hp := pws_le k hk
  have xm : ∀ x y : Nat, 2 ^ i * x ^^^ 2 ^ i * y = 2 ^ i * (x ^^^ y) := by
    intro x y
    apply Nat.eq_of_testBit_eq; intro j
    simp only [Nat.testBit_xor, Nat.testBit_two_pow_mul]
    by_cases hj : i ≤ j <;> simp [hj]
  rw [show i + 32 - pws.getD k 0 = i + (32 - pws.getD k 0) by omega, Nat.pow_add, Nat.xor_assoc, xm]
  rfl

theorem odd_step (i x : Nat) (h : x % 2 = 1) : 2 ^ i * x ^^^ 2 ^ i * gpn 18 = 2 ^ (i + 1) * hv x := by
  have xm : ∀ k x y : Nat, 2 ^ k * x ^^^ 2 ^ k * y = 2 ^ k * (x ^^^ y) := by
    intro k x y
    apply Nat.eq_of_testBit_eq; intro j
    simp only [Nat.testBit_xor, Nat.testBit_two_pow_mul]
    by_cases hj : k ≤ j <;> simp [hj]
  have e1 : x = 1 ^^^ (2 ^ 1 * (x / 2)) := by rw [← add_eq_xor (by decide)]; omega
  have e2 : gpn 18 = 1 ^^^ (2 ^ 1 * poly) := by rw [gpn_full, ← add_eq_xor (by decide)]; omega
  have e3 : x ^^^ gpn 18 = 2 * (x / 2 ^^^ poly) := by
    rw [e2]
    conv => lhs; rw [e1]
    have := xm 1 (x / 2) poly
    rw [Nat.pow_one] at *
    rw [← this, Nat.xor_assoc, Nat.xor_comm (2 * (x / 2)), Nat.xor_assoc, ← Nat.xor_assoc, Nat.xor_self, Nat.zero_xor, Nat.xor_comm]
  rw [xm, e3, hv_odd h, Nat.pow_succ, Nat.mul_assoc]

theorem even_step (i x : Nat) (h : x % 2 = 0) : 2 ^ i * x = 2 ^ (i + 1) * hv x := by
  rw [hv_even h, Nat.pow_succ, Nat.mul_assoc]
  congr 1; omega

theorem mul_testBit (i x : Nat) : (2 ^ i * x).testBit i = (x % 2 == 1) := by
  rw [Nat.testBit_two_pow_mul, Bool.eq_iff_iff]
  simp [Nat.testBit_zero]

/-- How many steps the division takes of L bits. -/
theorem div_spec (L N : Nat) (hN : N < 2 ^ L) : (2 ^ (L - 32) * hvs (L - 32) N = 0 ↔ hvs L N = 0) ∧ 2 ^ (L - 32) * hvs (L - 32) N < 2 ^ L := by
  by_cases h : 32 ≤ L
  · obtain ⟨s, rfl⟩ : ∃ s, L = 32 + s := ⟨L - 32, by omega⟩
    have e : 32 + s - 32 = s := by omega
    rw [e]
    have hlt : hvs s N < 2 ^ 32 := hvs_lt s (Nat.le_refl _) hN
    have hp : 2 ^ s ≠ 0 := Nat.ne_of_gt (Nat.two_pow_pos s)
    refine ⟨?_, ?_⟩
    · rw [Nat.add_comm 32 s, hvs_add]
      constructor
      · intro h0
        have : hvs s N = 0 := by
          rcases Nat.mul_eq_zero.1 h0 with h1 | h1
          · exact absurd h1 hp
          · exact h1
        rw [this, hvs_zero]
      · intro h0
        rw [hvs_eq_zero 32 hlt h0, Nat.mul_zero]
    · rw [Nat.add_comm 32 s, Nat.pow_add]
      exact Nat.mul_lt_mul_of_pos_left hlt (Nat.two_pow_pos s)
  · rw [show L - 32 = 0 by omega]
    simp only [Nat.pow_zero, Nat.one_mul, hvs]
    refine ⟨⟨fun h0 => by rw [h0, hvs_zero], fun h0 => hvs_eq_zero L (Nat.lt_of_lt_of_le hN (Nat.pow_le_pow_right (by decide) (by omega : L ≤ 32))) h0⟩, hN⟩

theorem zero_of_bits (M L : Nat) (hM : M < 2 ^ L) (h : ∀ j, j < L → M.testBit j = false) : M = 0 := by
  apply Nat.eq_of_testBit_eq; intro j
  rw [Nat.zero_testBit]
  by_cases hj : j < L
  · exact h j hj
  · exact Nat.testBit_lt_two_pow (Nat.lt_of_lt_of_le hM (Nat.pow_le_pow_right (by decide) (by omega)))

/-- Numbers as values. -/
def ivals (l : List Nat) : List Value := l.map fun x => Value.int .i64 (x : Nat)
theorem ivals_length (l : List Nat) : (ivals l).length = l.length := by simp [ivals]
theorem ivals_snoc (l : List Nat) (x : Nat) : ivals (l ++ [x]) = ivals l ++ [.int .i64 (x : Nat)] := by simp [ivals]

/-- A row of ints of the call's own. -/
structure RowI (w : World) (g L : Nat) (l : List Nat) : Prop where
  length : l.length = L
  cells : ∀ j, j < L → w.cell? ⟨g, j, none⟩ = some (.int .i64 (l.getD j 0 : Nat))
  free : ∀ j, w.frozen? ⟨g, j, none⟩ = false

theorem RowI.set {w : World} {g L : Nat} {l : List Nat} (h : RowI w g L l) (i x : Nat) (hi : i < L) : RowI (w.setCell ⟨g, i, none⟩ (.int .i64 (x : Nat))) g L (l.set i x) := by
  have hl := h.length
  refine ⟨by rw [List.length_set]; exact hl, fun j hj => ?_, fun j => by rw [World.frozen?_setCell]; exact h.free j⟩
  have hcj := h.cells j hj
  by_cases e : i = j
  · subst e
    rw [World.cell?_setCell_same _ _ _ hcj]
    simp [List.getD, List.getElem?_set, hl, hi]
  · rw [World.cell?_setCell_other _ _ _ _ (by simp [e]), hcj]
    simp [List.getD, List.getElem?_set, e]

theorem RowI.set_far {w : World} {g L g' i : Nat} {l : List Nat} {v : Value} (h : RowI w g L l) (hg : g' ≠ g) : RowI (w.setCell ⟨g', i, none⟩ v) g L l :=
  ⟨h.length, fun j hj => by rw [World.cell?_setCell_other _ _ _ _ (by simp [hg])]; exact h.cells j hj, fun j => by rw [World.frozen?_setCell]; exact h.free j⟩

theorem RowI.alloc {w : World} {g L : Nat} {l : List Nat} (h : RowI w g L l) (hg : g < w.heap.size) (o : Obj) : RowI (w.alloc o) g L l :=
  ⟨h.length, fun j hj => by rw [World.cell?_alloc_lt _ _ _ hg]; exact h.cells j hj, fun j => by
    have := (below_alloc w o).frozen (p := ⟨g, j, none⟩) hg
    rw [this]; exact h.free j⟩

theorem RowI.of_heap {w : World} {g L : Nat} {l : List Nat} {C : Array Value} {t : TypeId} (h : w.heap[g]? = some (.cells C t (0, 0))) (hl : l.length = L) (hC : C.toList.take L = ivals l) : RowI w g L l := by
  refine ⟨hl, fun j hj => ?_, fun j => frozen_of_row w g j C t h⟩
  rw [cell_of_row w g _ C t _ h]
  have e : (C.toList.take L)[j]? = C[j]? := by rw [List.getElem?_take_of_lt hj]; simp
  rw [← e, hC]
  simp [ivals, List.getD, hl, hj]

theorem Try.infoInt : (Try.prog.info? 3).map (fun i => (i.zero, i.size, i.bytes)) = some (some (.int .i64 0), 1, 8) := by kernel_rfl

set_option maxHeartbeats 400000 in
theorem div_zero (a : Option Addr) (cap : Nat) (w : World) :
    Calls Try.prog 20 #[.slice a 0 cap] w fun e w' => e = .returned (.bool true) ∧ Below w.heap.size w w' := by
  go_enter Try.func20, Try.ntmps20
  go_wp2_with fail
  refine wp_loop_rounds 1 ?_
  rw [rounds_succ]
  go_wp2_with fail
  refine wp_loop_rounds 1 ?_
  rw [rounds_succ]
  go_wp2_with fail
  refine wp_loop_rounds 1 ?_
  rw [rounds_succ]
  go_wp2_with fail
  go_ret
  exact ⟨rfl, below_alloc w _⟩

/-- Loops 2 and 3 of Divides: the division; then the look for a bit that is left. -/
theorem bit01 (b : Bool) : ((b.toNat : Nat) : Int) = 0 ∨ ((b.toNat : Nat) : Int) = 1 := by cases b <;> simp
theorem one_sub_bit (b : Bool) : (1 : Int) - ((b.toNat : Nat) : Int) = ((1 - b.toNat : Nat) : Int) := by cases b <;> rfl

set_option maxRecDepth 100000 in
set_option maxHeartbeats 4000000 in
theorem div_any (a : Option Addr) (len cap : Nat) (bs : List Nat) (w : World) (hr : RowB w a len cap bs) (h0 : 0 < len) (hm : len ≤ 1000) :
    Calls Try.prog 20 #[.slice a len cap] w fun e w' => e = .returned (.bool (decide (ovr 0 bs = 0))) ∧ Below w.heap.size w w' := by
  have hnum : num bs < 2 ^ (8 * len) := by have := num_lt bs hr.lt; rwa [hr.length] at this
  have Hnum := Lib.hid hnum
  have Hov := Lib.hid (show ovr 0 bs = hvs (8 * len) (num bs) by rw [ovr_num bs 0 hr.lt, Nat.zero_xor, hr.length])
  have HR := Lib.hid hr
  obtain ⟨i0, hi, hz0, hz1, hz2⟩ := info_parts Try.infoInt
  have Hi := Lib.hid hi
  have Hz0 := Lib.hid hz0
  have Hz1 := Lib.hid hz1
  have Hz2 := Lib.hid hz2
  clear hnum hr hi hz0 hz1 hz2
  generalize hN : num bs = N at *
  have HN := Lib.hid hN
  clear hN
  go_enter Try.func20, Try.ntmps20
  go_wp2_with fail
  go_loopw [3, 4] (fun v i wr => ∃ k : Nat, k ≤ 8 * len ∧ i = .int .i64 k ∧ wr.ownsRow w.heap.size 3 1 v k (ivals (bitsL N k)) ∧ Below w.heap.size w wr) (fun _ i _ => 8 * len - (intOf i).toNat)
  case atStart => exact ⟨0, Nat.zero_le _, rfl, World.ownsRow_nil _ _ _ _, Below.refl _ _⟩
  case round =>
    obtain ⟨k, hk, rfl, hown, hbw⟩ := hrel
    have Hown := Lib.hid hown
    have Hbw := Lib.hid hbw
    clear hown hbw
    by_cases hlt : k < 8 * len
    · have Hsz := Lib.hid (Hbw.out.size)
      go_wp2_with fail
      refine (bit_any _ _ _ _ k _ (HR.out.below Hbw.out) hlt (by omega)).mono ?_
      rintro e w' ⟨rfl, rfl⟩
      rw [HN.out]
      have Hsucc := Lib.hid (bitsL_succ N k)
      have Hbit := Lib.hid (show [Value.int .i64 (((N.testBit k).toNat : Nat) : Int)] = ivals [(N.testBit k).toNat] from rfl)
      generalize (N.testBit k).toNat = x at *
      go_wp2_with (at_builtin; go_must (refine wpList_append_own _ rfl (.tmp 17) (.tmp 21) 66 rfl w.heap.size 3 i0 (.int .i64 0) 1 8 Try.underlying66 Hi.out Hz0.out Hz1.out Hz2.out rfl (by decide) _ k (ivals (bitsL N k)) rfl (Hown.out.alloc _) ⟨wr.heap.size, 0, none⟩ 1 1 [.int .i64 (x : Nat)] rfl rfl (cell_one_new _ _ _) (by simp [Value.oneCell']) (by unfold maxLen; omega) (by omega) (by have := Hsz.out; simp; omega) ?_); intro v' w1 hown' hgr _; go_must (have Hown' := Lib.hid hown'); go_must (have HB' := Lib.hid ((Hbw.out.alloc Hsz.out _).grown hgr (Nat.le_trans Hsz.out (by simp)) (fun j hj => (Hown.out.lt j hj).1))); clear hown' hgr; go_frame)
      go_roundw
      case rel => exact ⟨k + 1, by omega, by go_num, by rw [Hsucc.out, ivals_snoc]; exact Hown'.out, HB'.out⟩
      case measure => simp [intOf]; omega
    · have hkl : k = 8 * len := by omega
      rw [hkl] at Hown
      obtain ⟨g, pc, cur, hv, hbg, hg, hle, hmx, hcs, htk⟩ : ∃ g pc cur, u3 = .slice (some ⟨g, 0, none⟩) (8 * len) pc ∧ w.heap.size ≤ g ∧ wr.heap[g]? = some (.cells cur 3 (0, 0)) ∧ 8 * len ≤ pc ∧ pc ≤ maxLen ∧ cur.size = pc * 1 ∧ cur.toList.take (8 * len * 1) = ivals (bitsL N (8 * len)) := by
        rcases Hown.out.2 with ⟨_, h⟩ | h
        · omega
        · exact h
      have hrow0 := RowI.of_heap (l := bitsL N (8 * len)) hg (bitsL_length _ _) (by rw [Nat.mul_one] at htk; exact htk)
      rw [hv]
      have hb64 : 8 * len ≤ 8000 := by omega
      have hL0 : 0 < 8 * len := by omega
      have hq1 : k ≤ 8 * len := hk
      have hq2 : 8 * len ≤ k := by omega
      clear hv hg hcs htk Hown HR
      have hgl : g < wr.heap.size := by have := hrow0.cells 0 hL0; exact block_lt_of_cell this
      clear hkl hk hlt
      generalize hL : 8 * len = L at *
      have hl1 : L ≤ 8 * len := Nat.le_of_eq hL.symm
      have hl2 : 8 * len ≤ L := Nat.le_of_eq hL
      have HL := Lib.hid hL
      clear hL
      have hmx' : pc ≤ 9223372036854775807 := by unfold maxLen at hmx; omega
      go_wp2_with fail
      have hpw0 : RowI (wr.alloc (Obj.cells (ivals pws).toArray 3)) wr.heap.size 18 pws := RowI.of_heap (heap_alloc_new wr _) rfl (by simp [ivals, pws])
      have hrow1 := hrow0.alloc hgl (Obj.cells (ivals pws).toArray 3)
      have hB1 := Hbw.out.alloc Hbw.out.size (Obj.cells (ivals pws).toArray 3)
      have hrow2 : RowI (wr.alloc (Obj.cells (ivals pws).toArray 3)) g L (bitsL (2 ^ 0 * hvs 0 N) L) := by rw [Nat.pow_zero, Nat.one_mul]; exact hrow1
      have hwg : w.heap.size ≤ wr.heap.size := Hbw.out.size
      have hgp : wr.heap.size ≠ g := by omega
      clear hrow0 hrow1 Hbw hmx
      generalize hG : wr.heap.size = gp at *
      go_loopw [6] (fun i w2 => ∃ m : Nat, m ≤ L - 32 ∧ i = .int .i64 m ∧ RowI w2 g L (bitsL (2 ^ m * hvs m N) L) ∧ RowI w2 gp 18 pws ∧ Below w.heap.size w w2) (fun i _ => L - (intOf i).toNat)
      case atStart => exact ⟨0, Nat.zero_le _, rfl, hrow2, hpw0, hB1⟩
      case round =>
        obtain ⟨m, hm', rfl, hp, hpw, hB⟩ := hrel
        have Hp := Lib.hid hp
        have Hpw := Lib.hid hpw
        have HB := Lib.hid hB
        clear hp hpw hB hrow2 hpw0 hB1
        by_cases hlt2 : m + 32 < L
        · have hx : Hid (hvs (m + 1) N = hv (hvs m N)) := Lib.hid (hvs_succ m N)
          have hcm := Hp.out.cells m (by omega)
          rw [bitsL_at _ _ _ (by omega), mul_testBit] at hcm
          generalize hvs m N = x at *
          rcases Nat.mod_two_eq_zero_or_one x with h0 | h1
          · rw [h0] at hcm
            have hcm0 : wr.cell? ⟨g, m, none⟩ = some (.int .i64 0) := hcm
            have He := Lib.hid (even_step m x h0)
            clear hcm h0
            go_wp2_with fail
            go_roundw
            case rel => exact ⟨m + 1, by omega, by go_num, by rw [hx.out, ← He.out]; exact Hp.out, Hpw.out, HB.out⟩
            case measure => simp [intOf]; omega
          · rw [h1] at hcm
            have hcm1 : wr.cell? ⟨g, m, none⟩ = some (.int .i64 1) := hcm
            have Ho := Lib.hid (odd_step m x h1)
            have Hp0 := Lib.hid (show RowI wr g L (bitsL (2 ^ m * x ^^^ 2 ^ m * gpn 0) L) by rw [show gpn 0 = 0 from rfl, Nat.mul_zero, Nat.xor_zero]; exact Hp.out)
            clear hcm h1
            obtain ⟨wo, rfl⟩ : ∃ wo : World, wo = wr := ⟨_, rfl⟩
            go_wp2_with fail
            clear hcm1
            go_loopw [7] (fun j wi => ∃ k : Nat, k ≤ 18 ∧ j = .int .i64 k ∧ RowI wi g L (bitsL (2 ^ m * x ^^^ 2 ^ m * gpn k) L) ∧ RowI wi gp 18 pws ∧ Below w.heap.size w wi) (fun j _ => 18 - (intOf j).toNat)
            case atStart => exact ⟨0, Nat.zero_le _, rfl, Hp0.out, Hpw.out, HB.out⟩
            case round =>
              obtain ⟨k, hk, rfl, hp, hpw, hB⟩ := hrel
              have Jp := Lib.hid hp
              have Jpw := Lib.hid hpw
              have JB := Lib.hid hB
              clear hp hpw hB Hp0
              by_cases hk18 : k < 18
              · have hck := Jpw.out.cells k hk18
                have hpl := pws_le k hk18
                have Hfl := Lib.hid (flip_next (2 ^ m * x) m k hk18)
                generalize pws.getD k 0 = p at *
                have hat : m + 32 - p < L := by omega
                have hca := Jp.out.cells (m + 32 - p) hat
                have hfa := Jp.out.free (m + 32 - p)
                rw [bitsL_at _ _ _ hat] at hca
                have Hset := Lib.hid (bitsL_flip (2 ^ m * x ^^^ 2 ^ m * gpn k) L (m + 32 - p) hat)
                have hos := one_sub_bit ((2 ^ m * x ^^^ 2 ^ m * gpn k).testBit (m + 32 - p))
                have h01 := bit01 ((2 ^ m * x ^^^ 2 ^ m * gpn k).testBit (m + 32 - p))
                generalize (2 ^ m * x ^^^ 2 ^ m * gpn k).testBit (m + 32 - p) = b at *
                have hi1 : (0 : Int) ≤ (m : Int) + 32 - (p : Int) := by omega
                have hi2 : (m : Int) + 32 - (p : Int) < (L : Int) := by omega
                obtain ⟨b1, hb1⟩ : ∃ b1 : Nat, b1 = b.toNat := ⟨_, rfl⟩
                rw [← hb1] at hca hos h01
                obtain ⟨b2, hb2⟩ : ∃ b2 : Nat, b2 = 1 - b1 := ⟨_, rfl⟩
                rw [← hb2] at hos
                have Hb2 : Hid (1 - b.toNat = b2) := Lib.hid (by rw [hb2, hb1])
                have hbl : (b1 : Int) ≤ 1 := by omega
                clear hb1 hb2 h01
                go_wp2_with fail
                go_roundw
                case rel =>
                  refine ⟨k + 1, by omega, by go_num, ?_, Jpw.out.set_far (Ne.symm hgp), JB.out.setCell hbg _⟩
                  have h := Jp.out.set (m + 32 - p) b2 hat
                  rw [← Hb2.out, Hset.out, Hfl.out, Hb2.out] at h
                  exact h
                case measure => simp [intOf]; omega
              · have hk' : k = 18 := by omega
                have JpE : Hid (RowI wr g L (bitsL (2 ^ (m + 1) * hvs (m + 1) N) L)) := Lib.hid (by rw [hx.out, ← Ho.out, ← hk']; exact Jp.out)
                go_wp2_with fail
                go_roundw
                case rel => exact ⟨m + 1, by omega, by go_num, JpE.out, Jpw.out, JB.out⟩
                case measure => simp [intOf]; omega
        · have hmL : m = L - 32 := by omega
          have hds := div_spec L N Hnum.out
          rw [← hmL] at hds
          have Hd : Hid (decide (ovr 0 bs = 0) = decide (2 ^ m * hvs m N = 0)) := Lib.hid (by rw [Hov.out, Bool.eq_iff_iff]; simp only [decide_eq_true_eq]; exact hds.1.symm)
          have Hlt := Lib.hid hds.2
          clear hds hmL
          generalize 2 ^ m * hvs m N = M at *
          go_wp2_with fail
          go_loop [9] (fun j => ∃ k : Nat, k ≤ L ∧ j = .int .i64 k ∧ ∀ q, q < k → M.testBit q = false) (fun j => L - (intOf j).toNat)
          case atStart => exact ⟨0, Nat.zero_le _, rfl, fun q hq => by omega⟩
          case round =>
            obtain ⟨k, hk, rfl, hq⟩ := hrel
            have Hq := Lib.hid hq
            clear hq
            by_cases hkL : k < L
            · have hcm := Hp.out.cells k hkL
              rw [bitsL_at _ _ _ hkL] at hcm
              cases hb : M.testBit k with
              | true =>
                rw [hb] at hcm
                have hc1 : wr.cell? ⟨g, k, none⟩ = some (.int .i64 1) := hcm
                have Hf : Hid (decide (ovr 0 bs = 0) = false) := Lib.hid (by rw [Hd.out]; exact decide_eq_false (fun e => by rw [e, Nat.zero_testBit] at hb; cases hb))
                clear hcm hb
                go_wp2_with fail
                go_ret
                exact ⟨by rw [Hf.out]; rfl, HB.out⟩
              | false =>
                rw [hb] at hcm
                have hc0 : wr.cell? ⟨g, k, none⟩ = some (.int .i64 0) := hcm
                have Hbk := Lib.hid hb
                clear hcm hb
                go_wp2_with fail
                go_round
                case rel =>
                  refine ⟨k + 1, by omega, by go_num, fun q hq => ?_⟩
                  by_cases e : q = k
                  · rw [e]; exact Hbk.out
                  · exact Hq.out q (by omega)
                case measure => simp [intOf]; omega
            · have hkL' : k = L := by omega
              have Ht : Hid (decide (ovr 0 bs = 0) = true) := Lib.hid (by rw [Hd.out]; exact decide_eq_true (zero_of_bits M L Hlt.out (fun j hj => Hq.out j (by omega))))
              go_wp2_with fail
              go_ret
              exact ⟨by rw [Ht.out]; rfl, HB.out⟩

theorem div_all (a : Option Addr) (len cap : Nat) (bs : List Nat) (w : World) (hr : RowB w a len cap bs) (hm : len ≤ 1000) :
    Calls Try.prog 20 #[.slice a len cap] w fun e w' => e = .returned (.bool (decide (ovr 0 bs = 0))) ∧ Below w.heap.size w w' := by
  by_cases h0 : len = 0
  · subst h0
    have : bs = [] := List.length_eq_zero_iff.1 hr.length
    subst this
    rw [show decide (ovr 0 [] = 0) = true from rfl]
    exact div_zero a cap w
  · exact div_any a len cap bs w hr (by omega) hm

end Go.Proofs.Ytlkghdgomfcfkaa
