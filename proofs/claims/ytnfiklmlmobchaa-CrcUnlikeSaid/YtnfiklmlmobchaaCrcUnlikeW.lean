/-
  The walk of CrcUnlike.
-/
import Derived.Test.YtnfiklmlmobchaaCrcD
namespace Go.Proofs.Ytnfiklmlmobchaa
open Go.RowKit CrcM
set_option linter.unusedVariables false
set_option linter.unnecessarySimpa false
set_option linter.unusedSimpArgs false

theorem tw_xor (a b : Nat) : tw (a ^^^ b) = tw a ^^^ tw b := hvs_xor 8 a b
theorem tw_inj {a b : Nat} (ha : a < 256) (hb : b < 256) (h : tw a = tw b) : a = b := by
  have hx : tw (a ^^^ b) = 0 := by rw [tw_xor, h, Nat.xor_self]
  have h0 := hvs_eq_zero 8 (r := a ^^^ b) (Nat.xor_lt_two_pow (n := 32) (by omega) (by omega)) hx
  have := congrArg (fun x => x ^^^ b) h0
  simpa [Nat.xor_assoc, Nat.xor_self] using this

set_option maxRecDepth 100000 in
set_option maxHeartbeats 1000000 in
theorem walkUnlike (a b : Nat) (ha : a < 256) (hb : b < 256) (w : World) :
    Calls Try.prog 9 #[.int .u8 a, .int .u8 b] w fun e w' => e = .returned (.bool true) ∧ Below w.heap.size w w' := by
  have hz := zero_tab
  have hx : bits BinOp.xor IntKind.u8 (a : Int) (b : Int) = ((a ^^^ b : Nat) : Int) := u8_xor_nat a b ha hb
  have hX := Lib.hid hx
  clear hx
  go_enter Try.func9, Try.ntmps9
  go_wp2_with fail
  refine (anchor_any _).mono ?_
  rintro e w1 ⟨rfl, hb1⟩
  go_wp2_with fail
  refine (new_any _).mono ?_
  rintro e w2 ⟨rfl, hb2⟩
  go_wp2_with (refine wpList_store_row rfl 26 _ _ rfl w2.heap.size tbl rfl rfl 26 (pt 0) (heap_alloc_new w2 _) info_tbl (by rw [pt_size, tbl_size]) tbl_cells ?_; rw [setRow_new])
  clear hz
  have hxlt : a ^^^ b < 256 := Nat.xor_lt_two_pow (n := 8) ha hb
  have cx := tbl_at (a ^^^ b) hxlt
  have ca := tbl_at a ha
  have cb := tbl_at b hb
  have hE : Hid ((((tw a : Nat) : Int) == ((tw b : Nat) : Int)) = ((a : Int) == (b : Int))) := Lib.hid (by
    rw [Bool.eq_iff_iff]; simp only [beq_iff_eq]
    exact ⟨fun h => by rw [tw_inj ha hb (by omega)], fun h => by rw [show a = b by omega]⟩)
  have hT : Hid (bits BinOp.xor IntKind.u32 ((tw a : Nat) : Int) ((tw b : Nat) : Int) = ((tw (a ^^^ b) : Nat) : Int)) := Lib.hid (by
    rw [xor32n _ _ (tw_lt ha) (tw_lt hb), tw_xor])
  have hx := hX.out
  generalize tw a = A at *
  generalize tw b = B at *
  generalize tw (a ^^^ b) = X at *
  generalize a ^^^ b = x at *
  have hT' := hT.out
  have hE' := hE.out
  simp only [Act.put]
  go_quiet (fail)
  go_wp2
  go_ret
  exact ⟨rfl, bthen hb1 (bthen hb2 (below_drewN (below_alloc w2 _) _))⟩

theorem walkCrcUnlike (a b : Int) (w : World) (ha : (Lit.int .u8 a).wf = true) (hb : (Lit.int .u8 b).wf = true) :
    Calls Try.prog 9 #[.int .u8 a, .int .u8 b] w fun e w' => e = .returned (.bool true) ∧ Below w.heap.size w w' := by
  have := bounds_u8 ha
  have := bounds_u8 hb
  obtain ⟨x, rfl⟩ := Int.eq_ofNat_of_zero_le (a := a) (by omega)
  obtain ⟨y, rfl⟩ := Int.eq_ofNat_of_zero_le (a := b) (by omega)
  exact walkUnlike x y (by omega) (by omega) w

end Go.Proofs.Ytnfiklmlmobchaa
