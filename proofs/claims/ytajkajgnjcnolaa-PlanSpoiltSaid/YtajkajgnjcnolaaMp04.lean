import Derived.Test.YtajkajgnjcnolaaMp03
import Derived.Test.YtajkajgnjcnolaaMp01
import Derived.RangeFuncNested
import Derived.RangeFuncBound
import Derived.RangeFuncCalls
import Derived.RangeFuncLeaves
import Derived.Shelf.Abstract
import Derived.Shelf.RegionOpen
import Derived.OwnWalkIn
import Derived.TacticsInMore
import Derived.LoopNIn
import Derived.LoopIn
import Derived.Recover
import Derived.Defers
import Derived.Maps.AppendAt
namespace Go.Proofs.Ytajkajgnjcnolaa
open Go.RowKit
set_option linter.unusedVariables false
set_option linter.unnecessarySimpa false
set_option linter.unusedSimpArgs false
def zs0 (size : Int) : ZsR := ⟨size, 0, false, 0, []⟩
theorem zs0_ok {size : Int} (h : 1 ≤ size ∧ size ≤ 64) : ZsOk (zs0 size) := ⟨h, by simp [zs0]; omega, by simp [zs0], .inl rfl, by simp [zs0], by simp [zs0]⟩
theorem zsat_new {T E : TypeId} {lo : Nat} (w : World) (size : Int) (hlo : lo ≤ w.heap.size) : ZsAt T E lo (w.alloc (Obj.cells (zsA (zs0 size) (.slice none 0 0)) T)) w.heap.size (.slice none 0 0) (zs0 size) :=
  ⟨Blk.new _ _ _, ownK_nil _ _ _ _, hlo⟩
def rsS (z : ZsR) : ZsR := if refS z = 0 then zs0 z.size else z
theorem zfs_set {w : World} {A i : Nat} {v u : Value} : Kept (ZF A v) w (w.setCell ⟨A, i, none⟩ u) := (Kept.refl (ZF A v) w).setCell (p := ⟨A, i, none⟩) (.inl rfl) u
theorem zfs_at {w w' : World} {A : Nat} {v : Value} (h : Kept (· = A) w w') : Kept (ZF A v) w w' := h.mono (fun _ _ e => .inl e)
theorem below_eqS {w w' : World} (h : w = w') : Below w.heap.size w w' := h ▸ Below.refl _ _
theorem zsA_one (z : ZsR) (a : Option Addr) (n c : Nat) : (zsA z (.slice a n c)).all (·.oneCell') = true := by
  simp only [zsA, Array.all_eq_true_iff_forall_mem, List.mem_toArray]
  intro x hx
  rcases List.mem_cons.1 hx with rfl | hx
  · rfl
  rcases List.mem_cons.1 hx with rfl | hx
  · rfl
  rcases List.mem_cons.1 hx with rfl | hx
  · rfl
  rcases List.mem_cons.1 hx with rfl | hx
  · rfl
  rcases List.mem_cons.1 hx with rfl | hx
  · rfl
  cases hx
theorem Try.infoZF : (Try.prog.info? 114).map (·.size) = some 5 := by kernel_rfl
set_option maxRecDepth 100000 in
set_option maxHeartbeats 2000000 in
theorem znewF_no (size : Int) (w : World) (h : size < 1 ∨ 64 < size) : Calls Try.prog 72 #[.int .i64 size] w fun e w' => e = .returned (.tuple #[.pointer none, .int .i64 13]) ∧ w = w' := by
  rcases h with h | h
  · go_enter Try.func72, Try.ntmps72
    go_wp2
    go_ret2
    exact ⟨rfl, rfl⟩
  · have h' : ¬ size < 1 := by omega
    go_enter Try.func72, Try.ntmps72
    go_wp2
    go_ret2
    exact ⟨rfl, rfl⟩
set_option maxRecDepth 100000 in
set_option maxHeartbeats 2000000 in
theorem znewF_ok (size : Int) (w : World) (h1 : 1 ≤ size) (h2 : size ≤ 64) : Calls Try.prog 72 #[.int .i64 size] w fun e w' => e = .returned (.tuple #[.pointer (some ⟨w.heap.size, 0, none⟩), .int .i64 0]) ∧ w' = w.alloc (Obj.cells (zsA (zs0 size) (.slice none 0 0)) 114) := by
  go_enter Try.func72, Try.ntmps72
  go_wp2_with (refine wpl_build (by rfl) _ _ rfl (.agg (zsA (zs0 size) (.slice none 0 0))) (fun w => by kernel_rfl) ?_; go_frame)
  go_ret2
  exact ⟨rfl, rfl⟩
set_option maxRecDepth 100000 in
set_option maxHeartbeats 2000000 in
theorem zrefF {lo A : Nat} {v : Value} {z : ZsR} {w : World} (hz : ZsAt 114 34 lo w A v z) : Calls Try.prog 85 #[.pointer (some ⟨A, 0, none⟩)] w fun e w' => e = .returned (.int .i64 (refS z)) ∧ w = w' := by
  have c4 : w.cell? ⟨A, 4, none⟩ = some (.int .i64 z.failed) := (hz.blk.cell 4).trans rfl
  clear hz
  go_enter Try.func85, Try.ntmps85
  go_wp2
  all_goals
    go_ret
    exact ⟨ret_int (by unfold refS; simp_all), rfl⟩
set_option maxRecDepth 100000 in
set_option maxHeartbeats 2000000 in
theorem zlenF {lo A : Nat} {v : Value} {z : ZsR} {w : World} (hz : ZsAt 114 34 lo w A v z) : Calls Try.prog 43 #[.pointer (some ⟨A, 0, none⟩)] w fun e w' => e = .returned (.int .i64 (z.ss.length : Nat)) ∧ w = w' := by
  obtain ⟨a, cap, rfl, hc1, hc2⟩ := hz.slice
  have c1 : w.cell? ⟨A, 1, none⟩ = some (.slice a z.ss.length cap) := (hz.blk.cell 1).trans rfl
  clear hz
  go_enter Try.func43, Try.ntmps43
  go_wp2
  go_ret
  exact ⟨rfl, rfl⟩
set_option maxRecDepth 100000 in
set_option maxHeartbeats 2000000 in
theorem zholF {lo A : Nat} {v : Value} {z : ZsR} {w : World} (off : Int) (hz : ZsAt 114 34 lo w A v z) : Calls Try.prog 86 #[.pointer (some ⟨A, 0, none⟩), .int .i64 off] w fun e w' => e = .returned (.bool (holS z off)) ∧ w = w' := by
  have Hz := Lib.hid hz
  clear hz
  by_cases h0 : 0 ≤ off
  · have hd : decide (0 ≤ off) = true := decide_eq_true h0
    go_enter Try.func86, Try.ntmps86
    go_wp2_with (first | (refine (zlenF Hz.out).mono ?_; rintro e w' ⟨rfl, rfl⟩))
    go_ret
    exact ⟨ret_bool (by unfold holS; rw [hd]; rfl), rfl⟩
  · have hd : decide (0 ≤ off) = false := decide_eq_false h0
    go_enter Try.func86, Try.ntmps86
    go_wp2_with fail
    go_ret
    exact ⟨ret_bool (by unfold holS; rw [hd]; rfl), rfl⟩
set_option maxRecDepth 100000 in
set_option maxHeartbeats 2000000 in
theorem zstF {lo A : Nat} {v : Value} {z : ZsR} {w : World} (hz : ZsAt 114 34 lo w A v z) : Calls Try.prog 46 #[.pointer (some ⟨A, 0, none⟩)] w fun e w' => e = .returned (.int .i64 (stS z)) ∧ Below w.heap.size w w' := by
  have c4 : w.cell? ⟨A, 4, none⟩ = some (.int .i64 z.failed) := (hz.blk.cell 4).trans rfl
  have c3 : w.cell? ⟨A, 3, none⟩ = some (.bool z.fin) := (hz.blk.cell 3).trans rfl
  have c0 : w.cell? ⟨A, 0, none⟩ = some (.int .i64 z.size) := (hz.blk.cell 0).trans rfl
  have Hz := Lib.hid hz
  clear hz
  by_cases hf : z.failed = 0
  · have Hf := Lib.hid hf
    cases hfin : z.fin with
    | true =>
      rw [hfin] at c3
      have Hfin := Lib.hid hfin
      clear hf hfin
      rw [Hf.out] at c4
      go_enter Try.func46, Try.ntmps46
      go_upto_region 3 with fail
      go_quiet ((fail))
      go_wp2_with fail
      go_ret
      exact ⟨ret_int (by unfold stS; rw [if_neg (by rw [Hf.out]; decide), if_pos (.inl Hfin.out)]), below_drewN (Below.refl _ _) _⟩
    | false =>
      rw [hfin] at c3
      have Hfin := Lib.hid hfin
      clear hf hfin
      rw [Hf.out] at c4
      go_enter Try.func46, Try.ntmps46
      go_upto_region 3 with fail
      clear c4 c3 c0
      have Hb := Lib.hid Hz.out.blk
      by_cases he : (z.ss.length : Int) = z.size
      · have hd : decide ((z.ss.length : Int) = z.size) = true := decide_eq_true he
        have He := Lib.hid he
        clear he
        refine wp_region_held (S := fun w' => Below w.heap.size w w') (by kernel_rfl) ?_
        change wpAnyH _ _ _ _ _ _ _ _ (World.drew _)
        have hS : Below w.heap.size w w.drew := (Below.refl _ _).drew
        refine takeH hS (i := 0) (d := 14) (v := .pointer (some ⟨A, 0, none⟩)) rfl rfl (by kernel_rfl) (by kernel_rfl) (by kernel_rfl) (fun _ _ _ h => h) (Or.inl ⟨by kernel_rfl, fun w' hw' => by kernel_rfl⟩) ?_
        refine takeH hS (i := 1) (d := 15) (v := .pointer (some ⟨A, 0, none⟩)) rfl rfl (by kernel_rfl) (by kernel_rfl) (by kernel_rfl) (fun _ _ _ h => h) (Or.inl ⟨by kernel_rfl, fun w' hw' => by kernel_rfl⟩) ?_
        refine takeH hS (i := 2) (d := 16) (v := .pointer (some ⟨A, 3, none⟩)) rfl rfl (by kernel_rfl) (by kernel_rfl) (by kernel_rfl) (fun _ _ _ h => h) (Or.inl ⟨by kernel_rfl, fun w' hw' => by kernel_rfl⟩) ?_
        refine takeH hS (i := 3) (d := 17) (v := .bool false) rfl rfl (by kernel_rfl) (by kernel_rfl) (by kernel_rfl) (fun _ _ _ h => h) (Or.inl ⟨by kernel_rfl, fun w' hw' => by exact exec_cellv _ rfl ⟨A, 3, none⟩ rfl (.bool false) Try.underlying4 rfl (((Hb.out.below hw' Hb.out.lt).cell 3).trans ((show (zsA z v)[3]? = some (.bool z.fin) from rfl).trans (by rw [Hfin.out])))⟩) ?_
        try go_frame
        refine takeH hS (i := 4) (d := 18) (v := .bool false) rfl rfl (by kernel_rfl) (by kernel_rfl) (by kernel_rfl) (fun _ _ _ h => h) (Or.inl ⟨by kernel_rfl, fun w' hw' => by kernel_rfl⟩) ?_
        refine takeH hS (i := 5) (d := 19) (v := .pointer (some ⟨A, 0, none⟩)) rfl rfl (by kernel_rfl) (by kernel_rfl) (by kernel_rfl) (fun _ _ _ h => h) (Or.inl ⟨by kernel_rfl, fun w' hw' => by kernel_rfl⟩) ?_
        refine takeH hS (i := 7) (d := 21) (v := .pointer (some ⟨A, 0, none⟩)) rfl rfl (by kernel_rfl) (by kernel_rfl) (by kernel_rfl) (fun _ _ _ h => h) (Or.inl ⟨by kernel_rfl, fun w' hw' => by kernel_rfl⟩) ?_
        refine takeH hS (i := 8) (d := 22) (v := .pointer (some ⟨A, 0, none⟩)) rfl rfl (by kernel_rfl) (by kernel_rfl) (by kernel_rfl) (fun _ _ _ h => h) (Or.inl ⟨by kernel_rfl, fun w' hw' => by kernel_rfl⟩) ?_
        try go_frame
        refine takeH hS (i := 9) (d := 23) (v := .pointer (some ⟨A, 0, none⟩)) rfl rfl (by kernel_rfl) (by kernel_rfl) (by kernel_rfl) (fun _ _ _ h => h) (Or.inl ⟨by kernel_rfl, fun w' hw' => by kernel_rfl⟩) ?_
        refine takeH hS (i := 10) (d := 24) (v := .int .i64 (z.size)) rfl rfl (by kernel_rfl) (by kernel_rfl) (by kernel_rfl) (fun _ _ _ h => h) (Or.inl ⟨by kernel_rfl, fun w' hw' => by exact exec_cell _ rfl ⟨A, 0, none⟩ rfl _ Try.underlying3 (((Hb.out.below hw' Hb.out.lt).cell 0).trans (rfl))⟩) ?_
        try go_frame
        refine nextH (i := 6) rfl (by kernel_rfl) (by kernel_rfl) (fun K' hK => ?_)
        go_wp2_with fail
        refine (zlenF (Hz.out.below hS)).mono ?_
        rintro en wc1 ⟨rfl, hb0⟩
        have hb := below_eqS hb0
        clear hb0
        have hS1 : Below w.heap.size w wc1 := bel_next hS hb
        refine hK.out _ _ ⟨hS1, ?_⟩
        clear hK K' hb hS
        refine takeH hS1 (i := 11) (d := 25) (v := .bool true) rfl rfl (by kernel_rfl) (by kernel_rfl) (by kernel_rfl) (fun _ _ _ h => h) (Or.inl ⟨by kernel_rfl, fun w' hw' => by exact exec_eql _ _ rfl ((z.ss.length : Nat)) (z.size) rfl rfl true (hd) rfl⟩) ?_
        refine takeH hS1 (i := 12) (d := 26) (v := .bool true) rfl rfl (by kernel_rfl) (by kernel_rfl) (by kernel_rfl) (fun _ _ _ h => h) (Or.inl ⟨by kernel_rfl, fun w' hw' => by kernel_rfl⟩) ?_
        refine takeH hS1 (i := 13) (d := 13) (v := .bool true) rfl rfl (by kernel_rfl) (by kernel_rfl) (by kernel_rfl) (fun _ _ _ h => h) (Or.inl ⟨by kernel_rfl, fun w' hw' => by kernel_rfl⟩) ?_
        refine wpAnyH_done (by kernel_rfl) ?_ _
        try go_frame
        go_wp2_with fail
        go_ret
        exact ⟨ret_int (by unfold stS; rw [if_neg (by rw [Hf.out]; decide), if_pos (.inr He.out)]), hS1⟩
      · have hd : decide ((z.ss.length : Int) = z.size) = false := decide_eq_false he
        have He := Lib.hid he
        clear he
        refine wp_region_held (S := fun w' => Below w.heap.size w w') (by kernel_rfl) ?_
        change wpAnyH _ _ _ _ _ _ _ _ (World.drew _)
        have hS : Below w.heap.size w w.drew := (Below.refl _ _).drew
        refine takeH hS (i := 0) (d := 14) (v := .pointer (some ⟨A, 0, none⟩)) rfl rfl (by kernel_rfl) (by kernel_rfl) (by kernel_rfl) (fun _ _ _ h => h) (Or.inl ⟨by kernel_rfl, fun w' hw' => by kernel_rfl⟩) ?_
        refine takeH hS (i := 1) (d := 15) (v := .pointer (some ⟨A, 0, none⟩)) rfl rfl (by kernel_rfl) (by kernel_rfl) (by kernel_rfl) (fun _ _ _ h => h) (Or.inl ⟨by kernel_rfl, fun w' hw' => by kernel_rfl⟩) ?_
        refine takeH hS (i := 2) (d := 16) (v := .pointer (some ⟨A, 3, none⟩)) rfl rfl (by kernel_rfl) (by kernel_rfl) (by kernel_rfl) (fun _ _ _ h => h) (Or.inl ⟨by kernel_rfl, fun w' hw' => by kernel_rfl⟩) ?_
        refine takeH hS (i := 3) (d := 17) (v := .bool false) rfl rfl (by kernel_rfl) (by kernel_rfl) (by kernel_rfl) (fun _ _ _ h => h) (Or.inl ⟨by kernel_rfl, fun w' hw' => by exact exec_cellv _ rfl ⟨A, 3, none⟩ rfl (.bool false) Try.underlying4 rfl (((Hb.out.below hw' Hb.out.lt).cell 3).trans ((show (zsA z v)[3]? = some (.bool z.fin) from rfl).trans (by rw [Hfin.out])))⟩) ?_
        try go_frame
        refine takeH hS (i := 4) (d := 18) (v := .bool false) rfl rfl (by kernel_rfl) (by kernel_rfl) (by kernel_rfl) (fun _ _ _ h => h) (Or.inl ⟨by kernel_rfl, fun w' hw' => by kernel_rfl⟩) ?_
        refine takeH hS (i := 5) (d := 19) (v := .pointer (some ⟨A, 0, none⟩)) rfl rfl (by kernel_rfl) (by kernel_rfl) (by kernel_rfl) (fun _ _ _ h => h) (Or.inl ⟨by kernel_rfl, fun w' hw' => by kernel_rfl⟩) ?_
        refine takeH hS (i := 7) (d := 21) (v := .pointer (some ⟨A, 0, none⟩)) rfl rfl (by kernel_rfl) (by kernel_rfl) (by kernel_rfl) (fun _ _ _ h => h) (Or.inl ⟨by kernel_rfl, fun w' hw' => by kernel_rfl⟩) ?_
        refine takeH hS (i := 8) (d := 22) (v := .pointer (some ⟨A, 0, none⟩)) rfl rfl (by kernel_rfl) (by kernel_rfl) (by kernel_rfl) (fun _ _ _ h => h) (Or.inl ⟨by kernel_rfl, fun w' hw' => by kernel_rfl⟩) ?_
        try go_frame
        refine takeH hS (i := 9) (d := 23) (v := .pointer (some ⟨A, 0, none⟩)) rfl rfl (by kernel_rfl) (by kernel_rfl) (by kernel_rfl) (fun _ _ _ h => h) (Or.inl ⟨by kernel_rfl, fun w' hw' => by kernel_rfl⟩) ?_
        refine takeH hS (i := 10) (d := 24) (v := .int .i64 (z.size)) rfl rfl (by kernel_rfl) (by kernel_rfl) (by kernel_rfl) (fun _ _ _ h => h) (Or.inl ⟨by kernel_rfl, fun w' hw' => by exact exec_cell _ rfl ⟨A, 0, none⟩ rfl _ Try.underlying3 (((Hb.out.below hw' Hb.out.lt).cell 0).trans (rfl))⟩) ?_
        try go_frame
        refine nextH (i := 6) rfl (by kernel_rfl) (by kernel_rfl) (fun K' hK => ?_)
        go_wp2_with fail
        refine (zlenF (Hz.out.below hS)).mono ?_
        rintro en wc1 ⟨rfl, hb0⟩
        have hb := below_eqS hb0
        clear hb0
        have hS1 : Below w.heap.size w wc1 := bel_next hS hb
        refine hK.out _ _ ⟨hS1, ?_⟩
        clear hK K' hb hS
        refine takeH hS1 (i := 11) (d := 25) (v := .bool false) rfl rfl (by kernel_rfl) (by kernel_rfl) (by kernel_rfl) (fun _ _ _ h => h) (Or.inl ⟨by kernel_rfl, fun w' hw' => by exact exec_eql _ _ rfl ((z.ss.length : Nat)) (z.size) rfl rfl false (hd) rfl⟩) ?_
        refine takeH hS1 (i := 12) (d := 26) (v := .bool false) rfl rfl (by kernel_rfl) (by kernel_rfl) (by kernel_rfl) (fun _ _ _ h => h) (Or.inl ⟨by kernel_rfl, fun w' hw' => by kernel_rfl⟩) ?_
        refine takeH hS1 (i := 13) (d := 13) (v := .bool false) rfl rfl (by kernel_rfl) (by kernel_rfl) (by kernel_rfl) (fun _ _ _ h => h) (Or.inl ⟨by kernel_rfl, fun w' hw' => by kernel_rfl⟩) ?_
        refine wpAnyH_done (by kernel_rfl) ?_ _
        try go_frame
        go_wp2_with (first | (refine (zlenF (Hz.out.below hS1)).mono ?_; rintro e w' ⟨rfl, rfl⟩))
        all_goals
          go_ret
          exact ⟨ret_int (by unfold stS; rw [if_neg (by rw [Hf.out]; decide), if_neg (fun h => h.elim (fun h => by rw [Hfin.out] at h; cases h) He.out)]; simp_all), hS1⟩
  · have hd : (z.failed != 0) = true := by simpa using hf
    have Hf := Lib.hid hf
    clear hf
    go_enter Try.func46, Try.ntmps46
    go_wp2_with fail
    go_ret
    exact ⟨ret_int (by unfold stS; rw [if_pos Hf.out]), Below.refl _ _⟩
set_option maxRecDepth 100000 in
set_option maxHeartbeats 2000000 in
theorem zrsF {lo A : Nat} {v : Value} {z : ZsR} {w : World} (hz : ZsAt 114 34 lo w A v z) : Calls Try.prog 79 #[.pointer (some ⟨A, 0, none⟩)] w fun e w' => e = .returned (.int .i64 (refS z)) ∧ ZsTo 114 34 lo w A v (rsS z) w' := by
  have Hz := Lib.hid hz
  clear hz
  by_cases h1 : refS z = 0
  · have hZ : rsS z = zs0 z.size := by unfold rsS; rw [if_pos h1]
    rw [hZ, h1]
    have H1 := Lib.hid h1
    have c0 : w.cell? ⟨A, 0, none⟩ = some (.int .i64 z.size) := (Hz.out.blk.cell 0).trans rfl
    have Hb := Lib.hid Hz.out.blk
    clear h1 hZ
    go_enter Try.func79, Try.ntmps79
    go_wp2_with fail
    refine (zrefF Hz.out).mono ?_
    rintro e w' ⟨rfl, rfl⟩
    rw [H1.out]
    go_wp2_with (first | (refine wpl_build (by rfl) _ _ rfl (.agg (zsA (zs0 z.size) (.slice none 0 0))) (fun w => by kernel_rfl) ?_; go_frame) | (refine wpl_store rfl _ _ rfl A (zsA (zs0 z.size) (.slice none 0 0)) rfl rfl _ _ Hb.out Try.infoZF rfl (zsA_one _ _ _ _) ?_; intro w1 hS1 hK1; have HS1 := Lib.hid hS1; have HK1 := Lib.hid hK1; clear hS1 hK1; go_frame))
    go_ret
    exact ⟨rfl, .slice none 0 0, ⟨HS1.out, ownK_nil _ _ _ _, Hz.out.le⟩, zfs_at HK1.out, fun g h => by simp [Value.ownBlock] at h⟩
  · have hZ : rsS z = z := by unfold rsS; rw [if_neg h1]
    rw [hZ]
    have h1' : (refS z != 0) = true := by simpa using h1
    clear h1 hZ
    go_enter Try.func79, Try.ntmps79
    go_wp2_with fail
    refine (zrefF Hz.out).mono ?_
    rintro e w' ⟨rfl, rfl⟩
    go_wp2_with fail
    go_ret
    exact ⟨rfl, ZsTo.same Hz.out (Below.refl _ _)⟩
def fnS (z : ZsR) : ZsR := if refS z = 0 then { z with fin := true } else z
def flS (z : ZsR) : ZsR := { z with safe := (z.ss.length : Int) }
def faS (z : ZsR) (st : Int) : ZsR := if st = 4 ∨ st = 3 ∧ z.failed ≠ 4 then { z with failed := st } else z
theorem zsetF {lo A : Nat} {v : Value} {z : ZsR} {w : World} (i : Nat) (u : Value) {z' : ZsR} (hz : ZsAt 114 34 lo w A v z) (hs : (zsA z v).setIfInBounds i u = zsA z' v) (hx : z'.ss = z.ss) : ZsTo 114 34 lo w A v (z') (w.setCell ⟨A, i, none⟩ u) := by
  have hb := hz.blk.set i u
  rw [hs] at hb
  refine ⟨v, ⟨hb, ?_, hz.le⟩, zfs_set, fun g h => .inl h⟩
  rw [hx]
  exact ownK_same hz.own (fun g hg => Below.heap_setCell _ _ _ _ (fun e => own_unlike hz.own hz.blk (by decide) (by rw [hg]; exact congrArg some e.symm)))
set_option maxRecDepth 100000 in
set_option maxHeartbeats 2000000 in
theorem zfnF {lo A : Nat} {v : Value} {z : ZsR} {w : World} (hz : ZsAt 114 34 lo w A v z) : Calls Try.prog 80 #[.pointer (some ⟨A, 0, none⟩)] w fun e w' => e = .returned (.int .i64 (refS z)) ∧ ZsTo 114 34 lo w A v (fnS z) w' := by
  have Hz := Lib.hid hz
  clear hz
  by_cases h1 : refS z = 0
  · have hZ : fnS z = { z with fin := true } := by unfold fnS; rw [if_pos h1]
    rw [hZ, h1]
    have H1 := Lib.hid h1
    have c3 : w.cell? ⟨A, 3, none⟩ = some (.bool z.fin) := (Hz.out.blk.cell 3).trans rfl
    have f3 := Hz.out.blk.frozen 3
    clear h1 hZ
    go_enter Try.func80, Try.ntmps80
    go_wp2_with fail
    refine (zrefF Hz.out).mono ?_
    rintro e w' ⟨rfl, rfl⟩
    rw [H1.out]
    go_wp2_with fail
    go_ret
    exact ⟨rfl, zsetF 3 (.bool true) Hz.out rfl rfl⟩
  · have hZ : fnS z = z := by unfold fnS; rw [if_neg h1]
    rw [hZ]
    have h1' : (refS z != 0) = true := by simpa using h1
    clear h1 hZ
    go_enter Try.func80, Try.ntmps80
    go_wp2_with fail
    refine (zrefF Hz.out).mono ?_
    rintro e w' ⟨rfl, rfl⟩
    go_wp2_with fail
    go_ret
    exact ⟨rfl, ZsTo.same Hz.out (Below.refl _ _)⟩
set_option maxRecDepth 100000 in
set_option maxHeartbeats 2000000 in
theorem zflF {lo A : Nat} {v : Value} {z : ZsR} {w : World} (hz : ZsAt 114 34 lo w A v z) : Calls Try.prog 82 #[.pointer (some ⟨A, 0, none⟩)] w fun e w' => e = .returned (.tuple #[]) ∧ ZsTo 114 34 lo w A v (flS z) w' := by
  have c2 : w.cell? ⟨A, 2, none⟩ = some (.int .i64 z.safe) := (hz.blk.cell 2).trans rfl
  have f2 := hz.blk.frozen 2
  have Hz := Lib.hid hz
  clear hz
  go_enter Try.func82, Try.ntmps82
  go_wp2_with fail
  refine (zlenF Hz.out).mono ?_
  rintro e w' ⟨rfl, rfl⟩
  go_wp2_with fail
  go_end0
  exact ⟨rfl, zsetF 2 (.int .i64 (z.ss.length : Nat)) Hz.out rfl rfl⟩
set_option maxRecDepth 100000 in
set_option maxHeartbeats 2000000 in
theorem zfaF {lo A : Nat} {v : Value} {z : ZsR} {w : World} (st : Int) (hz : ZsAt 114 34 lo w A v z) : Calls Try.prog 92 #[.pointer (some ⟨A, 0, none⟩), .int .i64 st] w fun e w' => e = .returned (.tuple #[]) ∧ ZsTo 114 34 lo w A v (faS z st) w' := by
  have c4 : w.cell? ⟨A, 4, none⟩ = some (.int .i64 z.failed) := (hz.blk.cell 4).trans rfl
  have f4 := hz.blk.frozen 4
  have Hz := Lib.hid hz
  clear hz
  by_cases h4 : st = 4
  · have hZ : faS z st = { z with failed := st } := by unfold faS; rw [if_pos (.inl h4)]
    rw [hZ]
    subst h4
    clear hZ
    go_enter Try.func92, Try.ntmps92
    go_wp2_with fail
    first | go_end0 | refine bodyPost_ret (results_none rfl _ _ _) rfl ?_
    exact ⟨rfl, zsetF 4 (.int .i64 4) Hz.out rfl rfl⟩
  · have d4 : (st == 4) = false := by simpa using h4
    by_cases h3 : st = 3
    · by_cases hf : z.failed = 4
      · have hZ : faS z st = z := by unfold faS; rw [if_neg (fun h => h.elim h4 (fun h => h.2 hf))]
        rw [hZ]
        rw [hf] at c4
        subst h3
        clear hZ h4 d4 hf
        go_enter Try.func92, Try.ntmps92
        go_wp2_with fail
        first | go_end0 | refine bodyPost_ret (results_none rfl _ _ _) rfl ?_
        exact ⟨rfl, ZsTo.same Hz.out (Below.refl _ _)⟩
      · have hZ : faS z st = { z with failed := st } := by unfold faS; rw [if_pos (.inr ⟨h3, hf⟩)]
        rw [hZ]
        have df : (z.failed != 4) = true := by simpa using hf
        subst h3
        clear hZ h4 d4 hf
        go_enter Try.func92, Try.ntmps92
        go_wp2_with fail
        first | go_end0 | refine bodyPost_ret (results_none rfl _ _ _) rfl ?_
        exact ⟨rfl, zsetF 4 (.int .i64 3) Hz.out rfl rfl⟩
    · have hZ : faS z st = z := by unfold faS; rw [if_neg (fun h => h.elim h4 (fun h => h3 h.1))]
      rw [hZ]
      have d3 : (st == 3) = false := by simpa using h3
      clear hZ h4 h3
      go_enter Try.func92, Try.ntmps92
      go_wp2_with fail
      first | go_end0 | refine bodyPost_ret (results_none rfl _ _ _) rfl ?_
      exact ⟨rfl, ZsTo.same Hz.out (Below.refl _ _)⟩
end Go.Proofs.Ytajkajgnjcnolaa

namespace Go.Proofs.Ytajkajgnjcnolaa
open Go.RowKit Go.Shelf
set_option linter.unusedVariables false
set_option linter.unnecessarySimpa false
set_option linter.unusedSimpArgs false
theorem bthen' {w w1 w2 : World} (h : Below w.heap.size w w1) (k : Below w1.heap.size w1 w2) : Below w.heap.size w w2 := h.trans (k.mono h.size)
theorem blk_one {w : World} {g : Nat} {t : TypeId} {v : Value} (h : Blk w g t #[v]) : w.cell? ⟨g, 0, none⟩ = some v := h.cell 0
theorem blk_set1 {w : World} {g : Nat} {t : TypeId} {v : Value} (h : Blk w g t #[v]) (u : Value) : Blk (w.setCell ⟨g, 0, none⟩ u) g t #[u] := h.set 0 u
theorem results_cell1 {P : Program} {fn : Func} {p : Tmp} {ty : TypeId} (h : fn.results = #[.cell p ty]) (tmps : Array Value) (w : World) (a : Addr) (v : Value) (hp : tmps.getD p undef = .pointer (some a)) (ha : (isAgg ty).run P w = .ok false w) (hc : w.cell? a = some v) :
    (results fn tmps).run P w = .ok v w := by
  have hp' : tmps[p]?.getD undef = .pointer (some a) := by simpa using hp
  simp [results, h, hp', asAddr, loadVar, ha, hc]
theorem agg_bool (w : World) : (isAgg 4).run Try.prog w = .ok false w := by simp [isAgg, run_underlying Try.underlying4]
structure Shed (B : Nat) (w w' : World) : Prop where
  bel : Below B w w'
  same : ∀ g t cs, Blk w g t cs → Blk w' g t cs
theorem Shed.refl (B : Nat) (w : World) : Shed B w w := ⟨Below.refl _ _, fun _ _ _ h => h⟩
theorem Shed.trans {B : Nat} {a b c : World} (h : Shed B a b) (k : Shed B b c) : Shed B a c := ⟨h.bel.trans k.bel, fun g t cs hb => k.same g t cs (h.same g t cs hb)⟩
theorem Shed.putObj {B D : Nat} {w : World} {o : Obj} (o' : Obj) (h : w.heap[D]? = some o) (hc : o.isCells = false) (hB : B ≤ D) : Shed B w (w.putObj D o') :=
  ⟨(Below.refl B w).grown (grownBy_putObj' w D o') (by have := (Array.getElem?_eq_some_iff.1 h).1; omega) (fun k e => by cases e; exact hB), fun g t cs hb => by
    have hne : g ≠ D := by rintro rfl; unfold Blk at hb; rw [hb] at h; cases h; cases hc
    exact ((grownBy_putObj' w D o').block g hb.lt (by simpa using hne)).trans hb⟩
def Marks (B : Nat) (ds : List Deferred) (w : World) : Prop :=
  ∃ Ds : List Nat, ds = Ds.map (fun D => ({ target := .collected D, args := #[] } : Deferred)) ∧ Ds.Nodup ∧ ∀ D ∈ Ds, B ≤ D ∧ w.heap[D]? = some (.deferred (some []))
theorem Marks.nil (B : Nat) (w : World) : Marks B [] w := ⟨[], rfl, List.nodup_nil, by simp⟩
theorem Marks.mono {B : Nat} {ds : List Deferred} {w w' : World} (h : Marks B ds w) (hk : KeepsOthers w w') : Marks B ds w' := by
  obtain ⟨Ds, h1, h2, h3⟩ := h
  exact ⟨Ds, h1, h2, fun D hD => ⟨(h3 D hD).1, hk.same D _ (h3 D hD).2 rfl⟩⟩
theorem Marks.cons {B : Nat} {ds : List Deferred} {w w' : World} {D : Nat} (h : Marks B ds w) (hB : B ≤ w.heap.size) (hD : w.heap.size ≤ D) (hd : w'.heap[D]? = some (.deferred (some []))) (hk : Marks B ds w') : Marks B ({ target := .collected D, args := #[] } :: ds) w' := by
  obtain ⟨Ds, h1, h2, h3⟩ := h
  subst h1
  refine ⟨D :: Ds, rfl, List.nodup_cons.2 ⟨fun hm => ?_, h2⟩, fun E hE => ?_⟩
  · have := (Array.getElem?_eq_some_iff.1 (h3 D hm).2).1; omega
  · rcases List.mem_cons.1 hE with rfl | hE
    · exact ⟨by omega, hd⟩
    · obtain ⟨Es, k1, _, k3⟩ := hk
      have : E ∈ Es := by
        have hm : ({ target := .collected E, args := #[] } : Deferred) ∈ Ds.map (fun D => ({ target := .collected D, args := #[] } : Deferred)) := List.mem_map.2 ⟨E, hE, rfl⟩
        rw [k1] at hm
        obtain ⟨F, hF, he⟩ := List.mem_map.1 hm
        cases he; exact hF
      exact k3 E this
theorem keepsOthers_below {w w' : World} (h : Below w.heap.size w w') : KeepsOthers w w' := ⟨h.size, fun k o hk _ => (h.block k (Array.getElem?_eq_some_iff.1 hk).1).trans hk⟩
theorem leave_marks {P : Program} {n : Nat} {fn : Func} {tmps : Array Value} {R : Ending → World → Prop} {B : Nat} : ∀ {ds : List Deferred} {w : World}, Marks B ds w →
    (∀ w', Shed B w w' → ∃ v, (results fn tmps).run P w' = .ok v w' ∧ R (.returned v) w') → LeavesInM Fence.wide n P fn tmps R ds .returning w := by
  intro ds w ⟨Ds, h1, h2, h3⟩
  subst h1
  induction Ds generalizing w with
  | nil => intro h; exact h w (Shed.refl _ _)
  | cons D Ds ih =>
    intro h
    obtain ⟨hB, hd⟩ := h3 D (by simp)
    obtain ⟨hn, h2'⟩ := List.nodup_cons.1 h2
    have hs : Shed B w (w.putObj D (.deferred none)) := Shed.putObj _ hd rfl hB
    refine ⟨by simp, .inl ⟨D, _, rfl, run_takeDeferred hd, ih h2' (fun E hE => ?_) (fun w' hw' => h w' (hs.trans hw'))⟩⟩
    have hne : E ≠ D := fun e => hn (e ▸ hE)
    exact ⟨(h3 E (by simp [hE])).1, (World.putObj_heap_other hne).trans (h3 E (by simp [hE])).2⟩
theorem calls_marks {P : Program} {f : FuncId} {fn : Func} {c : Code} {args : Array Value} {w : World} {R : Ending → World → Prop} (hf : P.funcs[f]? = some fn) (hb : fn.body = some c)
    (h : c.wp P (bodyPostM Fence.wide 8 P fn R) { tmps := args ++ Array.replicate (fn.ntmps - args.size) undef, defers := [] } w) : Calls P f args w R :=
  callsIn_wide.1 (callsIn_of_wp_marks hf hb trivial (wpIn_wide.2 h))
theorem blk_own {β : Type} (g : Nat) (t : TypeId) (f : β → Array Value) : Own (fun s W => Blk W g t (f s)) := fun s X Y row hs hg hrow => by
  refine (hg.block g hs.lt (fun e => ?_)).trans hs
  obtain ⟨o, ho, hc⟩ := hrow g e.symm
  unfold Blk at hs; rw [hs] at ho; cases ho; cases hc
theorem ownFrom_pure' {β : Type} {B : Nat} (p : β → Prop) : OwnFrom B (fun s (_ : World) => p s) := fun _ _ _ _ hs _ _ => hs
theorem ownFrom_marks {β : Type} {B B' : Nat} {ds : List Deferred} {w : World} (hw : Marks B' ds w) (hB : w.heap.size ≤ B) : OwnFrom (β := β) B (fun _ W => Marks B' ds W ∧ w.heap.size ≤ W.heap.size) := by
  rintro s X Y row ⟨⟨Ds, h1, h2, h3⟩, hX⟩ hg hr
  obtain ⟨Es, k1, _, k3⟩ := hw
  refine ⟨⟨Ds, h1, h2, fun D hD => ⟨(h3 D hD).1, (hg.block D (Array.getElem?_eq_some_iff.1 (h3 D hD).2).1 (fun e => ?_)).trans (h3 D hD).2⟩⟩, Nat.le_trans hX hg.size⟩
  have hD' : D ∈ Es := by
    have hm : ({ target := .collected D, args := #[] } : Deferred) ∈ Ds.map (fun D => ({ target := .collected D, args := #[] } : Deferred)) := List.mem_map.2 ⟨D, hD, rfl⟩
    rw [← h1, k1] at hm
    obtain ⟨F, hF, he⟩ := List.mem_map.1 hm
    cases he; exact hF
  have := (Array.getElem?_eq_some_iff.1 (k3 D hD').2).1
  have := (hr D e.symm).1
  omega
end Go.Proofs.Ytajkajgnjcnolaa

namespace Go.Proofs.Ytajkajgnjcnolaa
open Go.RowKit
set_option linter.unusedVariables false
set_option linter.unnecessarySimpa false
set_option linter.unusedSimpArgs false
def apE (z : ZoR) : Int := if refI z ≠ 0 then refI z else if stI z = 2 then 17 else 0
def apO (z : ZoR) : Int := if apE z = 0 then (z.xs.length : Int) else 0
end Go.Proofs.Ytajkajgnjcnolaa

namespace Go.Proofs.Ytajkajgnjcnolaa
open Go.RowKit
set_option linter.unusedVariables false
set_option linter.unnecessarySimpa false
set_option linter.unusedSimpArgs false
end Go.Proofs.Ytajkajgnjcnolaa

namespace Go.Proofs.Ytajkajgnjcnolaa
open Go.RowKit Go.Shelf
set_option linter.unusedVariables false
set_option linter.unnecessarySimpa false
set_option linter.unusedSimpArgs false
attribute [local go_sem] Oper.semAt_some
section
variable {P : Program} {w : World} {o : Oper} {a : Act} {K : Act → World → Prop} {Q : Exit → Act → World → Prop} {S E : TypeId} {z : Value}
end
theorem wp_only {P : Program} {c : Code} {Q : Exit → Act → World → Prop} {a : Act} {w : World} (h : c.wp P (Exit.then (fun a w => Q .normal a w) (fun _ _ _ => False)) a w) : c.wp P Q a w :=
  wp_mono h (fun e a w h => by cases e <;> first | exact h | exact h.elim)
theorem wp_then_only {P : Program} {c : Code} {K : Act → World → Prop} {Q : Exit → Act → World → Prop} {a : Act} {w : World} (h : c.wp P (Exit.then K (fun _ _ _ => False)) a w) : c.wp P (Exit.then K Q) a w :=
  wp_mono h (fun e a w h => by cases e <;> first | exact h | exact h.elim)
def KpRow (v : Value) (W W' : World) : Prop := ∀ g, v.ownBlock = some g → W'.heap[g]? = W.heap[g]?
theorem KpRow.refl (v : Value) (W : World) : KpRow v W W := fun _ _ => rfl
theorem KpRow.trans {v : Value} {a b c : World} (h : KpRow v a b) (k : KpRow v b c) : KpRow v a c := fun g hg => (k g hg).trans (h g hg)
theorem KpRow.set {v : Value} {W : World} {p : Addr} (u : Value) (h : v.ownBlock ≠ some p.block) : KpRow v W (W.setCell p u) := fun g hg => Below.heap_setCell _ _ _ _ (fun e => h (by rw [hg]; exact congrArg some e))
theorem KpRow.put {v : Value} {w : World} (hv : ∀ g, v.ownBlock = some g → g < w.heap.size) (W : World) (l : Nat) (o o' : Obj) (hl : w.heap.size ≤ l) (h : W.heap[l]? = some o) (_ : o.isCells = false) (_ : o.isWalk = false) : KpRow v W (W.putObj l o') := fun g hg =>
  World.putObj_heap_other (by have := hv g hg; omega)
section
variable {lo A Bp : Nat} {v : Value} {z : ZoR} {zs : List Int}
end
end Go.Proofs.Ytajkajgnjcnolaa

