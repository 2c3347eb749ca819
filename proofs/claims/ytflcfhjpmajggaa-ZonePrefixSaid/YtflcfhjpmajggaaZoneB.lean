/-
  Contracts of layer 6 (zone), at int and at string: New, refusal, Len, State, holds, Append, Read, Reset.
-/
import Derived.Test.YtflcfhjpmajggaaZoneA
namespace Go.Proofs.Ytflcfhjpmajggaa
open Go.RowKit
set_option linter.unusedVariables false
set_option linter.unnecessarySimpa false
set_option linter.unusedSimpArgs false

/-- The fields of a zone that is empty. -/
def zo0 (size : Int) : ZoR := ⟨size, 0, false, 0, []⟩
theorem zo0_ok {size : Int} (h : 1 ≤ size ∧ size ≤ 64) : ZOk (zo0 size) := ⟨h, by simp [zo0]; omega, by simp [zo0], .inl rfl, by simp [zo0]⟩
theorem zat_new {T E : TypeId} {lo : Nat} (w : World) (size : Int) (hlo : lo ≤ w.heap.size) : ZAt T E lo (w.alloc (Obj.cells (zoA (zo0 size) (.slice none 0 0)) T)) w.heap.size (.slice none 0 0) (zo0 size) :=
  ⟨Blk.new _ _ _, own_nil _ _ _, hlo⟩
/-- What an Append tells; what it leaves. -/
def apE (z : ZoR) : Int := if refI z ≠ 0 then refI z else if stI z = 2 then 17 else 0
def apO (z : ZoR) : Int := if apE z = 0 then (z.xs.length : Int) else 0
def apZ (z : ZoR) (x : Value) : ZoR := if apE z = 0 then { z with xs := z.xs ++ [x] } else z
/-- What a Read tells. -/
def rdE (z : ZoR) (off : Int) : Int := if z.failed = 4 then 32 else if holB z off = true then 0 else 31
def rdV (n : Value) (z : ZoR) (off : Int) : Value := if rdE z off = 0 then z.xs.getD off.toNat n else n
/-- What a Reset leaves. -/
def rsZ (z : ZoR) : ZoR := if refI z = 0 then zo0 z.size else z
theorem below_eq {w w' : World} (h : w = w') : Below w.heap.size w w' := h ▸ Below.refl _ _
theorem zoA_one (z : ZoR) (a : Option Addr) (n c : Nat) : (zoA z (.slice a n c)).all (·.oneCell') = true := by
  simp only [zoA, Array.all_eq_true_iff_forall_mem, List.mem_toArray]
  intro x hx
  rcases List.mem_cons.1 hx with rfl | hx
  · rfl
  rcases List.mem_cons.1 hx with rfl | hx
  · rfl
  rcases List.mem_cons.1 hx with rfl | hx
  · rfl
  rcases List.mem_cons.1 hx with rfl | hx
  · rfl
  rcases List.mem_cons.1 hx with rfl | hx
  · rfl
  cases hx
theorem src_one (w : World) (E : TypeId) (x : Value) : ∀ ad, some (⟨w.heap.size, 0, none⟩ : Addr) = some ad → ∀ j u, [x][j]? = some u → (w.alloc (Obj.cells #[x] E)).cell? (ad.add j) = some u := by
  intro ad e j u hu
  cases e
  rcases j with _ | j
  · cases hu
    exact (Blk.new w E #[x]).cell 0
  · simp at hu
theorem zf_set {w : World} {A i : Nat} {v u : Value} : Kept (ZF A v) w (w.setCell ⟨A, i, none⟩ u) := (Kept.refl (ZF A v) w).setCell (p := ⟨A, i, none⟩) (.inl rfl) u
theorem zf_at {w w' : World} {A : Nat} {v : Value} (h : Kept (· = A) w w') : Kept (ZF A v) w w' := h.mono (fun _ _ e => .inl e)

theorem Try.infoI : (Try.prog.info? 3).map (fun i => (i.zero, i.size, i.bytes)) = some (some (.int .i64 0), 1, 8) := by kernel_rfl
theorem elI : ElT Try.prog 28 3 (.int .i64 0) := by
  obtain ⟨i0, hi, hz0, hz1, hz2⟩ := info_parts Try.infoI
  exact ⟨Try.underlying28, ⟨i0, 8, hi, hz0, hz1, hz2, by decide⟩, rfl⟩
theorem Try.infoZI : (Try.prog.info? 56).map (·.size) = some 5 := by kernel_rfl
set_option maxRecDepth 100000 in
set_option maxHeartbeats 2000000 in
theorem znewI_no (size : Int) (w : World) (h : size < 1 ∨ 64 < size) : Calls Try.prog 8 #[.int .i64 size] w fun e w' => e = .returned (.tuple #[.pointer none, .int .i64 13]) ∧ w = w' := by
  rcases h with h | h
  · go_enter Try.func8, Try.ntmps8
    go_wp2
    go_ret2
    exact ⟨rfl, rfl⟩
  · have h' : ¬ size < 1 := by omega
    go_enter Try.func8, Try.ntmps8
    go_wp2
    go_ret2
    exact ⟨rfl, rfl⟩
set_option maxRecDepth 100000 in
set_option maxHeartbeats 2000000 in
theorem znewI_ok (size : Int) (w : World) (h1 : 1 ≤ size) (h2 : size ≤ 64) : Calls Try.prog 8 #[.int .i64 size] w fun e w' => e = .returned (.tuple #[.pointer (some ⟨w.heap.size, 0, none⟩), .int .i64 0]) ∧ w' = w.alloc (Obj.cells (zoA (zo0 size) (.slice none 0 0)) 56) := by
  go_enter Try.func8, Try.ntmps8
  go_wp2_with (refine wpl_build (by rfl) _ _ rfl (.agg (zoA (zo0 size) (.slice none 0 0))) (fun w => by kernel_rfl) ?_; go_frame)
  go_ret2
  exact ⟨rfl, rfl⟩
set_option maxRecDepth 100000 in
set_option maxHeartbeats 2000000 in
theorem zrefI {lo A : Nat} {v : Value} {z : ZoR} {w : World} (hz : ZAt 56 3 lo w A v z) : Calls Try.prog 39 #[.pointer (some ⟨A, 0, none⟩)] w fun e w' => e = .returned (.int .i64 (refI z)) ∧ w = w' := by
  have c4 : w.cell? ⟨A, 4, none⟩ = some (.int .i64 z.failed) := (hz.blk.cell 4).trans rfl
  clear hz
  go_enter Try.func39, Try.ntmps39
  go_wp2
  all_goals
    go_ret
    exact ⟨ret_int (by unfold refI; simp_all), rfl⟩
set_option maxRecDepth 100000 in
set_option maxHeartbeats 2000000 in
theorem zlenI {lo A : Nat} {v : Value} {z : ZoR} {w : World} (hz : ZAt 56 3 lo w A v z) : Calls Try.prog 18 #[.pointer (some ⟨A, 0, none⟩)] w fun e w' => e = .returned (.int .i64 (z.xs.length : Nat)) ∧ w = w' := by
  obtain ⟨a, cap, rfl, hc1, hc2⟩ := hz.slice
  have c1 : w.cell? ⟨A, 1, none⟩ = some (.slice a z.xs.length cap) := (hz.blk.cell 1).trans rfl
  clear hz
  go_enter Try.func18, Try.ntmps18
  go_wp2
  go_ret
  exact ⟨rfl, rfl⟩
set_option maxRecDepth 100000 in
set_option maxHeartbeats 2000000 in
theorem zholI {lo A : Nat} {v : Value} {z : ZoR} {w : World} (off : Int) (hz : ZAt 56 3 lo w A v z) : Calls Try.prog 40 #[.pointer (some ⟨A, 0, none⟩), .int .i64 off] w fun e w' => e = .returned (.bool (holB z off)) ∧ w = w' := by
  have Hz := Lib.hid hz
  clear hz
  by_cases h0 : 0 ≤ off
  · have hd : decide (0 ≤ off) = true := decide_eq_true h0
    go_enter Try.func40, Try.ntmps40
    go_wp2_with (first | (refine (zlenI Hz.out).mono ?_; rintro e w' ⟨rfl, rfl⟩))
    go_ret
    exact ⟨ret_bool (by unfold holB; rw [hd]; rfl), rfl⟩
  · have hd : decide (0 ≤ off) = false := decide_eq_false h0
    go_enter Try.func40, Try.ntmps40
    go_wp2_with fail
    go_ret
    exact ⟨ret_bool (by unfold holB; rw [hd]; rfl), rfl⟩
set_option maxRecDepth 100000 in
set_option maxHeartbeats 2000000 in
theorem zstI {lo A : Nat} {v : Value} {z : ZoR} {w : World} (hz : ZAt 56 3 lo w A v z) : Calls Try.prog 20 #[.pointer (some ⟨A, 0, none⟩)] w fun e w' => e = .returned (.int .i64 (stI z)) ∧ Below w.heap.size w w' := by
  have c4 : w.cell? ⟨A, 4, none⟩ = some (.int .i64 z.failed) := (hz.blk.cell 4).trans rfl
  have c3 : w.cell? ⟨A, 3, none⟩ = some (.bool z.fin) := (hz.blk.cell 3).trans rfl
  have c0 : w.cell? ⟨A, 0, none⟩ = some (.int .i64 z.size) := (hz.blk.cell 0).trans rfl
  have Hz := Lib.hid hz
  clear hz
  by_cases hf : z.failed = 0
  · have Hf := Lib.hid hf
    cases hfin : z.fin with
    | true =>
      rw [hfin] at c3
      have Hfin := Lib.hid hfin
      clear hf hfin
      rw [Hf.out] at c4
      go_enter Try.func20, Try.ntmps20
      go_upto_region 3 with fail
      go_quiet ((fail))
      go_wp2_with fail
      go_ret
      exact ⟨ret_int (by unfold stI; rw [if_neg (by rw [Hf.out]; decide), if_pos (.inl Hfin.out)]), below_drewN (Below.refl _ _) _⟩
    | false =>
      rw [hfin] at c3
      have Hfin := Lib.hid hfin
      clear hf hfin
      rw [Hf.out] at c4
      go_enter Try.func20, Try.ntmps20
      go_upto_region 3 with fail
      clear c4 c3 c0
      have Hb := Lib.hid Hz.out.blk
      by_cases he : (z.xs.length : Int) = z.size
      · have hd : decide ((z.xs.length : Int) = z.size) = true := decide_eq_true he
        have He := Lib.hid he
        clear he
        refine wp_region_held (S := fun w' => Below w.heap.size w w') (by kernel_rfl) ?_
        change wpAnyH _ _ _ _ _ _ _ _ (World.drew _)
        have hS : Below w.heap.size w w.drew := (Below.refl _ _).drew
        refine takeH hS (i := 0) (d := 14) (v := .pointer (some ⟨A, 0, none⟩)) rfl rfl (by kernel_rfl) (by kernel_rfl) (by kernel_rfl) (fun _ _ _ h => h) (Or.inl ⟨by kernel_rfl, fun w' hw' => by kernel_rfl⟩) ?_
        refine takeH hS (i := 1) (d := 15) (v := .pointer (some ⟨A, 0, none⟩)) rfl rfl (by kernel_rfl) (by kernel_rfl) (by kernel_rfl) (fun _ _ _ h => h) (Or.inl ⟨by kernel_rfl, fun w' hw' => by kernel_rfl⟩) ?_
        refine takeH hS (i := 2) (d := 16) (v := .pointer (some ⟨A, 3, none⟩)) rfl rfl (by kernel_rfl) (by kernel_rfl) (by kernel_rfl) (fun _ _ _ h => h) (Or.inl ⟨by kernel_rfl, fun w' hw' => by kernel_rfl⟩) ?_
        refine takeH hS (i := 3) (d := 17) (v := .bool false) rfl rfl (by kernel_rfl) (by kernel_rfl) (by kernel_rfl) (fun _ _ _ h => h) (Or.inl ⟨by kernel_rfl, fun w' hw' => by exact exec_cellv _ rfl ⟨A, 3, none⟩ rfl (.bool false) Try.underlying4 rfl (((Hb.out.below hw' Hb.out.lt).cell 3).trans ((show (zoA z v)[3]? = some (.bool z.fin) from rfl).trans (by rw [Hfin.out])))⟩) ?_
        try go_frame
        refine takeH hS (i := 4) (d := 18) (v := .bool false) rfl rfl (by kernel_rfl) (by kernel_rfl) (by kernel_rfl) (fun _ _ _ h => h) (Or.inl ⟨by kernel_rfl, fun w' hw' => by kernel_rfl⟩) ?_
        refine takeH hS (i := 5) (d := 19) (v := .pointer (some ⟨A, 0, none⟩)) rfl rfl (by kernel_rfl) (by kernel_rfl) (by kernel_rfl) (fun _ _ _ h => h) (Or.inl ⟨by kernel_rfl, fun w' hw' => by kernel_rfl⟩) ?_
        refine takeH hS (i := 7) (d := 21) (v := .pointer (some ⟨A, 0, none⟩)) rfl rfl (by kernel_rfl) (by kernel_rfl) (by kernel_rfl) (fun _ _ _ h => h) (Or.inl ⟨by kernel_rfl, fun w' hw' => by kernel_rfl⟩) ?_
        refine takeH hS (i := 8) (d := 22) (v := .pointer (some ⟨A, 0, none⟩)) rfl rfl (by kernel_rfl) (by kernel_rfl) (by kernel_rfl) (fun _ _ _ h => h) (Or.inl ⟨by kernel_rfl, fun w' hw' => by kernel_rfl⟩) ?_
        try go_frame
        refine takeH hS (i := 9) (d := 23) (v := .pointer (some ⟨A, 0, none⟩)) rfl rfl (by kernel_rfl) (by kernel_rfl) (by kernel_rfl) (fun _ _ _ h => h) (Or.inl ⟨by kernel_rfl, fun w' hw' => by kernel_rfl⟩) ?_
        refine takeH hS (i := 10) (d := 24) (v := .int .i64 (z.size)) rfl rfl (by kernel_rfl) (by kernel_rfl) (by kernel_rfl) (fun _ _ _ h => h) (Or.inl ⟨by kernel_rfl, fun w' hw' => by exact exec_cell _ rfl ⟨A, 0, none⟩ rfl _ Try.underlying3 (((Hb.out.below hw' Hb.out.lt).cell 0).trans (rfl))⟩) ?_
        try go_frame
        refine nextH (i := 6) rfl (by kernel_rfl) (by kernel_rfl) (fun K' hK => ?_)
        go_wp2_with fail
        refine (zlenI (Hz.out.below hS)).mono ?_
        rintro en wc1 ⟨rfl, hb0⟩
        have hb := below_eq hb0
        clear hb0
        have hS1 : Below w.heap.size w wc1 := bel_next hS hb
        refine hK.out _ _ ⟨hS1, ?_⟩
        clear hK K' hb hS
        refine takeH hS1 (i := 11) (d := 25) (v := .bool true) rfl rfl (by kernel_rfl) (by kernel_rfl) (by kernel_rfl) (fun _ _ _ h => h) (Or.inl ⟨by kernel_rfl, fun w' hw' => by exact exec_eql _ _ rfl ((z.xs.length : Nat)) (z.size) rfl rfl true (hd) rfl⟩) ?_
        refine takeH hS1 (i := 12) (d := 26) (v := .bool true) rfl rfl (by kernel_rfl) (by kernel_rfl) (by kernel_rfl) (fun _ _ _ h => h) (Or.inl ⟨by kernel_rfl, fun w' hw' => by kernel_rfl⟩) ?_
        refine takeH hS1 (i := 13) (d := 13) (v := .bool true) rfl rfl (by kernel_rfl) (by kernel_rfl) (by kernel_rfl) (fun _ _ _ h => h) (Or.inl ⟨by kernel_rfl, fun w' hw' => by kernel_rfl⟩) ?_
        refine wpAnyH_done (by kernel_rfl) ?_ _
        try go_frame
        go_wp2_with fail
        go_ret
        exact ⟨ret_int (by unfold stI; rw [if_neg (by rw [Hf.out]; decide), if_pos (.inr He.out)]), hS1⟩
      · have hd : decide ((z.xs.length : Int) = z.size) = false := decide_eq_false he
        have He := Lib.hid he
        clear he
        refine wp_region_held (S := fun w' => Below w.heap.size w w') (by kernel_rfl) ?_
        change wpAnyH _ _ _ _ _ _ _ _ (World.drew _)
        have hS : Below w.heap.size w w.drew := (Below.refl _ _).drew
        refine takeH hS (i := 0) (d := 14) (v := .pointer (some ⟨A, 0, none⟩)) rfl rfl (by kernel_rfl) (by kernel_rfl) (by kernel_rfl) (fun _ _ _ h => h) (Or.inl ⟨by kernel_rfl, fun w' hw' => by kernel_rfl⟩) ?_
        refine takeH hS (i := 1) (d := 15) (v := .pointer (some ⟨A, 0, none⟩)) rfl rfl (by kernel_rfl) (by kernel_rfl) (by kernel_rfl) (fun _ _ _ h => h) (Or.inl ⟨by kernel_rfl, fun w' hw' => by kernel_rfl⟩) ?_
        refine takeH hS (i := 2) (d := 16) (v := .pointer (some ⟨A, 3, none⟩)) rfl rfl (by kernel_rfl) (by kernel_rfl) (by kernel_rfl) (fun _ _ _ h => h) (Or.inl ⟨by kernel_rfl, fun w' hw' => by kernel_rfl⟩) ?_
        refine takeH hS (i := 3) (d := 17) (v := .bool false) rfl rfl (by kernel_rfl) (by kernel_rfl) (by kernel_rfl) (fun _ _ _ h => h) (Or.inl ⟨by kernel_rfl, fun w' hw' => by exact exec_cellv _ rfl ⟨A, 3, none⟩ rfl (.bool false) Try.underlying4 rfl (((Hb.out.below hw' Hb.out.lt).cell 3).trans ((show (zoA z v)[3]? = some (.bool z.fin) from rfl).trans (by rw [Hfin.out])))⟩) ?_
        try go_frame
        refine takeH hS (i := 4) (d := 18) (v := .bool false) rfl rfl (by kernel_rfl) (by kernel_rfl) (by kernel_rfl) (fun _ _ _ h => h) (Or.inl ⟨by kernel_rfl, fun w' hw' => by kernel_rfl⟩) ?_
        refine takeH hS (i := 5) (d := 19) (v := .pointer (some ⟨A, 0, none⟩)) rfl rfl (by kernel_rfl) (by kernel_rfl) (by kernel_rfl) (fun _ _ _ h => h) (Or.inl ⟨by kernel_rfl, fun w' hw' => by kernel_rfl⟩) ?_
        refine takeH hS (i := 7) (d := 21) (v := .pointer (some ⟨A, 0, none⟩)) rfl rfl (by kernel_rfl) (by kernel_rfl) (by kernel_rfl) (fun _ _ _ h => h) (Or.inl ⟨by kernel_rfl, fun w' hw' => by kernel_rfl⟩) ?_
        refine takeH hS (i := 8) (d := 22) (v := .pointer (some ⟨A, 0, none⟩)) rfl rfl (by kernel_rfl) (by kernel_rfl) (by kernel_rfl) (fun _ _ _ h => h) (Or.inl ⟨by kernel_rfl, fun w' hw' => by kernel_rfl⟩) ?_
        try go_frame
        refine takeH hS (i := 9) (d := 23) (v := .pointer (some ⟨A, 0, none⟩)) rfl rfl (by kernel_rfl) (by kernel_rfl) (by kernel_rfl) (fun _ _ _ h => h) (Or.inl ⟨by kernel_rfl, fun w' hw' => by kernel_rfl⟩) ?_
        refine takeH hS (i := 10) (d := 24) (v := .int .i64 (z.size)) rfl rfl (by kernel_rfl) (by kernel_rfl) (by kernel_rfl) (fun _ _ _ h => h) (Or.inl ⟨by kernel_rfl, fun w' hw' => by exact exec_cell _ rfl ⟨A, 0, none⟩ rfl _ Try.underlying3 (((Hb.out.below hw' Hb.out.lt).cell 0).trans (rfl))⟩) ?_
        try go_frame
        refine nextH (i := 6) rfl (by kernel_rfl) (by kernel_rfl) (fun K' hK => ?_)
        go_wp2_with fail
        refine (zlenI (Hz.out.below hS)).mono ?_
        rintro en wc1 ⟨rfl, hb0⟩
        have hb := below_eq hb0
        clear hb0
        have hS1 : Below w.heap.size w wc1 := bel_next hS hb
        refine hK.out _ _ ⟨hS1, ?_⟩
        clear hK K' hb hS
        refine takeH hS1 (i := 11) (d := 25) (v := .bool false) rfl rfl (by kernel_rfl) (by kernel_rfl) (by kernel_rfl) (fun _ _ _ h => h) (Or.inl ⟨by kernel_rfl, fun w' hw' => by exact exec_eql _ _ rfl ((z.xs.length : Nat)) (z.size) rfl rfl false (hd) rfl⟩) ?_
        refine takeH hS1 (i := 12) (d := 26) (v := .bool false) rfl rfl (by kernel_rfl) (by kernel_rfl) (by kernel_rfl) (fun _ _ _ h => h) (Or.inl ⟨by kernel_rfl, fun w' hw' => by kernel_rfl⟩) ?_
        refine takeH hS1 (i := 13) (d := 13) (v := .bool false) rfl rfl (by kernel_rfl) (by kernel_rfl) (by kernel_rfl) (fun _ _ _ h => h) (Or.inl ⟨by kernel_rfl, fun w' hw' => by kernel_rfl⟩) ?_
        refine wpAnyH_done (by kernel_rfl) ?_ _
        try go_frame
        go_wp2_with (first | (refine (zlenI (Hz.out.below hS1)).mono ?_; rintro e w' ⟨rfl, rfl⟩))
        all_goals
          go_ret
          exact ⟨ret_int (by unfold stI; rw [if_neg (by rw [Hf.out]; decide), if_neg (fun h => h.elim (fun h => by rw [Hfin.out] at h; cases h) He.out)]; simp_all), hS1⟩
  · have hd : (z.failed != 0) = true := by simpa using hf
    have Hf := Lib.hid hf
    clear hf
    go_enter Try.func20, Try.ntmps20
    go_wp2_with fail
    go_ret
    exact ⟨ret_int (by unfold stI; rw [if_pos Hf.out]), Below.refl _ _⟩
theorem zapI_blk {lo A : Nat} {v : Value} {z : ZoR} {w : World} {x : Value} {w1 w' : World} (hz : ZAt 56 3 lo w A v z) (hb : Below w.heap.size w w1) (hg : (w1.alloc (Obj.cells #[x] 3)).grownBy w' v.ownBlock) : Blk w' A 56 (zoA z v) :=
  (hz.blk.below (bthen hb (below_alloc _ _)) hz.blk.lt).grown hg (fun e => own_unlike hz.own hz.blk (by decide) e)
theorem zapI_push {lo A : Nat} {v : Value} {z : ZoR} {w : World} (x : Value) {v' : Value} {w1 w' : World} (hz : ZAt 56 3 lo w A v z) (hb : Below w.heap.size w w1) (ho : w'.ownsRow lo 3 1 v' (z.xs.length + 1) (z.xs ++ [x])) (hg : (w1.alloc (Obj.cells #[x] 3)).grownBy w' v.ownBlock) (hv : v'.ownBlock = v.ownBlock ∨ v'.ownBlock = some (w1.alloc (Obj.cells #[x] 3)).heap.size) :
    ∃ v'', ZAt 56 3 lo (w'.setCell ⟨A, 1, none⟩ v') A v'' { z with xs := z.xs ++ [x] } ∧ v'' = v' ∧ Kept (ZF A v) w (w'.setCell ⟨A, 1, none⟩ v') ∧ ∀ g, v''.ownBlock = some g → v.ownBlock = some g ∨ w.heap.size ≤ g := by
  have hb1 : Below w.heap.size w (w1.alloc (Obj.cells #[x] 3)) := bthen hb (below_alloc _ _)
  have k1 : Kept (ZF A v) w (w1.alloc (Obj.cells #[x] 3)) := Kept.of_below hb1
  have k2 := k1.grown hg (fun g e => .inr e)
  have k3 := k2.setCell (p := ⟨A, 1, none⟩) (.inl rfl) v'
  have hA : Blk w' A 56 (zoA z v) := (hz.blk.below hb1 hz.blk.lt).grown hg (fun e => own_unlike hz.own hz.blk (by decide) e)
  refine ⟨v', ⟨hA.set 1 v', ?_, hz.le⟩, rfl, k3, fun g hg' => ?_⟩
  · have hl : (z.xs ++ [x]).length = z.xs.length + 1 := by simp
    show (w'.setCell ⟨A, 1, none⟩ v').ownsRow lo 3 1 v' (z.xs ++ [x]).length (z.xs ++ [x])
    rw [hl]
    exact own_same ho (fun g hg' => Below.heap_setCell _ _ _ _ (fun e => own_unlike ho hA (by decide) (by rw [hg']; exact congrArg some e.symm)))
  · rcases hv with h | h
    · exact .inl (h ▸ hg')
    · rw [h] at hg'
      exact .inr (by have := hb1.size; injection hg' with e; omega)
set_option maxRecDepth 100000 in
set_option maxHeartbeats 2000000 in
theorem zapI {lo A : Nat} {v : Value} {z : ZoR} {w : World} (x : Int) (hz : ZAt 56 3 lo w A v z) (hok : ZOk z) (hlo : lo ≤ w.heap.size) : Calls Try.prog 13 #[.pointer (some ⟨A, 0, none⟩), .int .i64 x] w fun e w' => e = .returned (.tuple #[.int .i64 (apO z), .int .i64 (apE z)]) ∧ ZTo 56 3 lo w A v (apZ z (.int .i64 x)) w' := by
  have Hz := Lib.hid hz
  have Hok := Lib.hid hok
  have Hlo := Lib.hid hlo
  clear hz hok hlo
  by_cases h1 : refI z = 0
  · by_cases h2 : stI z = 2
    · have hE : apE z = 17 := by unfold apE; rw [if_neg (by simpa using h1), if_pos h2]
      have hO : apO z = 0 := by unfold apO; rw [hE]; rfl
      have hZ : ∀ x, apZ z x = z := fun x => by unfold apZ; rw [hE]; rfl
      rw [hE, hO, hZ]
      have H1 := Lib.hid h1
      have H2 := Lib.hid h2
      clear h1 h2 hE hO hZ
      go_enter Try.func13, Try.ntmps13
      go_wp2_with fail
      refine (zrefI Hz.out).mono ?_
      rintro e w' ⟨rfl, rfl⟩
      rw [H1.out]
      go_wp2_with fail
      refine (zstI Hz.out).mono ?_
      rintro e w' ⟨rfl, hb⟩
      rw [H2.out]
      have Hb := Lib.hid hb
      clear hb
      go_wp2_with fail
      go_ret2
      exact ⟨rfl, ZTo.same Hz.out Hb.out⟩
    · have hE : apE z = 0 := by unfold apE; rw [if_neg (by simpa using h1), if_neg h2]
      have hO : apO z = (z.xs.length : Int) := by unfold apO; rw [hE]; rfl
      have hZ : ∀ x, apZ z x = { z with xs := z.xs ++ [x] } := fun x => by unfold apZ; rw [hE]; rfl
      rw [hE, hO, hZ]
      have hl : (z.xs.length : Int) ≤ 64 := Int.le_trans Hok.out.len Hok.out.size.2
      have H1 := Lib.hid h1
      have h2' : (stI z == 2) = false := by simpa using h2
      clear h1 h2 hE hO hZ
      go_enter Try.func13, Try.ntmps13
      go_wp2_with fail
      refine (zrefI Hz.out).mono ?_
      rintro e w' ⟨rfl, rfl⟩
      rw [H1.out]
      go_wp2_with fail
      refine (zstI Hz.out).mono ?_
      rintro e w1 ⟨rfl, hb⟩
      have hz1 := Hz.out.below hb
      have Hb := Lib.hid hb
      have c1 : w1.cell? ⟨A, 1, none⟩ = some v := (hz1.blk.cell 1).trans rfl
      have f1 := hz1.blk.frozen 1
      have Hz1 := Lib.hid hz1
      clear hb hz1
      have Hd : Hid ((w1.alloc (Obj.cells #[.int .i64 x] 3)).heap.size = w1.heap.size + 1) := Lib.hid (by simp)
      go_wp2_with (refine wpl_appendV elI rfl (.tmp 19) (.tmp 21) rfl lo v z.xs.length z.xs rfl (own_below Hz1.out.own (below_alloc _ _)) (some ⟨w1.heap.size, 0, none⟩) 1 1 [.int .i64 x] rfl rfl (fun e => by cases e) (src_one _ _ _) (by intro u hu; rcases List.mem_singleton.1 hu with rfl; rfl) (by omega) (by have := Hlo.out; have := Hb.out.size; rw [Hd.out]; omega) ?_; intro v' w2 hown hgr hv; obtain ⟨a', cp', rfl⟩ := own_slice hown; have hA := zapI_blk Hz.out Hb.out hgr; have c1b : w2.cell? ⟨A, 1, none⟩ = some v := (hA.cell 1).trans rfl; have f1b := hA.frozen 1; clear hA; have HP := Lib.hid (zapI_push (.int .i64 x) Hz.out Hb.out hown hgr hv); clear hown hgr hv; go_frame)
      obtain ⟨v2, hz2, rfl, hk, hfr⟩ := HP.out
      refine (zlenI hz2).mono ?_
      rintro e w3 ⟨rfl, rfl⟩
      simp only [List.length_append, List.length_singleton]
      clear c1 f1 c1b f1b h2'
      go_wp2_with fail
      go_ret2
      exact ⟨by go_num, _, hz2, hk, hfr⟩
  · have hE : apE z = refI z := by unfold apE; rw [if_pos (by simpa using h1)]
    have hO : apO z = 0 := by unfold apO; rw [if_neg (by rw [hE]; exact h1)]
    have hZ : ∀ x, apZ z x = z := fun x => by unfold apZ; rw [if_neg (by rw [hE]; exact h1)]
    rw [hE, hO, hZ]
    have h1' : (refI z != 0) = true := by simpa using h1
    clear h1 hE hO hZ
    go_enter Try.func13, Try.ntmps13
    go_wp2_with fail
    refine (zrefI Hz.out).mono ?_
    rintro e w' ⟨rfl, rfl⟩
    go_wp2_with fail
    go_ret2
    exact ⟨rfl, ZTo.same Hz.out (Below.refl _ _)⟩
theorem Try.infoS : (Try.prog.info? 9).map (fun i => (i.zero, i.size, i.bytes)) = some (some (.string ⟨#[]⟩), 1, 16) := by kernel_rfl
theorem elS : ElT Try.prog 47 9 (.string ⟨#[]⟩) := by
  obtain ⟨i0, hi, hz0, hz1, hz2⟩ := info_parts Try.infoS
  exact ⟨Try.underlying47, ⟨i0, 16, hi, hz0, hz1, hz2, by decide⟩, rfl⟩
theorem Try.infoZS : (Try.prog.info? 71).map (·.size) = some 5 := by kernel_rfl
set_option maxRecDepth 100000 in
set_option maxHeartbeats 2000000 in
theorem znewS_no (size : Int) (w : World) (h : size < 1 ∨ 64 < size) : Calls Try.prog 22 #[.int .i64 size] w fun e w' => e = .returned (.tuple #[.pointer none, .int .i64 13]) ∧ w = w' := by
  rcases h with h | h
  · go_enter Try.func22, Try.ntmps22
    go_wp2
    go_ret2
    exact ⟨rfl, rfl⟩
  · have h' : ¬ size < 1 := by omega
    go_enter Try.func22, Try.ntmps22
    go_wp2
    go_ret2
    exact ⟨rfl, rfl⟩
set_option maxRecDepth 100000 in
set_option maxHeartbeats 2000000 in
theorem znewS_ok (size : Int) (w : World) (h1 : 1 ≤ size) (h2 : size ≤ 64) : Calls Try.prog 22 #[.int .i64 size] w fun e w' => e = .returned (.tuple #[.pointer (some ⟨w.heap.size, 0, none⟩), .int .i64 0]) ∧ w' = w.alloc (Obj.cells (zoA (zo0 size) (.slice none 0 0)) 71) := by
  go_enter Try.func22, Try.ntmps22
  go_wp2_with (refine wpl_build (by rfl) _ _ rfl (.agg (zoA (zo0 size) (.slice none 0 0))) (fun w => by kernel_rfl) ?_; go_frame)
  go_ret2
  exact ⟨rfl, rfl⟩
set_option maxRecDepth 100000 in
set_option maxHeartbeats 2000000 in
theorem zrefS {lo A : Nat} {v : Value} {z : ZoR} {w : World} (hz : ZAt 71 9 lo w A v z) : Calls Try.prog 41 #[.pointer (some ⟨A, 0, none⟩)] w fun e w' => e = .returned (.int .i64 (refI z)) ∧ w = w' := by
  have c4 : w.cell? ⟨A, 4, none⟩ = some (.int .i64 z.failed) := (hz.blk.cell 4).trans rfl
  clear hz
  go_enter Try.func41, Try.ntmps41
  go_wp2
  all_goals
    go_ret
    exact ⟨ret_int (by unfold refI; simp_all), rfl⟩
set_option maxRecDepth 100000 in
set_option maxHeartbeats 2000000 in
theorem zlenS {lo A : Nat} {v : Value} {z : ZoR} {w : World} (hz : ZAt 71 9 lo w A v z) : Calls Try.prog 27 #[.pointer (some ⟨A, 0, none⟩)] w fun e w' => e = .returned (.int .i64 (z.xs.length : Nat)) ∧ w = w' := by
  obtain ⟨a, cap, rfl, hc1, hc2⟩ := hz.slice
  have c1 : w.cell? ⟨A, 1, none⟩ = some (.slice a z.xs.length cap) := (hz.blk.cell 1).trans rfl
  clear hz
  go_enter Try.func27, Try.ntmps27
  go_wp2
  go_ret
  exact ⟨rfl, rfl⟩
set_option maxRecDepth 100000 in
set_option maxHeartbeats 2000000 in
theorem zholS {lo A : Nat} {v : Value} {z : ZoR} {w : World} (off : Int) (hz : ZAt 71 9 lo w A v z) : Calls Try.prog 42 #[.pointer (some ⟨A, 0, none⟩), .int .i64 off] w fun e w' => e = .returned (.bool (holB z off)) ∧ w = w' := by
  have Hz := Lib.hid hz
  clear hz
  by_cases h0 : 0 ≤ off
  · have hd : decide (0 ≤ off) = true := decide_eq_true h0
    go_enter Try.func42, Try.ntmps42
    go_wp2_with (first | (refine (zlenS Hz.out).mono ?_; rintro e w' ⟨rfl, rfl⟩))
    go_ret
    exact ⟨ret_bool (by unfold holB; rw [hd]; rfl), rfl⟩
  · have hd : decide (0 ≤ off) = false := decide_eq_false h0
    go_enter Try.func42, Try.ntmps42
    go_wp2_with fail
    go_ret
    exact ⟨ret_bool (by unfold holB; rw [hd]; rfl), rfl⟩
set_option maxRecDepth 100000 in
set_option maxHeartbeats 2000000 in
theorem zstS {lo A : Nat} {v : Value} {z : ZoR} {w : World} (hz : ZAt 71 9 lo w A v z) : Calls Try.prog 25 #[.pointer (some ⟨A, 0, none⟩)] w fun e w' => e = .returned (.int .i64 (stI z)) ∧ Below w.heap.size w w' := by
  have c4 : w.cell? ⟨A, 4, none⟩ = some (.int .i64 z.failed) := (hz.blk.cell 4).trans rfl
  have c3 : w.cell? ⟨A, 3, none⟩ = some (.bool z.fin) := (hz.blk.cell 3).trans rfl
  have c0 : w.cell? ⟨A, 0, none⟩ = some (.int .i64 z.size) := (hz.blk.cell 0).trans rfl
  have Hz := Lib.hid hz
  clear hz
  by_cases hf : z.failed = 0
  · have Hf := Lib.hid hf
    cases hfin : z.fin with
    | true =>
      rw [hfin] at c3
      have Hfin := Lib.hid hfin
      clear hf hfin
      rw [Hf.out] at c4
      go_enter Try.func25, Try.ntmps25
      go_upto_region 3 with fail
      go_quiet ((fail))
      go_wp2_with fail
      go_ret
      exact ⟨ret_int (by unfold stI; rw [if_neg (by rw [Hf.out]; decide), if_pos (.inl Hfin.out)]), below_drewN (Below.refl _ _) _⟩
    | false =>
      rw [hfin] at c3
      have Hfin := Lib.hid hfin
      clear hf hfin
      rw [Hf.out] at c4
      go_enter Try.func25, Try.ntmps25
      go_upto_region 3 with fail
      clear c4 c3 c0
      have Hb := Lib.hid Hz.out.blk
      by_cases he : (z.xs.length : Int) = z.size
      · have hd : decide ((z.xs.length : Int) = z.size) = true := decide_eq_true he
        have He := Lib.hid he
        clear he
        refine wp_region_held (S := fun w' => Below w.heap.size w w') (by kernel_rfl) ?_
        change wpAnyH _ _ _ _ _ _ _ _ (World.drew _)
        have hS : Below w.heap.size w w.drew := (Below.refl _ _).drew
        refine takeH hS (i := 0) (d := 14) (v := .pointer (some ⟨A, 0, none⟩)) rfl rfl (by kernel_rfl) (by kernel_rfl) (by kernel_rfl) (fun _ _ _ h => h) (Or.inl ⟨by kernel_rfl, fun w' hw' => by kernel_rfl⟩) ?_
        refine takeH hS (i := 1) (d := 15) (v := .pointer (some ⟨A, 0, none⟩)) rfl rfl (by kernel_rfl) (by kernel_rfl) (by kernel_rfl) (fun _ _ _ h => h) (Or.inl ⟨by kernel_rfl, fun w' hw' => by kernel_rfl⟩) ?_
        refine takeH hS (i := 2) (d := 16) (v := .pointer (some ⟨A, 3, none⟩)) rfl rfl (by kernel_rfl) (by kernel_rfl) (by kernel_rfl) (fun _ _ _ h => h) (Or.inl ⟨by kernel_rfl, fun w' hw' => by kernel_rfl⟩) ?_
        refine takeH hS (i := 3) (d := 17) (v := .bool false) rfl rfl (by kernel_rfl) (by kernel_rfl) (by kernel_rfl) (fun _ _ _ h => h) (Or.inl ⟨by kernel_rfl, fun w' hw' => by exact exec_cellv _ rfl ⟨A, 3, none⟩ rfl (.bool false) Try.underlying4 rfl (((Hb.out.below hw' Hb.out.lt).cell 3).trans ((show (zoA z v)[3]? = some (.bool z.fin) from rfl).trans (by rw [Hfin.out])))⟩) ?_
        try go_frame
        refine takeH hS (i := 4) (d := 18) (v := .bool false) rfl rfl (by kernel_rfl) (by kernel_rfl) (by kernel_rfl) (fun _ _ _ h => h) (Or.inl ⟨by kernel_rfl, fun w' hw' => by kernel_rfl⟩) ?_
        refine takeH hS (i := 5) (d := 19) (v := .pointer (some ⟨A, 0, none⟩)) rfl rfl (by kernel_rfl) (by kernel_rfl) (by kernel_rfl) (fun _ _ _ h => h) (Or.inl ⟨by kernel_rfl, fun w' hw' => by kernel_rfl⟩) ?_
        refine takeH hS (i := 7) (d := 21) (v := .pointer (some ⟨A, 0, none⟩)) rfl rfl (by kernel_rfl) (by kernel_rfl) (by kernel_rfl) (fun _ _ _ h => h) (Or.inl ⟨by kernel_rfl, fun w' hw' => by kernel_rfl⟩) ?_
        refine takeH hS (i := 8) (d := 22) (v := .pointer (some ⟨A, 0, none⟩)) rfl rfl (by kernel_rfl) (by kernel_rfl) (by kernel_rfl) (fun _ _ _ h => h) (Or.inl ⟨by kernel_rfl, fun w' hw' => by kernel_rfl⟩) ?_
        try go_frame
        refine takeH hS (i := 9) (d := 23) (v := .pointer (some ⟨A, 0, none⟩)) rfl rfl (by kernel_rfl) (by kernel_rfl) (by kernel_rfl) (fun _ _ _ h => h) (Or.inl ⟨by kernel_rfl, fun w' hw' => by kernel_rfl⟩) ?_
        refine takeH hS (i := 10) (d := 24) (v := .int .i64 (z.size)) rfl rfl (by kernel_rfl) (by kernel_rfl) (by kernel_rfl) (fun _ _ _ h => h) (Or.inl ⟨by kernel_rfl, fun w' hw' => by exact exec_cell _ rfl ⟨A, 0, none⟩ rfl _ Try.underlying3 (((Hb.out.below hw' Hb.out.lt).cell 0).trans (rfl))⟩) ?_
        try go_frame
        refine nextH (i := 6) rfl (by kernel_rfl) (by kernel_rfl) (fun K' hK => ?_)
        go_wp2_with fail
        refine (zlenS (Hz.out.below hS)).mono ?_
        rintro en wc1 ⟨rfl, hb0⟩
        have hb := below_eq hb0
        clear hb0
        have hS1 : Below w.heap.size w wc1 := bel_next hS hb
        refine hK.out _ _ ⟨hS1, ?_⟩
        clear hK K' hb hS
        refine takeH hS1 (i := 11) (d := 25) (v := .bool true) rfl rfl (by kernel_rfl) (by kernel_rfl) (by kernel_rfl) (fun _ _ _ h => h) (Or.inl ⟨by kernel_rfl, fun w' hw' => by exact exec_eql _ _ rfl ((z.xs.length : Nat)) (z.size) rfl rfl true (hd) rfl⟩) ?_
        refine takeH hS1 (i := 12) (d := 26) (v := .bool true) rfl rfl (by kernel_rfl) (by kernel_rfl) (by kernel_rfl) (fun _ _ _ h => h) (Or.inl ⟨by kernel_rfl, fun w' hw' => by kernel_rfl⟩) ?_
        refine takeH hS1 (i := 13) (d := 13) (v := .bool true) rfl rfl (by kernel_rfl) (by kernel_rfl) (by kernel_rfl) (fun _ _ _ h => h) (Or.inl ⟨by kernel_rfl, fun w' hw' => by kernel_rfl⟩) ?_
        refine wpAnyH_done (by kernel_rfl) ?_ _
        try go_frame
        go_wp2_with fail
        go_ret
        exact ⟨ret_int (by unfold stI; rw [if_neg (by rw [Hf.out]; decide), if_pos (.inr He.out)]), hS1⟩
      · have hd : decide ((z.xs.length : Int) = z.size) = false := decide_eq_false he
        have He := Lib.hid he
        clear he
        refine wp_region_held (S := fun w' => Below w.heap.size w w') (by kernel_rfl) ?_
        change wpAnyH _ _ _ _ _ _ _ _ (World.drew _)
        have hS : Below w.heap.size w w.drew := (Below.refl _ _).drew
        refine takeH hS (i := 0) (d := 14) (v := .pointer (some ⟨A, 0, none⟩)) rfl rfl (by kernel_rfl) (by kernel_rfl) (by kernel_rfl) (fun _ _ _ h => h) (Or.inl ⟨by kernel_rfl, fun w' hw' => by kernel_rfl⟩) ?_
        refine takeH hS (i := 1) (d := 15) (v := .pointer (some ⟨A, 0, none⟩)) rfl rfl (by kernel_rfl) (by kernel_rfl) (by kernel_rfl) (fun _ _ _ h => h) (Or.inl ⟨by kernel_rfl, fun w' hw' => by kernel_rfl⟩) ?_
        refine takeH hS (i := 2) (d := 16) (v := .pointer (some ⟨A, 3, none⟩)) rfl rfl (by kernel_rfl) (by kernel_rfl) (by kernel_rfl) (fun _ _ _ h => h) (Or.inl ⟨by kernel_rfl, fun w' hw' => by kernel_rfl⟩) ?_
        refine takeH hS (i := 3) (d := 17) (v := .bool false) rfl rfl (by kernel_rfl) (by kernel_rfl) (by kernel_rfl) (fun _ _ _ h => h) (Or.inl ⟨by kernel_rfl, fun w' hw' => by exact exec_cellv _ rfl ⟨A, 3, none⟩ rfl (.bool false) Try.underlying4 rfl (((Hb.out.below hw' Hb.out.lt).cell 3).trans ((show (zoA z v)[3]? = some (.bool z.fin) from rfl).trans (by rw [Hfin.out])))⟩) ?_
        try go_frame
        refine takeH hS (i := 4) (d := 18) (v := .bool false) rfl rfl (by kernel_rfl) (by kernel_rfl) (by kernel_rfl) (fun _ _ _ h => h) (Or.inl ⟨by kernel_rfl, fun w' hw' => by kernel_rfl⟩) ?_
        refine takeH hS (i := 5) (d := 19) (v := .pointer (some ⟨A, 0, none⟩)) rfl rfl (by kernel_rfl) (by kernel_rfl) (by kernel_rfl) (fun _ _ _ h => h) (Or.inl ⟨by kernel_rfl, fun w' hw' => by kernel_rfl⟩) ?_
        refine takeH hS (i := 7) (d := 21) (v := .pointer (some ⟨A, 0, none⟩)) rfl rfl (by kernel_rfl) (by kernel_rfl) (by kernel_rfl) (fun _ _ _ h => h) (Or.inl ⟨by kernel_rfl, fun w' hw' => by kernel_rfl⟩) ?_
        refine takeH hS (i := 8) (d := 22) (v := .pointer (some ⟨A, 0, none⟩)) rfl rfl (by kernel_rfl) (by kernel_rfl) (by kernel_rfl) (fun _ _ _ h => h) (Or.inl ⟨by kernel_rfl, fun w' hw' => by kernel_rfl⟩) ?_
        try go_frame
        refine takeH hS (i := 9) (d := 23) (v := .pointer (some ⟨A, 0, none⟩)) rfl rfl (by kernel_rfl) (by kernel_rfl) (by kernel_rfl) (fun _ _ _ h => h) (Or.inl ⟨by kernel_rfl, fun w' hw' => by kernel_rfl⟩) ?_
        refine takeH hS (i := 10) (d := 24) (v := .int .i64 (z.size)) rfl rfl (by kernel_rfl) (by kernel_rfl) (by kernel_rfl) (fun _ _ _ h => h) (Or.inl ⟨by kernel_rfl, fun w' hw' => by exact exec_cell _ rfl ⟨A, 0, none⟩ rfl _ Try.underlying3 (((Hb.out.below hw' Hb.out.lt).cell 0).trans (rfl))⟩) ?_
        try go_frame
        refine nextH (i := 6) rfl (by kernel_rfl) (by kernel_rfl) (fun K' hK => ?_)
        go_wp2_with fail
        refine (zlenS (Hz.out.below hS)).mono ?_
        rintro en wc1 ⟨rfl, hb0⟩
        have hb := below_eq hb0
        clear hb0
        have hS1 : Below w.heap.size w wc1 := bel_next hS hb
        refine hK.out _ _ ⟨hS1, ?_⟩
        clear hK K' hb hS
        refine takeH hS1 (i := 11) (d := 25) (v := .bool false) rfl rfl (by kernel_rfl) (by kernel_rfl) (by kernel_rfl) (fun _ _ _ h => h) (Or.inl ⟨by kernel_rfl, fun w' hw' => by exact exec_eql _ _ rfl ((z.xs.length : Nat)) (z.size) rfl rfl false (hd) rfl⟩) ?_
        refine takeH hS1 (i := 12) (d := 26) (v := .bool false) rfl rfl (by kernel_rfl) (by kernel_rfl) (by kernel_rfl) (fun _ _ _ h => h) (Or.inl ⟨by kernel_rfl, fun w' hw' => by kernel_rfl⟩) ?_
        refine takeH hS1 (i := 13) (d := 13) (v := .bool false) rfl rfl (by kernel_rfl) (by kernel_rfl) (by kernel_rfl) (fun _ _ _ h => h) (Or.inl ⟨by kernel_rfl, fun w' hw' => by kernel_rfl⟩) ?_
        refine wpAnyH_done (by kernel_rfl) ?_ _
        try go_frame
        go_wp2_with (first | (refine (zlenS (Hz.out.below hS1)).mono ?_; rintro e w' ⟨rfl, rfl⟩))
        all_goals
          go_ret
          exact ⟨ret_int (by unfold stI; rw [if_neg (by rw [Hf.out]; decide), if_neg (fun h => h.elim (fun h => by rw [Hfin.out] at h; cases h) He.out)]; simp_all), hS1⟩
  · have hd : (z.failed != 0) = true := by simpa using hf
    have Hf := Lib.hid hf
    clear hf
    go_enter Try.func25, Try.ntmps25
    go_wp2_with fail
    go_ret
    exact ⟨ret_int (by unfold stI; rw [if_pos Hf.out]), Below.refl _ _⟩
theorem zapS_blk {lo A : Nat} {v : Value} {z : ZoR} {w : World} {x : Value} {w1 w' : World} (hz : ZAt 71 9 lo w A v z) (hb : Below w.heap.size w w1) (hg : (w1.alloc (Obj.cells #[x] 9)).grownBy w' v.ownBlock) : Blk w' A 71 (zoA z v) :=
  (hz.blk.below (bthen hb (below_alloc _ _)) hz.blk.lt).grown hg (fun e => own_unlike hz.own hz.blk (by decide) e)
theorem zapS_push {lo A : Nat} {v : Value} {z : ZoR} {w : World} (x : Value) {v' : Value} {w1 w' : World} (hz : ZAt 71 9 lo w A v z) (hb : Below w.heap.size w w1) (ho : w'.ownsRow lo 9 1 v' (z.xs.length + 1) (z.xs ++ [x])) (hg : (w1.alloc (Obj.cells #[x] 9)).grownBy w' v.ownBlock) (hv : v'.ownBlock = v.ownBlock ∨ v'.ownBlock = some (w1.alloc (Obj.cells #[x] 9)).heap.size) :
    ∃ v'', ZAt 71 9 lo (w'.setCell ⟨A, 1, none⟩ v') A v'' { z with xs := z.xs ++ [x] } ∧ v'' = v' ∧ Kept (ZF A v) w (w'.setCell ⟨A, 1, none⟩ v') ∧ ∀ g, v''.ownBlock = some g → v.ownBlock = some g ∨ w.heap.size ≤ g := by
  have hb1 : Below w.heap.size w (w1.alloc (Obj.cells #[x] 9)) := bthen hb (below_alloc _ _)
  have k1 : Kept (ZF A v) w (w1.alloc (Obj.cells #[x] 9)) := Kept.of_below hb1
  have k2 := k1.grown hg (fun g e => .inr e)
  have k3 := k2.setCell (p := ⟨A, 1, none⟩) (.inl rfl) v'
  have hA : Blk w' A 71 (zoA z v) := (hz.blk.below hb1 hz.blk.lt).grown hg (fun e => own_unlike hz.own hz.blk (by decide) e)
  refine ⟨v', ⟨hA.set 1 v', ?_, hz.le⟩, rfl, k3, fun g hg' => ?_⟩
  · have hl : (z.xs ++ [x]).length = z.xs.length + 1 := by simp
    show (w'.setCell ⟨A, 1, none⟩ v').ownsRow lo 9 1 v' (z.xs ++ [x]).length (z.xs ++ [x])
    rw [hl]
    exact own_same ho (fun g hg' => Below.heap_setCell _ _ _ _ (fun e => own_unlike ho hA (by decide) (by rw [hg']; exact congrArg some e.symm)))
  · rcases hv with h | h
    · exact .inl (h ▸ hg')
    · rw [h] at hg'
      exact .inr (by have := hb1.size; injection hg' with e; omega)
set_option maxRecDepth 100000 in
set_option maxHeartbeats 2000000 in
theorem zapS {lo A : Nat} {v : Value} {z : ZoR} {w : World} (t : ByteArray) (hz : ZAt 71 9 lo w A v z) (hok : ZOk z) (hlo : lo ≤ w.heap.size) : Calls Try.prog 23 #[.pointer (some ⟨A, 0, none⟩), .string t] w fun e w' => e = .returned (.tuple #[.int .i64 (apO z), .int .i64 (apE z)]) ∧ ZTo 71 9 lo w A v (apZ z (.string t)) w' := by
  have Hz := Lib.hid hz
  have Hok := Lib.hid hok
  have Hlo := Lib.hid hlo
  clear hz hok hlo
  by_cases h1 : refI z = 0
  · by_cases h2 : stI z = 2
    · have hE : apE z = 17 := by unfold apE; rw [if_neg (by simpa using h1), if_pos h2]
      have hO : apO z = 0 := by unfold apO; rw [hE]; rfl
      have hZ : ∀ x, apZ z x = z := fun x => by unfold apZ; rw [hE]; rfl
      rw [hE, hO, hZ]
      have H1 := Lib.hid h1
      have H2 := Lib.hid h2
      clear h1 h2 hE hO hZ
      go_enter Try.func23, Try.ntmps23
      go_wp2_with fail
      refine (zrefS Hz.out).mono ?_
      rintro e w' ⟨rfl, rfl⟩
      rw [H1.out]
      go_wp2_with fail
      refine (zstS Hz.out).mono ?_
      rintro e w' ⟨rfl, hb⟩
      rw [H2.out]
      have Hb := Lib.hid hb
      clear hb
      go_wp2_with fail
      go_ret2
      exact ⟨rfl, ZTo.same Hz.out Hb.out⟩
    · have hE : apE z = 0 := by unfold apE; rw [if_neg (by simpa using h1), if_neg h2]
      have hO : apO z = (z.xs.length : Int) := by unfold apO; rw [hE]; rfl
      have hZ : ∀ x, apZ z x = { z with xs := z.xs ++ [x] } := fun x => by unfold apZ; rw [hE]; rfl
      rw [hE, hO, hZ]
      have hl : (z.xs.length : Int) ≤ 64 := Int.le_trans Hok.out.len Hok.out.size.2
      have H1 := Lib.hid h1
      have h2' : (stI z == 2) = false := by simpa using h2
      clear h1 h2 hE hO hZ
      go_enter Try.func23, Try.ntmps23
      go_wp2_with fail
      refine (zrefS Hz.out).mono ?_
      rintro e w' ⟨rfl, rfl⟩
      rw [H1.out]
      go_wp2_with fail
      refine (zstS Hz.out).mono ?_
      rintro e w1 ⟨rfl, hb⟩
      have hz1 := Hz.out.below hb
      have Hb := Lib.hid hb
      have c1 : w1.cell? ⟨A, 1, none⟩ = some v := (hz1.blk.cell 1).trans rfl
      have f1 := hz1.blk.frozen 1
      have Hz1 := Lib.hid hz1
      clear hb hz1
      have Hd : Hid ((w1.alloc (Obj.cells #[.string t] 9)).heap.size = w1.heap.size + 1) := Lib.hid (by simp)
      go_wp2_with (refine wpl_appendV elS rfl (.tmp 19) (.tmp 21) rfl lo v z.xs.length z.xs rfl (own_below Hz1.out.own (below_alloc _ _)) (some ⟨w1.heap.size, 0, none⟩) 1 1 [.string t] rfl rfl (fun e => by cases e) (src_one _ _ _) (by intro u hu; rcases List.mem_singleton.1 hu with rfl; rfl) (by omega) (by have := Hlo.out; have := Hb.out.size; rw [Hd.out]; omega) ?_; intro v' w2 hown hgr hv; obtain ⟨a', cp', rfl⟩ := own_slice hown; have hA := zapS_blk Hz.out Hb.out hgr; have c1b : w2.cell? ⟨A, 1, none⟩ = some v := (hA.cell 1).trans rfl; have f1b := hA.frozen 1; clear hA; have HP := Lib.hid (zapS_push (.string t) Hz.out Hb.out hown hgr hv); clear hown hgr hv; go_frame)
      obtain ⟨v2, hz2, rfl, hk, hfr⟩ := HP.out
      refine (zlenS hz2).mono ?_
      rintro e w3 ⟨rfl, rfl⟩
      simp only [List.length_append, List.length_singleton]
      clear c1 f1 c1b f1b h2'
      go_wp2_with fail
      go_ret2
      exact ⟨by go_num, _, hz2, hk, hfr⟩
  · have hE : apE z = refI z := by unfold apE; rw [if_pos (by simpa using h1)]
    have hO : apO z = 0 := by unfold apO; rw [if_neg (by rw [hE]; exact h1)]
    have hZ : ∀ x, apZ z x = z := fun x => by unfold apZ; rw [if_neg (by rw [hE]; exact h1)]
    rw [hE, hO, hZ]
    have h1' : (refI z != 0) = true := by simpa using h1
    clear h1 hE hO hZ
    go_enter Try.func23, Try.ntmps23
    go_wp2_with fail
    refine (zrefS Hz.out).mono ?_
    rintro e w' ⟨rfl, rfl⟩
    go_wp2_with fail
    go_ret2
    exact ⟨rfl, ZTo.same Hz.out (Below.refl _ _)⟩
set_option maxRecDepth 100000 in
set_option maxHeartbeats 2000000 in
theorem zrdI {lo A : Nat} {v : Value} {z : ZoR} {w : World} (off : Int) (hz : ZAt 56 3 lo w A v z) (hok : ZOk z) : Calls Try.prog 21 #[.pointer (some ⟨A, 0, none⟩), .int .i64 off] w fun e w' => e = .returned (.tuple #[rdV (.int .i64 0) z off, .int .i64 (rdE z off)]) ∧ w = w' := by
  have c4 : w.cell? ⟨A, 4, none⟩ = some (.int .i64 z.failed) := (hz.blk.cell 4).trans rfl
  have Hok := Lib.hid hok
  clear hok
  by_cases hf : z.failed = 4
  · have hE : rdE z off = 32 := by unfold rdE; rw [if_pos hf]
    have hV : rdV (.int .i64 0) z off = .int .i64 0 := by unfold rdV; rw [hE]; rfl
    rw [hE, hV]
    rw [hf] at c4
    clear hz hf hE hV
    go_enter Try.func21, Try.ntmps21
    go_wp2_with fail
    go_ret2
    exact ⟨rfl, rfl⟩
  · have hd : (z.failed == 4) = false := by simpa using hf
    cases hh : holB z off with
    | false =>
      have hE : rdE z off = 31 := by unfold rdE; rw [if_neg hf, if_neg (by rw [hh]; decide)]
      have hV : rdV (.int .i64 0) z off = .int .i64 0 := by unfold rdV; rw [hE]; rfl
      rw [hE, hV]
      have Hh := Lib.hid hh
      have Hz := Lib.hid hz
      clear hz hf hE hV hh
      go_enter Try.func21, Try.ntmps21
      go_wp2_with fail
      refine (zholI off Hz.out).mono ?_
      rintro e w' ⟨rfl, rfl⟩
      rw [Hh.out]
      go_wp2_with fail
      go_ret2
      exact ⟨rfl, rfl⟩
    | true =>
      have hE : rdE z off = 0 := by unfold rdE; rw [if_neg hf, if_pos hh]
      have hV : rdV (.int .i64 0) z off = z.xs.getD off.toNat (.int .i64 0) := by unfold rdV; rw [hE]; rfl
      rw [hE, hV]
      have Hh := Lib.hid hh
      obtain ⟨o1, o2⟩ : 0 ≤ off ∧ off < (z.xs.length : Int) := by unfold holB at hh; simpa using hh
      obtain ⟨i, rfl⟩ := Int.eq_ofNat_of_zero_le o1
      rw [Int.toNat_natCast]
      have hi : i < z.xs.length := by omega
      obtain ⟨a, cap, rfl, hc1, hc2⟩ := hz.slice
      unfold maxLen at hc2
      obtain ⟨g, rfl, hg1, hg2, hg3, hg4⟩ := own_at hz.own i hi
      have c1 : w.cell? ⟨A, 1, none⟩ = some (.slice (some ⟨g, 0, none⟩) z.xs.length cap) := (hz.blk.cell 1).trans rfl
      have hx : z.xs[i]? = some (z.xs.getD i (.int .i64 0)) := by simp [List.getD, List.getElem?_eq_getElem hi]
      rw [hx] at hg3
      have Hz := Lib.hid hz
      clear hz hf hE hV hh hx hg1 hg2 hg4
      have hl : (z.xs.length : Int) ≤ 64 := Int.le_trans Hok.out.len Hok.out.size.2
      generalize z.xs.getD i (.int .i64 0) = X at *
      go_enter Try.func21, Try.ntmps21
      go_wp2_with fail
      refine (zholI (i : Int) Hz.out).mono ?_
      rintro e w' ⟨rfl, rfl⟩
      rw [Hh.out]
      go_wp2_with fail
      go_ret2
      exact ⟨rfl, rfl⟩
set_option maxRecDepth 100000 in
set_option maxHeartbeats 2000000 in
theorem zrsI {lo A : Nat} {v : Value} {z : ZoR} {w : World} (hz : ZAt 56 3 lo w A v z) : Calls Try.prog 14 #[.pointer (some ⟨A, 0, none⟩)] w fun e w' => e = .returned (.int .i64 (refI z)) ∧ ZTo 56 3 lo w A v (rsZ z) w' := by
  have Hz := Lib.hid hz
  clear hz
  by_cases h1 : refI z = 0
  · have hZ : rsZ z = zo0 z.size := by unfold rsZ; rw [if_pos h1]
    rw [hZ, h1]
    have H1 := Lib.hid h1
    have c0 : w.cell? ⟨A, 0, none⟩ = some (.int .i64 z.size) := (Hz.out.blk.cell 0).trans rfl
    have Hb := Lib.hid Hz.out.blk
    clear h1 hZ
    go_enter Try.func14, Try.ntmps14
    go_wp2_with fail
    refine (zrefI Hz.out).mono ?_
    rintro e w' ⟨rfl, rfl⟩
    rw [H1.out]
    go_wp2_with (first | (refine wpl_build (by rfl) _ _ rfl (.agg (zoA (zo0 z.size) (.slice none 0 0))) (fun w => by kernel_rfl) ?_; go_frame) | (refine wpl_store rfl _ _ rfl A (zoA (zo0 z.size) (.slice none 0 0)) rfl rfl _ _ Hb.out Try.infoZI rfl (zoA_one _ _ _ _) ?_; intro w1 hS1 hK1; have HS1 := Lib.hid hS1; have HK1 := Lib.hid hK1; clear hS1 hK1; go_frame))
    go_ret
    exact ⟨rfl, .slice none 0 0, ⟨HS1.out, own_nil _ _ _, Hz.out.le⟩, zf_at HK1.out, fun g h => by simp [Value.ownBlock] at h⟩
  · have hZ : rsZ z = z := by unfold rsZ; rw [if_neg h1]
    rw [hZ]
    have h1' : (refI z != 0) = true := by simpa using h1
    clear h1 hZ
    go_enter Try.func14, Try.ntmps14
    go_wp2_with fail
    refine (zrefI Hz.out).mono ?_
    rintro e w' ⟨rfl, rfl⟩
    go_wp2_with fail
    go_ret
    exact ⟨rfl, ZTo.same Hz.out (Below.refl _ _)⟩
set_option maxRecDepth 100000 in
set_option maxHeartbeats 2000000 in
theorem zrdS {lo A : Nat} {v : Value} {z : ZoR} {w : World} (off : Int) (hz : ZAt 71 9 lo w A v z) (hok : ZOk z) : Calls Try.prog 24 #[.pointer (some ⟨A, 0, none⟩), .int .i64 off] w fun e w' => e = .returned (.tuple #[rdV (.string ⟨#[]⟩) z off, .int .i64 (rdE z off)]) ∧ w = w' := by
  have c4 : w.cell? ⟨A, 4, none⟩ = some (.int .i64 z.failed) := (hz.blk.cell 4).trans rfl
  have Hok := Lib.hid hok
  clear hok
  by_cases hf : z.failed = 4
  · have hE : rdE z off = 32 := by unfold rdE; rw [if_pos hf]
    have hV : rdV (.string ⟨#[]⟩) z off = .string ⟨#[]⟩ := by unfold rdV; rw [hE]; rfl
    rw [hE, hV]
    rw [hf] at c4
    clear hz hf hE hV
    go_enter Try.func24, Try.ntmps24
    go_wp2_with fail
    go_ret2
    exact ⟨rfl, rfl⟩
  · have hd : (z.failed == 4) = false := by simpa using hf
    cases hh : holB z off with
    | false =>
      have hE : rdE z off = 31 := by unfold rdE; rw [if_neg hf, if_neg (by rw [hh]; decide)]
      have hV : rdV (.string ⟨#[]⟩) z off = .string ⟨#[]⟩ := by unfold rdV; rw [hE]; rfl
      rw [hE, hV]
      have Hh := Lib.hid hh
      have Hz := Lib.hid hz
      clear hz hf hE hV hh
      go_enter Try.func24, Try.ntmps24
      go_wp2_with fail
      refine (zholS off Hz.out).mono ?_
      rintro e w' ⟨rfl, rfl⟩
      rw [Hh.out]
      go_wp2_with fail
      go_ret2
      exact ⟨rfl, rfl⟩
    | true =>
      have hE : rdE z off = 0 := by unfold rdE; rw [if_neg hf, if_pos hh]
      have hV : rdV (.string ⟨#[]⟩) z off = z.xs.getD off.toNat (.string ⟨#[]⟩) := by unfold rdV; rw [hE]; rfl
      rw [hE, hV]
      have Hh := Lib.hid hh
      obtain ⟨o1, o2⟩ : 0 ≤ off ∧ off < (z.xs.length : Int) := by unfold holB at hh; simpa using hh
      obtain ⟨i, rfl⟩ := Int.eq_ofNat_of_zero_le o1
      rw [Int.toNat_natCast]
      have hi : i < z.xs.length := by omega
      obtain ⟨a, cap, rfl, hc1, hc2⟩ := hz.slice
      unfold maxLen at hc2
      obtain ⟨g, rfl, hg1, hg2, hg3, hg4⟩ := own_at hz.own i hi
      have c1 : w.cell? ⟨A, 1, none⟩ = some (.slice (some ⟨g, 0, none⟩) z.xs.length cap) := (hz.blk.cell 1).trans rfl
      have hx : z.xs[i]? = some (z.xs.getD i (.string ⟨#[]⟩)) := by simp [List.getD, List.getElem?_eq_getElem hi]
      rw [hx] at hg3
      have Hz := Lib.hid hz
      clear hz hf hE hV hh hx hg1 hg2 hg4
      have hl : (z.xs.length : Int) ≤ 64 := Int.le_trans Hok.out.len Hok.out.size.2
      generalize z.xs.getD i (.string ⟨#[]⟩) = X at *
      go_enter Try.func24, Try.ntmps24
      go_wp2_with fail
      refine (zholS (i : Int) Hz.out).mono ?_
      rintro e w' ⟨rfl, rfl⟩
      rw [Hh.out]
      go_wp2_with fail
      go_ret2
      exact ⟨rfl, rfl⟩
set_option maxRecDepth 100000 in
set_option maxHeartbeats 2000000 in
theorem zrsS {lo A : Nat} {v : Value} {z : ZoR} {w : World} (hz : ZAt 71 9 lo w A v z) : Calls Try.prog 26 #[.pointer (some ⟨A, 0, none⟩)] w fun e w' => e = .returned (.int .i64 (refI z)) ∧ ZTo 71 9 lo w A v (rsZ z) w' := by
  have Hz := Lib.hid hz
  clear hz
  by_cases h1 : refI z = 0
  · have hZ : rsZ z = zo0 z.size := by unfold rsZ; rw [if_pos h1]
    rw [hZ, h1]
    have H1 := Lib.hid h1
    have c0 : w.cell? ⟨A, 0, none⟩ = some (.int .i64 z.size) := (Hz.out.blk.cell 0).trans rfl
    have Hb := Lib.hid Hz.out.blk
    clear h1 hZ
    go_enter Try.func26, Try.ntmps26
    go_wp2_with fail
    refine (zrefS Hz.out).mono ?_
    rintro e w' ⟨rfl, rfl⟩
    rw [H1.out]
    go_wp2_with (first | (refine wpl_build (by rfl) _ _ rfl (.agg (zoA (zo0 z.size) (.slice none 0 0))) (fun w => by kernel_rfl) ?_; go_frame) | (refine wpl_store rfl _ _ rfl A (zoA (zo0 z.size) (.slice none 0 0)) rfl rfl _ _ Hb.out Try.infoZS rfl (zoA_one _ _ _ _) ?_; intro w1 hS1 hK1; have HS1 := Lib.hid hS1; have HK1 := Lib.hid hK1; clear hS1 hK1; go_frame))
    go_ret
    exact ⟨rfl, .slice none 0 0, ⟨HS1.out, own_nil _ _ _, Hz.out.le⟩, zf_at HK1.out, fun g h => by simp [Value.ownBlock] at h⟩
  · have hZ : rsZ z = z := by unfold rsZ; rw [if_neg h1]
    rw [hZ]
    have h1' : (refI z != 0) = true := by simpa using h1
    clear h1 hZ
    go_enter Try.func26, Try.ntmps26
    go_wp2_with fail
    refine (zrefS Hz.out).mono ?_
    rintro e w' ⟨rfl, rfl⟩
    go_wp2_with fail
    go_ret
    exact ⟨rfl, ZTo.same Hz.out (Below.refl _ _)⟩
end Go.Proofs.Ytflcfhjpmajggaa
