/-
  The document's zone (layer 6): failed, Read, Append, Reset, Finish, Flush, Fail.
-/
import Derived.Test.YtflcfhjpmajggaaZoneB
namespace Go.Proofs.Ytflcfhjpmajggaa
open Go.RowKit
set_option linter.unusedVariables false
set_option linter.unnecessarySimpa false
set_option linter.unusedSimpArgs false

theorem Try.infoRf : (Try.prog.info? 30).map (·.size) = some 5 := by kernel_rfl
/-- What the document's calls tell and leave. -/
def rfF (r : RfR) : Int := if r.state = 4 then 32 else if r.state = 3 then 30 else 0
def raE (r : RfR) : Int := if rfF r ≠ 0 then rfF r else if r.state = 2 then 17 else 0
def raO (r : RfR) : Int := if raE r = 0 then (r.zs.length : Int) else 0
def raR (r : RfR) (x : Int) : RfR := if raE r = 0 then { r with zs := r.zs ++ [x], state := if ((r.zs.length + 1 : Nat) : Int) = r.size then 2 else 1 } else r
def rhB (r : RfR) (off : Int) : Bool := decide (0 ≤ off) && decide (off < (r.zs.length : Int))
def rrE (r : RfR) (off : Int) : Int := if r.state = 4 then 32 else if rhB r off = true then 0 else 31
def rrV (r : RfR) (off : Int) : Int := if rrE r off = 0 then r.zs.getD off.toNat 0 else 0
def rsR (r : RfR) : RfR := if rfF r = 0 then rf0 r.size else r
def rnR (r : RfR) : RfR := if rfF r = 0 then { r with state := 2, fin := true } else r
def rlR (r : RfR) : RfR := { r with safe := (r.zs.length : Int) }
def rfR (r : RfR) (st : Int) : RfR := if st = 4 ∨ st = 3 ∧ r.state ≠ 4 then { r with state := st } else r

set_option maxRecDepth 100000 in
set_option maxHeartbeats 2000000 in
theorem rfail (r : RfR) (u : Value) (w : World) : Calls Try.prog 43 #[.agg (rfA r u)] w fun e w' => e = .returned (.int .i64 (rfF r)) ∧ Below w.heap.size w w' := by
  have c3 : (w.alloc (Obj.cells (rfA r u) 30)).cell? ⟨w.heap.size, 3, none⟩ = some (.int .i64 r.state) := ((Blk.new w 30 (rfA r u)).cell 3).trans rfl
  have hb := Lib.hid (below_alloc w (Obj.cells (rfA r u) 30))
  go_enter Try.func43, Try.ntmps43
  go_upto_region 1 with fail
  generalize w.alloc (Obj.cells (rfA r u) 30) = w1 at *
  go_wp2
  all_goals
    go_ret
    exact ⟨ret_int (by unfold rfF; simp_all), hb.out⟩

set_option maxRecDepth 100000 in
set_option maxHeartbeats 2000000 in
theorem rrd {lo : Nat} {u : Value} {r : RfR} {w : World} (off : Int) (hu : w.ownsRow lo 3 1 u r.zs.length (ivals r.zs)) (hok : ROk r) : Calls Try.prog 29 #[.agg (rfA r u), .int .i64 off] w fun e w' => e = .returned (.tuple #[.int .i64 (rrV r off), .int .i64 (rrE r off)]) ∧ Below w.heap.size w w' := by
  obtain ⟨a, cap, rfl⟩ := own_slice hu
  obtain ⟨_, k1, k2⟩ := own_cap hu
  unfold maxLen at k2
  have hB := Blk.new w 30 (rfA r (.slice a r.zs.length cap))
  have c3 : (w.alloc (Obj.cells (rfA r (.slice a r.zs.length cap)) 30)).cell? ⟨w.heap.size, 3, none⟩ = some (.int .i64 r.state) := (hB.cell 3).trans rfl
  have c0 : (w.alloc (Obj.cells (rfA r (.slice a r.zs.length cap)) 30)).cell? ⟨w.heap.size, 0, none⟩ = some (.slice a r.zs.length cap) := (hB.cell 0).trans rfl
  have hu1 := own_below hu (below_alloc w (Obj.cells (rfA r (.slice a r.zs.length cap)) 30))
  have hb := Lib.hid (below_alloc w (Obj.cells (rfA r (.slice a r.zs.length cap)) 30))
  have hl : (r.zs.length : Int) ≤ 64 := by have := hok.len; omega
  clear hB hu hok
  generalize hw1 : w.alloc (Obj.cells (rfA r (.slice a r.zs.length cap)) 30) = w1 at *
  by_cases hf : r.state = 4
  · have hE : rrE r off = 32 := by unfold rrE; rw [if_pos hf]
    have hV : rrV r off = 0 := by unfold rrV; rw [hE]; rfl
    rw [hE, hV]
    rw [hf] at c3
    clear hf hE hV hu1
    go_enter Try.func29, Try.ntmps29
    go_upto_region 1 with fail
    clear hw1
    go_wp2_with fail
    go_ret2
    exact ⟨rfl, hb.out⟩
  · have hd : (r.state == 4) = false := by simpa using hf
    by_cases h0 : 0 ≤ off
    · by_cases h1 : off < (r.zs.length : Int)
      · obtain ⟨i, rfl⟩ := Int.eq_ofNat_of_zero_le h0
        have hi : i < r.zs.length := by omega
        have hE : rrE r (i : Int) = 0 := by unfold rrE rhB; rw [if_neg hf, if_pos (by simp [hi])]
        have hV : rrV r (i : Int) = r.zs.getD i 0 := by unfold rrV; rw [hE, Int.toNat_natCast]; rfl
        rw [hE, hV]
        obtain ⟨g, rfl, _, _, hg3, _⟩ := own_at hu1 i hi
        rw [ivals_at r.zs i hi] at hg3
        generalize r.zs.getD i 0 = Y at *
        clear hf hE hV hu1
        go_enter Try.func29, Try.ntmps29
        go_upto_region 1 with fail
        clear hw1
        go_wp2_with fail
        go_ret2
        exact ⟨rfl, hb.out⟩
      · have hE : rrE r off = 31 := by unfold rrE rhB; rw [if_neg hf, if_neg (by simp [h1])]
        have hV : rrV r off = 0 := by unfold rrV; rw [hE]; rfl
        rw [hE, hV]
        have h1' : (r.zs.length : Int) ≤ off := by omega
        clear hf hE hV hu1
        go_enter Try.func29, Try.ntmps29
        go_upto_region 1 with fail
        clear hw1
        go_wp2_with fail
        go_ret2
        exact ⟨rfl, hb.out⟩
    · have hE : rrE r off = 31 := by unfold rrE rhB; rw [if_neg hf, if_neg (by simp [h0])]
      have hV : rrV r off = 0 := by unfold rrV; rw [hE]; rfl
      rw [hE, hV]
      have h0' : off < 0 := by omega
      clear hf hE hV hu1
      go_enter Try.func29, Try.ntmps29
      go_upto_region 1 with fail
      clear hw1
      go_wp2_with fail
      go_ret2
      exact ⟨rfl, hb.out⟩

set_option maxRecDepth 100000 in
set_option maxHeartbeats 2000000 in
theorem rrs {lo : Nat} {u : Value} {r : RfR} {w : World} (hu : w.ownsRow lo 3 1 u r.zs.length (ivals r.zs)) : Calls Try.prog 30 #[.agg (rfA r u)] w fun e w' => RTo 3 lo w u (rsR r) (fun x => .tuple #[x, .int .i64 (rfF r)]) e w' := by
  obtain ⟨a, cap, rfl⟩ := own_slice hu
  obtain ⟨_, k1, k2⟩ := own_cap hu
  unfold maxLen at k2
  have HS : Hid (RfS 30 3 lo w r (.slice a r.zs.length cap) rfZ ((w.alloc (Obj.cells (rfA r (.slice a r.zs.length cap)) 30)).alloc (Obj.cells #[.slice none 0 0, .int .i64 0, .int .i64 0, .int .i64 0, .bool false] 30))) := Lib.hid (RfS.start hu)
  clear hu
  by_cases h1 : rfF r = 0
  · have hZ : rsR r = rf0 r.size := by unfold rsR; rw [if_pos h1]
    rw [hZ, h1]
    have H1 := Lib.hid h1
    clear h1 hZ
    go_enter Try.func30, Try.ntmps30
    go_upto_region 1 with fail
    generalize ((w.alloc (Obj.cells (rfA r (.slice a r.zs.length cap)) 30)).alloc (Obj.cells #[.slice none 0 0, .int .i64 0, .int .i64 0, .int .i64 0, .bool false] 30)) = w0 at *
    go_wp2_with (first | (refine wpl_load rfl _ rfl (w.heap.size) rfl _ _ _ (HS.out.x) Try.underlying30 rfl Try.infoRf ?_; go_frame))
    refine (rfail r (.slice a r.zs.length cap) _).mono ?_
    rintro e w1 ⟨rfl, hb⟩
    rw [H1.out]
    have HS1 := Lib.hid (HS.out.below hb)
    have c1 : w1.cell? ⟨w.heap.size, 1, none⟩ = some (.int .i64 r.size) := (HS1.out.x.cell 1).trans rfl
    clear hb
    go_wp2_with (first | (refine wpl_build (by rfl) _ _ rfl (.agg (rfA (rf0 r.size) (.slice none 0 0))) (fun w => by kernel_rfl) ?_; go_frame) | (refine wpl_store rfl _ _ rfl (w.heap.size + 1) (rfA (rf0 r.size) (.slice none 0 0)) rfl rfl _ _ HS1.out.g Try.infoRf rfl (rfA_one _ _ _ _) ?_; intro w2 hSg hKg; have HSg := Lib.hid hSg; have HKg := Lib.hid hKg; clear hSg hKg; go_frame))
    exact bodyPost_ret (v := .tuple #[.agg (rfA (rf0 r.size) (.slice none 0 0)), .int .i64 0]) (results_cell_slot Try.results30 _ _ (w.heap.size + 1) 30 _ _ _ rfl rfl HSg.out Try.underlying30 rfl Try.infoRf) rfl ⟨_, rfl, own_nil _ _ _, fun g h => by simp [Value.ownBlock] at h, (HS1.out.out (by decide) HSg.out HKg.out).b⟩
  · have hZ : rsR r = r := by unfold rsR; rw [if_neg h1]
    rw [hZ]
    have h1' : (rfF r != 0) = true := by simpa using h1
    clear h1 hZ
    go_enter Try.func30, Try.ntmps30
    go_upto_region 1 with fail
    generalize ((w.alloc (Obj.cells (rfA r (.slice a r.zs.length cap)) 30)).alloc (Obj.cells #[.slice none 0 0, .int .i64 0, .int .i64 0, .int .i64 0, .bool false] 30)) = w0 at *
    go_wp2_with (first | (refine wpl_load rfl _ rfl (w.heap.size) rfl _ _ _ (HS.out.x) Try.underlying30 rfl Try.infoRf ?_; go_frame))
    refine (rfail r (.slice a r.zs.length cap) _).mono ?_
    rintro e w1 ⟨rfl, hb⟩
    have HS1 := Lib.hid (HS.out.below hb)
    clear hb
    go_upto_region 2 with fail
    have Hx := Lib.hid HS1.out.x
    have Hg := Lib.hid HS1.out.g
    refine wp_region_held (S := fun w' => Kept (· = w.heap.size + 1) w1 w') (by kernel_rfl) ?_
    change wpAnyH _ _ _ _ _ _ _ _ (World.drew _)
    have hS : Kept (· = w.heap.size + 1) w1 w1.drew := (Kept.refl _ _).drew
    have hB0 : Below w1.heap.size w1 w1.drew := (Below.refl _ _).drew
    refine takeH hS (i := 0) (d := 7) (v := .agg (rfA r (.slice a r.zs.length cap))) rfl rfl (by kernel_rfl) (by kernel_rfl) (by kernel_rfl) (fun _ _ _ h => h) (Or.inl ⟨by kernel_rfl, fun w' hw' => by exact exec_load _ rfl (w.heap.size) rfl (Hx.out.kept hw' (by omega)) Try.underlying30 rfl (Try.infoRf)⟩) ?_
    refine takeH hS (i := 1) (d := 8) (v := .agg (rfA r (.slice a r.zs.length cap))) rfl rfl (by kernel_rfl) (by kernel_rfl) (by kernel_rfl) (fun _ _ _ h => h) (Or.inl ⟨by kernel_rfl, fun w' hw' => by exact exec_load _ rfl (w.heap.size) rfl (Hx.out.kept hw' (by omega)) Try.underlying30 rfl (Try.infoRf)⟩) ?_
    try go_frame
    refine nextH (i := 2) rfl (by kernel_rfl) (by kernel_rfl) (fun K' hK => ?_)
    go_wp2_with fail
    refine (rfail r (.slice a r.zs.length cap) _).mono ?_
    rintro en w1c1 ⟨rfl, hb⟩
    have hS1 : Kept (· = w.heap.size + 1) w1 w1c1 := kept_next hS hb
    have hB1 : Below w1.heap.size w1 w1c1 := bel_next hB0 hb
    refine hK.out _ _ ⟨hS1, ?_⟩
    clear hK K' hb hS hB0
    refine nextH (i := 3) rfl (by kernel_rfl) (by kernel_rfl) (fun K' hK => ?_)
    refine wpo_store _ _ rfl (w.heap.size + 1) (rfA r (.slice a r.zs.length cap)) rfl rfl _ _ (Hg.out.below hB1 Hg.out.lt) (Try.infoRf) (rfl) (rfA_one _ _ _ _) ?_
    intro w1s2 hP2 hq
    have hS2 : Kept (· = w.heap.size + 1) w1 w1s2 := hS1.trans hq
    refine hK.out _ _ ⟨hS2, ?_⟩
    clear hK K' hq hS1
    try go_frame
    refine takeH hS2 (i := 4) (d := 3) (v := .int .i64 (rfF r)) rfl rfl (by kernel_rfl) (by kernel_rfl) (by kernel_rfl) (fun _ _ _ h => h) (Or.inl ⟨by kernel_rfl, fun w' hw' => by kernel_rfl⟩) ?_
    refine wpAnyH_done (by kernel_rfl) ?_ _
    try go_frame
    have HF := Lib.hid (HS1.out.out (by decide) hP2 hS2)
    clear hS2 hP2
    go_wp2_with fail
    exact bodyPost_ret (v := .tuple #[.agg (rfA r (.slice a r.zs.length cap)), .int .i64 (rfF r)]) (results_cell_slot Try.results30 _ _ (w.heap.size + 1) 30 _ _ _ rfl rfl HF.out.g Try.underlying30 rfl Try.infoRf) rfl ⟨_, rfl, HF.out.own, fun _ h => .inl h, HF.out.b⟩

set_option maxRecDepth 100000 in
set_option maxHeartbeats 2000000 in
theorem rfn {lo : Nat} {u : Value} {r : RfR} {w : World} (hu : w.ownsRow lo 3 1 u r.zs.length (ivals r.zs)) : Calls Try.prog 31 #[.agg (rfA r u)] w fun e w' => RTo 3 lo w u (rnR r) (fun x => .tuple #[x, .int .i64 (rfF r)]) e w' := by
  obtain ⟨a, cap, rfl⟩ := own_slice hu
  obtain ⟨_, k1, k2⟩ := own_cap hu
  unfold maxLen at k2
  have HS : Hid (RfS 30 3 lo w r (.slice a r.zs.length cap) rfZ ((w.alloc (Obj.cells (rfA r (.slice a r.zs.length cap)) 30)).alloc (Obj.cells #[.slice none 0 0, .int .i64 0, .int .i64 0, .int .i64 0, .bool false] 30))) := Lib.hid (RfS.start hu)
  clear hu
  by_cases h1 : rfF r = 0
  · have hZ : rnR r = { r with state := 2, fin := true } := by unfold rnR; rw [if_pos h1]
    rw [hZ, h1]
    have H1 := Lib.hid h1
    clear h1 hZ
    go_enter Try.func31, Try.ntmps31
    go_upto_region 1 with fail
    generalize ((w.alloc (Obj.cells (rfA r (.slice a r.zs.length cap)) 30)).alloc (Obj.cells #[.slice none 0 0, .int .i64 0, .int .i64 0, .int .i64 0, .bool false] 30)) = w0 at *
    go_wp2_with (first | (refine wpl_load rfl _ rfl (w.heap.size) rfl _ _ _ (HS.out.x) Try.underlying30 rfl Try.infoRf ?_; go_frame))
    refine (rfail r (.slice a r.zs.length cap) _).mono ?_
    rintro e w1 ⟨rfl, hb⟩
    rw [H1.out]
    have HS1 := Lib.hid (HS.out.below hb)
    have c3 : w1.cell? ⟨w.heap.size, 3, none⟩ = some (.int .i64 r.state) := (HS1.out.x.cell 3).trans rfl
    have f3 := HS1.out.x.frozen 3
    clear hb
    go_upto_region 4 with fail
    have HS2 := Lib.hid (HS1.out.set (r' := { r with state := 2 }) (by decide) 3 (.int .i64 2) rfl rfl)
    clear c3 f3
    generalize w1.setCell ⟨w.heap.size, 3, none⟩ (.int .i64 2) = w2 at *
    have c4 : w2.cell? ⟨w.heap.size, 4, none⟩ = some (.bool r.fin) := (HS2.out.x.cell 4).trans rfl
    have f4 := HS2.out.x.frozen 4
    go_upto_region 5 with fail
    have HS3 := Lib.hid (HS2.out.set (r' := { r with state := 2, fin := true }) (by decide) 4 (.bool true) rfl rfl)
    clear c4 f4
    generalize w2.setCell ⟨w.heap.size, 4, none⟩ (.bool true) = w3 at *
    go_wp2_with (first | (refine wpl_load rfl _ rfl (w.heap.size) rfl _ _ _ (HS3.out.x) Try.underlying30 rfl Try.infoRf ?_; go_frame) | (refine wpl_store rfl _ _ rfl (w.heap.size + 1) (rfA { r with state := 2, fin := true } (.slice a r.zs.length cap)) rfl rfl _ _ HS3.out.g Try.infoRf rfl (rfA_one _ _ _ _) ?_; intro w4 hSg hKg; have HSg := Lib.hid hSg; have HKg := Lib.hid hKg; clear hSg hKg; go_frame))
    have HF := Lib.hid (HS3.out.out (by decide) HSg.out HKg.out)
    exact bodyPost_ret (v := .tuple #[.agg (rfA { r with state := 2, fin := true } (.slice a r.zs.length cap)), .int .i64 0]) (results_cell_slot Try.results31 _ _ (w.heap.size + 1) 30 _ _ _ rfl rfl HF.out.g Try.underlying30 rfl Try.infoRf) rfl ⟨_, rfl, HF.out.own, fun _ h => .inl h, HF.out.b⟩
  · have hZ : rnR r = r := by unfold rnR; rw [if_neg h1]
    rw [hZ]
    have h1' : (rfF r != 0) = true := by simpa using h1
    clear h1 hZ
    go_enter Try.func31, Try.ntmps31
    go_upto_region 1 with fail
    generalize ((w.alloc (Obj.cells (rfA r (.slice a r.zs.length cap)) 30)).alloc (Obj.cells #[.slice none 0 0, .int .i64 0, .int .i64 0, .int .i64 0, .bool false] 30)) = w0 at *
    go_wp2_with (first | (refine wpl_load rfl _ rfl (w.heap.size) rfl _ _ _ (HS.out.x) Try.underlying30 rfl Try.infoRf ?_; go_frame))
    refine (rfail r (.slice a r.zs.length cap) _).mono ?_
    rintro e w1 ⟨rfl, hb⟩
    have HS1 := Lib.hid (HS.out.below hb)
    clear hb
    go_upto_region 2 with fail
    have Hx := Lib.hid HS1.out.x
    have Hg := Lib.hid HS1.out.g
    refine wp_region_held (S := fun w' => Kept (· = w.heap.size + 1) w1 w') (by kernel_rfl) ?_
    change wpAnyH _ _ _ _ _ _ _ _ (World.drew _)
    have hS : Kept (· = w.heap.size + 1) w1 w1.drew := (Kept.refl _ _).drew
    have hB0 : Below w1.heap.size w1 w1.drew := (Below.refl _ _).drew
    refine takeH hS (i := 0) (d := 7) (v := .agg (rfA r (.slice a r.zs.length cap))) rfl rfl (by kernel_rfl) (by kernel_rfl) (by kernel_rfl) (fun _ _ _ h => h) (Or.inl ⟨by kernel_rfl, fun w' hw' => by exact exec_load _ rfl (w.heap.size) rfl (Hx.out.kept hw' (by omega)) Try.underlying30 rfl (Try.infoRf)⟩) ?_
    refine takeH hS (i := 1) (d := 8) (v := .agg (rfA r (.slice a r.zs.length cap))) rfl rfl (by kernel_rfl) (by kernel_rfl) (by kernel_rfl) (fun _ _ _ h => h) (Or.inl ⟨by kernel_rfl, fun w' hw' => by exact exec_load _ rfl (w.heap.size) rfl (Hx.out.kept hw' (by omega)) Try.underlying30 rfl (Try.infoRf)⟩) ?_
    try go_frame
    refine nextH (i := 2) rfl (by kernel_rfl) (by kernel_rfl) (fun K' hK => ?_)
    go_wp2_with fail
    refine (rfail r (.slice a r.zs.length cap) _).mono ?_
    rintro en w1c1 ⟨rfl, hb⟩
    have hS1 : Kept (· = w.heap.size + 1) w1 w1c1 := kept_next hS hb
    have hB1 : Below w1.heap.size w1 w1c1 := bel_next hB0 hb
    refine hK.out _ _ ⟨hS1, ?_⟩
    clear hK K' hb hS hB0
    refine nextH (i := 3) rfl (by kernel_rfl) (by kernel_rfl) (fun K' hK => ?_)
    refine wpo_store _ _ rfl (w.heap.size + 1) (rfA r (.slice a r.zs.length cap)) rfl rfl _ _ (Hg.out.below hB1 Hg.out.lt) (Try.infoRf) (rfl) (rfA_one _ _ _ _) ?_
    intro w1s2 hP2 hq
    have hS2 : Kept (· = w.heap.size + 1) w1 w1s2 := hS1.trans hq
    refine hK.out _ _ ⟨hS2, ?_⟩
    clear hK K' hq hS1
    try go_frame
    refine takeH hS2 (i := 4) (d := 3) (v := .int .i64 (rfF r)) rfl rfl (by kernel_rfl) (by kernel_rfl) (by kernel_rfl) (fun _ _ _ h => h) (Or.inl ⟨by kernel_rfl, fun w' hw' => by kernel_rfl⟩) ?_
    refine wpAnyH_done (by kernel_rfl) ?_ _
    try go_frame
    have HF := Lib.hid (HS1.out.out (by decide) hP2 hS2)
    clear hS2 hP2
    go_wp2_with fail
    exact bodyPost_ret (v := .tuple #[.agg (rfA r (.slice a r.zs.length cap)), .int .i64 (rfF r)]) (results_cell_slot Try.results31 _ _ (w.heap.size + 1) 30 _ _ _ rfl rfl HF.out.g Try.underlying30 rfl Try.infoRf) rfl ⟨_, rfl, HF.out.own, fun _ h => .inl h, HF.out.b⟩

set_option maxRecDepth 100000 in
set_option maxHeartbeats 2000000 in
theorem rfl_ {lo : Nat} {u : Value} {r : RfR} {w : World} (hu : w.ownsRow lo 3 1 u r.zs.length (ivals r.zs)) : Calls Try.prog 32 #[.agg (rfA r u)] w fun e w' => RTo 3 lo w u (rlR r) (fun x => x) e w' := by
  obtain ⟨a, cap, rfl⟩ := own_slice hu
  obtain ⟨_, k1, k2⟩ := own_cap hu
  unfold maxLen at k2
  have HS : Hid (RfS 30 3 lo w r (.slice a r.zs.length cap) rfZ ((w.alloc (Obj.cells (rfA r (.slice a r.zs.length cap)) 30)).alloc (Obj.cells #[.slice none 0 0, .int .i64 0, .int .i64 0, .int .i64 0, .bool false] 30))) := Lib.hid (RfS.start hu)
  clear hu
  unfold rlR
  go_enter Try.func32, Try.ntmps32
  go_upto_region 1 with fail
  generalize ((w.alloc (Obj.cells (rfA r (.slice a r.zs.length cap)) 30)).alloc (Obj.cells #[.slice none 0 0, .int .i64 0, .int .i64 0, .int .i64 0, .bool false] 30)) = w0 at *
  have c0 : w0.cell? ⟨w.heap.size, 0, none⟩ = some (.slice a r.zs.length cap) := (HS.out.x.cell 0).trans rfl
  have c2 : w0.cell? ⟨w.heap.size, 2, none⟩ = some (.int .i64 r.safe) := (HS.out.x.cell 2).trans rfl
  have f2 := HS.out.x.frozen 2
  go_upto_region 2 with fail
  have HS2 := Lib.hid (HS.out.set (r' := { r with safe := (r.zs.length : Int) }) (by decide) 2 (.int .i64 (r.zs.length : Nat)) rfl rfl)
  clear c0 c2 f2
  generalize w0.setCell ⟨w.heap.size, 2, none⟩ (.int .i64 (r.zs.length : Nat)) = w2 at *
  go_wp2_with (first | (refine wpl_load rfl _ rfl (w.heap.size) rfl _ _ _ (HS2.out.x) Try.underlying30 rfl Try.infoRf ?_; go_frame) | (refine wpl_store rfl _ _ rfl (w.heap.size + 1) (rfA { r with safe := (r.zs.length : Int) } (.slice a r.zs.length cap)) rfl rfl _ _ HS2.out.g Try.infoRf rfl (rfA_one _ _ _ _) ?_; intro w4 hSg hKg; have HSg := Lib.hid hSg; have HKg := Lib.hid hKg; clear hSg hKg; go_frame))
  have HF := Lib.hid (HS2.out.out (by decide) HSg.out HKg.out)
  exact bodyPost_ret (v := .agg (rfA { r with safe := (r.zs.length : Int) } (.slice a r.zs.length cap))) (results_cell_row Try.results32 _ _ (w.heap.size + 1) 30 _ (0, 0) _ rfl HF.out.g Try.underlying30 rfl Try.infoRf) rfl ⟨_, rfl, HF.out.own, fun _ h => .inl h, HF.out.b⟩

set_option maxRecDepth 100000 in
set_option maxHeartbeats 2000000 in
theorem rfa {lo : Nat} {u : Value} {r : RfR} {w : World} (st : Int) (hu : w.ownsRow lo 3 1 u r.zs.length (ivals r.zs)) : Calls Try.prog 34 #[.agg (rfA r u), .int .i64 st] w fun e w' => RTo 3 lo w u (rfR r st) (fun x => x) e w' := by
  obtain ⟨a, cap, rfl⟩ := own_slice hu
  obtain ⟨_, k1, k2⟩ := own_cap hu
  unfold maxLen at k2
  have HS : Hid (RfS 30 3 lo w r (.slice a r.zs.length cap) rfZ ((w.alloc (Obj.cells (rfA r (.slice a r.zs.length cap)) 30)).alloc (Obj.cells #[.slice none 0 0, .int .i64 0, .int .i64 0, .int .i64 0, .bool false] 30))) := Lib.hid (RfS.start hu)
  clear hu
  by_cases h4 : st = 4
  · have hZ : rfR r st = { r with state := st } := by unfold rfR; rw [if_pos (.inl h4)]
    rw [hZ]
    subst h4
    clear hZ
    go_enter Try.func34, Try.ntmps34
    go_upto_region 1 with fail
    generalize ((w.alloc (Obj.cells (rfA r (.slice a r.zs.length cap)) 30)).alloc (Obj.cells #[.slice none 0 0, .int .i64 0, .int .i64 0, .int .i64 0, .bool false] 30)) = w0 at *
    have c3 : w0.cell? ⟨w.heap.size, 3, none⟩ = some (.int .i64 r.state) := (HS.out.x.cell 3).trans rfl
    have f3 := HS.out.x.frozen 3
    go_upto_region 3 with fail
    have HS2 := Lib.hid (HS.out.set (r' := { r with state := 4 }) (by decide) 3 (.int .i64 4) rfl rfl)
    clear c3 f3
    generalize w0.setCell ⟨w.heap.size, 3, none⟩ (.int .i64 4) = w2 at *
    go_wp2_with (first | (refine wpl_load rfl _ rfl (w.heap.size) rfl _ _ _ (HS2.out.x) Try.underlying30 rfl Try.infoRf ?_; go_frame) | (refine wpl_store rfl _ _ rfl (w.heap.size + 1) (rfA { r with state := 4 } (.slice a r.zs.length cap)) rfl rfl _ _ HS2.out.g Try.infoRf rfl (rfA_one _ _ _ _) ?_; intro w4 hSg hKg; have HSg := Lib.hid hSg; have HKg := Lib.hid hKg; clear hSg hKg; go_frame))
    have HF := Lib.hid (HS2.out.out (by decide) HSg.out HKg.out)
    exact bodyPost_ret (v := .agg (rfA { r with state := 4 } (.slice a r.zs.length cap))) (results_cell_row Try.results34 _ _ (w.heap.size + 1) 30 _ (0, 0) _ rfl HF.out.g Try.underlying30 rfl Try.infoRf) rfl ⟨_, rfl, HF.out.own, fun _ h => .inl h, HF.out.b⟩
  · have d4 : (st == 4) = false := by simpa using h4
    by_cases h3 : st = 3
    · by_cases hf : r.state = 4
      · have hZ : rfR r st = r := by unfold rfR; rw [if_neg (fun h => h.elim h4 (fun h => h.2 hf))]
        rw [hZ]
        subst h3
        have Hf := Lib.hid hf
        clear hZ h4 d4 hf
        go_enter Try.func34, Try.ntmps34
        go_upto_region 1 with fail
        generalize ((w.alloc (Obj.cells (rfA r (.slice a r.zs.length cap)) 30)).alloc (Obj.cells #[.slice none 0 0, .int .i64 0, .int .i64 0, .int .i64 0, .bool false] 30)) = w0 at *
        have c3 : w0.cell? ⟨w.heap.size, 3, none⟩ = some (.int .i64 r.state) := (HS.out.x.cell 3).trans rfl
        have f3 := HS.out.x.frozen 3
        rw [Hf.out] at c3
        go_wp2_with (first | (refine wpl_load rfl _ rfl (w.heap.size) rfl _ _ _ (HS.out.x) Try.underlying30 rfl Try.infoRf ?_; go_frame) | (refine wpl_store rfl _ _ rfl (w.heap.size + 1) (rfA r (.slice a r.zs.length cap)) rfl rfl _ _ HS.out.g Try.infoRf rfl (rfA_one _ _ _ _) ?_; intro w4 hSg hKg; have HSg := Lib.hid hSg; have HKg := Lib.hid hKg; clear hSg hKg; go_frame))
        have HF := Lib.hid (HS.out.out (by decide) HSg.out HKg.out)
        exact bodyPost_ret (v := .agg (rfA r (.slice a r.zs.length cap))) (results_cell_row Try.results34 _ _ (w.heap.size + 1) 30 _ (0, 0) _ rfl HF.out.g Try.underlying30 rfl Try.infoRf) rfl ⟨_, rfl, HF.out.own, fun _ h => .inl h, HF.out.b⟩
      · have hZ : rfR r st = { r with state := st } := by unfold rfR; rw [if_pos (.inr ⟨h3, hf⟩)]
        rw [hZ]
        have df : (r.state != 4) = true := by simpa using hf
        subst h3
        clear hZ h4 d4 hf
        go_enter Try.func34, Try.ntmps34
        go_upto_region 1 with fail
        generalize ((w.alloc (Obj.cells (rfA r (.slice a r.zs.length cap)) 30)).alloc (Obj.cells #[.slice none 0 0, .int .i64 0, .int .i64 0, .int .i64 0, .bool false] 30)) = w0 at *
        have c3 : w0.cell? ⟨w.heap.size, 3, none⟩ = some (.int .i64 r.state) := (HS.out.x.cell 3).trans rfl
        have f3 := HS.out.x.frozen 3
        go_upto_region 3 with fail
        have HS2 := Lib.hid (HS.out.set (r' := { r with state := 3 }) (by decide) 3 (.int .i64 3) rfl rfl)
        clear c3 f3
        generalize w0.setCell ⟨w.heap.size, 3, none⟩ (.int .i64 3) = w2 at *
        go_wp2_with (first | (refine wpl_load rfl _ rfl (w.heap.size) rfl _ _ _ (HS2.out.x) Try.underlying30 rfl Try.infoRf ?_; go_frame) | (refine wpl_store rfl _ _ rfl (w.heap.size + 1) (rfA { r with state := 3 } (.slice a r.zs.length cap)) rfl rfl _ _ HS2.out.g Try.infoRf rfl (rfA_one _ _ _ _) ?_; intro w4 hSg hKg; have HSg := Lib.hid hSg; have HKg := Lib.hid hKg; clear hSg hKg; go_frame))
        have HF := Lib.hid (HS2.out.out (by decide) HSg.out HKg.out)
        exact bodyPost_ret (v := .agg (rfA { r with state := 3 } (.slice a r.zs.length cap))) (results_cell_row Try.results34 _ _ (w.heap.size + 1) 30 _ (0, 0) _ rfl HF.out.g Try.underlying30 rfl Try.infoRf) rfl ⟨_, rfl, HF.out.own, fun _ h => .inl h, HF.out.b⟩
    · have hZ : rfR r st = r := by unfold rfR; rw [if_neg (fun h => h.elim h4 (fun h => h3 h.1))]
      rw [hZ]
      have d3 : (st == 3) = false := by simpa using h3
      clear hZ h4 h3
      go_enter Try.func34, Try.ntmps34
      go_upto_region 1 with fail
      generalize ((w.alloc (Obj.cells (rfA r (.slice a r.zs.length cap)) 30)).alloc (Obj.cells #[.slice none 0 0, .int .i64 0, .int .i64 0, .int .i64 0, .bool false] 30)) = w0 at *
      have c3 : w0.cell? ⟨w.heap.size, 3, none⟩ = some (.int .i64 r.state) := (HS.out.x.cell 3).trans rfl
      have f3 := HS.out.x.frozen 3
      go_wp2_with (first | (refine wpl_load rfl _ rfl (w.heap.size) rfl _ _ _ (HS.out.x) Try.underlying30 rfl Try.infoRf ?_; go_frame) | (refine wpl_store rfl _ _ rfl (w.heap.size + 1) (rfA r (.slice a r.zs.length cap)) rfl rfl _ _ HS.out.g Try.infoRf rfl (rfA_one _ _ _ _) ?_; intro w4 hSg hKg; have HSg := Lib.hid hSg; have HKg := Lib.hid hKg; clear hSg hKg; go_frame))
      have HF := Lib.hid (HS.out.out (by decide) HSg.out HKg.out)
      exact bodyPost_ret (v := .agg (rfA r (.slice a r.zs.length cap))) (results_cell_row Try.results34 _ _ (w.heap.size + 1) 30 _ (0, 0) _ rfl HF.out.g Try.underlying30 rfl Try.infoRf) rfl ⟨_, rfl, HF.out.own, fun _ h => .inl h, HF.out.b⟩

end Go.Proofs.Ytflcfhjpmajggaa
