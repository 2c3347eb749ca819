/-
  The document's zone (layer 6): Append, Crash, Change.
-/
import Derived.Test.YtflcfhjpmajggaaZoneE
import Derived.Test.YtflcfhjpmajggaaZoneC
namespace Go.Proofs.Ytflcfhjpmajggaa
open Go.RowKit
set_option linter.unusedVariables false
set_option linter.unnecessarySimpa false
set_option linter.unusedSimpArgs false

set_option maxRecDepth 100000 in
set_option maxHeartbeats 2000000 in
theorem rap {lo : Nat} {u : Value} {r : RfR} {w : World} (x : Int) (hu : w.ownsRow lo 3 1 u r.zs.length (ivals r.zs)) (hok : ROk r) (hlo : lo ≤ w.heap.size) : Calls Try.prog 28 #[.agg (rfA r u), .int .i64 x] w fun e w' => RTo 3 lo w u (raR r x) (fun y => .tuple #[y, .int .i64 (raO r), .int .i64 (raE r)]) e w' := by
  obtain ⟨a, cap, rfl⟩ := own_slice hu
  obtain ⟨_, k1, k2⟩ := own_cap hu
  unfold maxLen at k2
  have HS : Hid (RfS 30 3 lo w r (.slice a r.zs.length cap) rfZ ((w.alloc (Obj.cells (rfA r (.slice a r.zs.length cap)) 30)).alloc (Obj.cells #[.slice none 0 0, .int .i64 0, .int .i64 0, .int .i64 0, .bool false] 30))) := Lib.hid (RfS.start hu)
  clear hu
  by_cases h1 : rfF r = 0
  · by_cases h2 : r.state = 2
    · have hE : raE r = 17 := by unfold raE; rw [if_neg (by simpa using h1), if_pos h2]
      have hO : raO r = 0 := by unfold raO; rw [hE]; rfl
      have hZ : raR r x = r := by unfold raR; rw [hE]; rfl
      rw [hE, hO, hZ]
      have H1 := Lib.hid h1
      have H2 := Lib.hid h2
      clear h1 h2 hE hO hZ
      go_enter Try.func28, Try.ntmps28
      go_upto_region 1 with fail
      generalize ((w.alloc (Obj.cells (rfA r (.slice a r.zs.length cap)) 30)).alloc (Obj.cells #[.slice none 0 0, .int .i64 0, .int .i64 0, .int .i64 0, .bool false] 30)) = w0 at *
      go_wp2_with (first | (refine wpl_load rfl _ rfl (w.heap.size) rfl _ _ _ (HS.out.x) Try.underlying30 rfl Try.infoRf ?_; go_frame))
      refine (rfail r (.slice a r.zs.length cap) _).mono ?_
      rintro e w1 ⟨rfl, hb⟩
      rw [H1.out]
      have HS1 := Lib.hid (HS.out.below hb)
      have c3 : w1.cell? ⟨w.heap.size, 3, none⟩ = some (.int .i64 2) := (HS1.out.x.cell 3).trans (congrArg (fun t => some (Value.int .i64 t)) H2.out)
      clear hb
      go_wp2_with (first | (refine wpl_load rfl _ rfl (w.heap.size) rfl _ _ _ (HS1.out.x) Try.underlying30 rfl Try.infoRf ?_; go_frame) | (refine wpl_store rfl _ _ rfl (w.heap.size + 1) (rfA r (.slice a r.zs.length cap)) rfl rfl _ _ HS1.out.g Try.infoRf rfl (rfA_one _ _ _ _) ?_; intro w4 hSg hKg; have HSg := Lib.hid hSg; have HKg := Lib.hid hKg; clear hSg hKg; go_frame))
      have HF := Lib.hid (HS1.out.out (by decide) HSg.out HKg.out)
      exact bodyPost_ret (v := .tuple #[.agg (rfA r (.slice a r.zs.length cap)), .int .i64 0, .int .i64 17]) (results_cell_slot2 Try.results28 _ _ (w.heap.size + 1) 30 _ _ _ _ rfl rfl rfl HF.out.g Try.underlying30 rfl Try.infoRf) rfl ⟨_, rfl, HF.out.own, fun _ h => .inl h, HF.out.b⟩
    · have hE : raE r = 0 := by unfold raE; rw [if_neg (by simpa using h1), if_neg h2]
      have hO : raO r = (r.zs.length : Int) := by unfold raO; rw [hE]; rfl
      have hZ : raR r x = { r with zs := r.zs ++ [x], state := if ((r.zs.length + 1 : Nat) : Int) = r.size then 2 else 1 } := by unfold raR; rw [hE]; rfl
      rw [hE, hO, hZ]
      have H1 := Lib.hid h1
      have h2' : (r.state == 2) = false := by simpa using h2
      have hl : (r.zs.length : Int) ≤ 64 := by have := hok.len; omega
      have Hlo := Lib.hid hlo
      generalize hst : (if ((r.zs.length + 1 : Nat) : Int) = r.size then (2 : Int) else 1) = S
      have Hst := Lib.hid hst
      clear h1 h2 hE hO hZ hok hlo hst
      go_enter Try.func28, Try.ntmps28
      go_upto_region 1 with fail
      generalize ((w.alloc (Obj.cells (rfA r (.slice a r.zs.length cap)) 30)).alloc (Obj.cells #[.slice none 0 0, .int .i64 0, .int .i64 0, .int .i64 0, .bool false] 30)) = w0 at *
      go_wp2_with (first | (refine wpl_load rfl _ rfl (w.heap.size) rfl _ _ _ (HS.out.x) Try.underlying30 rfl Try.infoRf ?_; go_frame))
      refine (rfail r (.slice a r.zs.length cap) _).mono ?_
      rintro e w1 ⟨rfl, hb⟩
      rw [H1.out]
      have HS1 := Lib.hid (HS.out.below hb)
      have c3 : w1.cell? ⟨w.heap.size, 3, none⟩ = some (.int .i64 r.state) := (HS1.out.x.cell 3).trans rfl
      clear hb
      go_upto_region 6 with fail
      clear c3 h2'
      have c0 : w1.cell? ⟨w.heap.size, 0, none⟩ = some (.slice a r.zs.length cap) := (HS1.out.x.cell 0).trans rfl
      have hw1 : w.heap.size + 2 ≤ w1.heap.size := by have := HS1.out.g.lt; omega
      go_upto_region 7 with (refine wpl_appendV elI rfl (.tmp 18) (.tmp 20) rfl lo (.slice none 0 0) 0 [] rfl (own_nil _ _ _) a r.zs.length cap (ivals r.zs) rfl (ivals_length _) (own_src HS1.out.own).1 (own_src HS1.out.own).2 (ivals_one _) (by omega) (by have := Hlo.out; omega) ?_; intro v1 w2 hown hgr hv1; have HS2 := Lib.hid (HS1.out.grown hgr (fun g e => by simp [Value.ownBlock] at e)); rw [Nat.zero_add, List.nil_append] at hown; obtain ⟨a1, cp1, rfl⟩ := own_slice hown; have Hown := Lib.hid hown; have Hv1 := Lib.hid hv1; have Hgs := Lib.hid hgr.size; clear hown hgr hv1; go_frame)
      clear c0
      have HS2b := Lib.hid (HS2.out.below (below_alloc w2 (Obj.cells #[.int .i64 x] 3)))
      have HO2 := Lib.hid (own_below Hown.out (below_alloc w2 (Obj.cells #[.int .i64 x] 3)))
      have hsz : (w2.alloc (Obj.cells #[.int .i64 x] 3)).heap.size = w2.heap.size + 1 := by simp
      have Hsz := Lib.hid hsz
      have hv1 : ∀ g, (Value.slice a1 r.zs.length cp1).ownBlock = some g → g = w1.heap.size := fun g hg => by
        rcases Hv1.out with h | h
        · rw [h] at hg; simp [Value.ownBlock] at hg
        · rw [h] at hg; injection hg with hg; exact hg.symm
      have Hv2 := Lib.hid hv1
      clear hsz hv1 Hv1
      go_upto_region 8 with (refine wpl_appendV elI rfl (.tmp 22) (.tmp 24) rfl lo _ _ _ rfl HO2.out (some ⟨w2.heap.size, 0, none⟩) 1 1 [.int .i64 x] rfl rfl (fun e => by cases e) (src_one _ _ _) (by intro u hu; rcases List.mem_singleton.1 hu with rfl; rfl) (by omega) (by have := Hlo.out; have := Hgs.out; rw [Hsz.out]; omega) ?_; intro v2 w3 hown hgr hv2; have HS3 := Lib.hid (HS2b.out.grown hgr (fun g e => ⟨by have := Hv2.out g e; omega, fun e2 => by have h3 := own_lt HS1.out.own e2; have h4 := Hv2.out g e; omega⟩)); have Hfr : Hid (∀ g, v2.ownBlock = some g → (Value.slice a r.zs.length cap).ownBlock = some g ∨ w.heap.size ≤ g) := Lib.hid (fun g hg => .inr (by rcases hv2 with h | h; (rw [h] at hg; have := Hv2.out g hg; omega); (rw [h] at hg; have := Hsz.out; have := Hgs.out; injection hg with hg; omega))); obtain ⟨a2, c2, rfl⟩ := own_slice hown; have c0 : w3.cell? ⟨w.heap.size, 0, none⟩ = some (.slice a r.zs.length cap) := (HS3.out.x.cell 0).trans rfl; have f0 := HS3.out.x.frozen 0; have Hown3 := Lib.hid hown; clear hown hgr hv2; go_frame)
      have hl3 : (r.zs ++ [x]).length = r.zs.length + 1 := by simp
      have HS4 := Lib.hid (HS3.out.setL (r' := { r with zs := r.zs ++ [x] }) (by decide) (.slice a2 (r.zs.length + 1) c2) rfl (by show World.ownsRow _ _ _ _ _ (r.zs ++ [x]).length (ivals (r.zs ++ [x])); rw [hl3, ivals_append]; exact Hown3.out))
      clear c0 f0 hl3
      generalize w3.setCell ⟨w.heap.size, 0, none⟩ (.slice a2 (r.zs.length + 1) c2) = w4 at *
      have c3 : w4.cell? ⟨w.heap.size, 3, none⟩ = some (.int .i64 r.state) := (HS4.out.x.cell 3).trans rfl
      have f3 := HS4.out.x.frozen 3
      clear HS2 HS2b HS3 HO2 Hown Hown3
      go_upto_region 9 with fail
      have HS5 := Lib.hid (HS4.out.set (r' := { r with zs := r.zs ++ [x], state := 1 }) (by decide) 3 (.int .i64 1) rfl rfl)
      clear c3 f3 HS4
      generalize w4.setCell ⟨w.heap.size, 3, none⟩ (.int .i64 1) = w5 at *
      have c0 : w5.cell? ⟨w.heap.size, 0, none⟩ = some (.slice a2 (r.zs.length + 1) c2) := (HS5.out.x.cell 0).trans rfl
      have c1 : w5.cell? ⟨w.heap.size, 1, none⟩ = some (.int .i64 r.size) := (HS5.out.x.cell 1).trans rfl
      by_cases he : ((r.zs.length + 1 : Nat) : Int) = r.size
      · obtain rfl : 2 = S := (if_pos he).symm.trans Hst.out
        have hd : (((r.zs.length + 1 : Nat) : Int) == r.size) = true := by simpa using he
        have c3 : w5.cell? ⟨w.heap.size, 3, none⟩ = some (.int .i64 1) := (HS5.out.x.cell 3).trans rfl
        have f3 := HS5.out.x.frozen 3
        clear he
        go_upto_region 11 with fail
        have HS4 := Lib.hid (HS5.out.set (r' := { r with zs := r.zs ++ [x], state := 2 }) (by decide) 3 (.int .i64 2) rfl rfl)
        clear c3 f3 HS5 c0 c1 hd
        generalize w5.setCell ⟨w.heap.size, 3, none⟩ (.int .i64 2) = w4 at *
        go_upto_region 11 with fail
        have Hx := Lib.hid HS4.out.x
        have Hg := Lib.hid HS4.out.g
        refine wp_region_held (S := fun w' => Kept (· = w.heap.size + 1) w4 w') (by kernel_rfl) ?_
        change wpAnyH _ _ _ _ _ _ _ _ (World.drew _)
        have hS : Kept (· = w.heap.size + 1) w4 w4.drew := (Kept.refl _ _).drew
        have hB0 : Below w4.heap.size w4 w4.drew := (Below.refl _ _).drew
        refine takeH hS (i := 0) (d := 35) (v := .agg (rfA ({ r with zs := r.zs ++ [x], state := 2 }) (.slice a2 (r.zs.length + 1) c2))) rfl rfl (by kernel_rfl) (by kernel_rfl) (by kernel_rfl) (fun _ _ _ h => h) (Or.inl ⟨by kernel_rfl, fun w' hw' => by exact exec_load _ rfl (w.heap.size) rfl (Hx.out.kept hw' (by omega)) Try.underlying30 rfl (Try.infoRf)⟩) ?_
        refine takeH hS (i := 1) (d := 36) (v := .pointer (some ⟨w.heap.size, 0, none⟩)) rfl rfl (by kernel_rfl) (by kernel_rfl) (by kernel_rfl) (fun _ _ _ h => h) (Or.inl ⟨by kernel_rfl, fun w' hw' => by kernel_rfl⟩) ?_
        refine takeH hS (i := 2) (d := 37) (v := .slice (a2) (r.zs.length + 1) (c2)) rfl rfl (by kernel_rfl) (by kernel_rfl) (by kernel_rfl) (fun _ _ _ h => h) (Or.inl ⟨by kernel_rfl, fun w' hw' => by exact exec_cellv _ rfl ⟨w.heap.size, 0, none⟩ rfl (.slice (a2) (r.zs.length + 1) (c2)) Try.underlying28 rfl (((Hx.out.kept hw' (by omega)).cell 0).trans (rfl))⟩) ?_
        refine takeH hS (i := 3) (d := 38) (v := .int .i64 ((r.zs.length + 1 : Nat))) rfl rfl (by kernel_rfl) (by kernel_rfl) (by kernel_rfl) (fun _ _ _ h => h) (Or.inl ⟨by kernel_rfl, fun w' hw' => by exact exec_len _ rfl Try.underlying28 _ _ _ rfl⟩) ?_
        try go_frame
        refine takeH hS (i := 4) (d := 39) (v := .int .i64 ((r.zs.length : Int))) rfl rfl (by kernel_rfl) (by kernel_rfl) (by kernel_rfl) (fun _ _ _ h => h) (Or.inl ⟨by kernel_rfl, fun w' hw' => by exact exec_sub _ _ rfl ((r.zs.length + 1 : Nat)) (1) ((r.zs.length : Int)) rfl rfl (by omega) (by omega)⟩) ?_
        try go_frame
        refine nextH (i := 5) rfl (by kernel_rfl) (by kernel_rfl) (fun K' hK => ?_)
        refine wpo_store _ _ rfl (w.heap.size + 1) (rfA ({ r with zs := r.zs ++ [x], state := 2 }) (.slice a2 (r.zs.length + 1) c2)) rfl rfl _ _ (Hg.out.below hB0 Hg.out.lt) (Try.infoRf) (rfl) (rfA_one _ _ _ _) ?_
        intro w4s1 hP1 hq
        have hS1 : Kept (· = w.heap.size + 1) w4 w4s1 := hS.trans hq
        refine hK.out _ _ ⟨hS1, ?_⟩
        clear hK K' hq hS
        try go_frame
        refine takeH hS1 (i := 6) (d := 5) (v := .int .i64 ((r.zs.length : Int))) rfl rfl (by kernel_rfl) (by kernel_rfl) (by kernel_rfl) (fun _ _ _ h => h) (Or.inl ⟨by kernel_rfl, fun w' hw' => by kernel_rfl⟩) ?_
        refine takeH hS1 (i := 7) (d := 6) (v := .int .i64 (0)) rfl rfl (by kernel_rfl) (by kernel_rfl) (by kernel_rfl) (fun _ _ _ h => h) (Or.inl ⟨by kernel_rfl, fun w' hw' => by kernel_rfl⟩) ?_
        refine wpAnyH_done (by kernel_rfl) ?_ _
        try go_frame
        have HF := Lib.hid (HS4.out.out (by decide) hP1 hS1)
        clear hS1 hP1
        go_wp2_with fail
        exact bodyPost_ret (v := .tuple #[.agg (rfA ({ r with zs := r.zs ++ [x], state := 2 }) (.slice a2 (r.zs.length + 1) c2)), .int .i64 (r.zs.length : Int), .int .i64 0]) (results_cell_slot2 Try.results28 _ _ (w.heap.size + 1) 30 _ _ _ _ rfl rfl rfl HF.out.g Try.underlying30 rfl Try.infoRf) rfl ⟨_, rfl, HF.out.own, Hfr.out, HF.out.b⟩
      · obtain rfl : 1 = S := (if_neg he).symm.trans Hst.out
        have hd : (((r.zs.length + 1 : Nat) : Int) == r.size) = false := by simpa using he
        clear he
        go_upto_region 11 with fail
        have HS4 := HS5
        clear c0 c1 hd HS5
        generalize w5 = w4 at *
        go_upto_region 11 with fail
        have Hx := Lib.hid HS4.out.x
        have Hg := Lib.hid HS4.out.g
        refine wp_region_held (S := fun w' => Kept (· = w.heap.size + 1) w4 w') (by kernel_rfl) ?_
        change wpAnyH _ _ _ _ _ _ _ _ (World.drew _)
        have hS : Kept (· = w.heap.size + 1) w4 w4.drew := (Kept.refl _ _).drew
        have hB0 : Below w4.heap.size w4 w4.drew := (Below.refl _ _).drew
        refine takeH hS (i := 0) (d := 35) (v := .agg (rfA ({ r with zs := r.zs ++ [x], state := 1 }) (.slice a2 (r.zs.length + 1) c2))) rfl rfl (by kernel_rfl) (by kernel_rfl) (by kernel_rfl) (fun _ _ _ h => h) (Or.inl ⟨by kernel_rfl, fun w' hw' => by exact exec_load _ rfl (w.heap.size) rfl (Hx.out.kept hw' (by omega)) Try.underlying30 rfl (Try.infoRf)⟩) ?_
        refine takeH hS (i := 1) (d := 36) (v := .pointer (some ⟨w.heap.size, 0, none⟩)) rfl rfl (by kernel_rfl) (by kernel_rfl) (by kernel_rfl) (fun _ _ _ h => h) (Or.inl ⟨by kernel_rfl, fun w' hw' => by kernel_rfl⟩) ?_
        refine takeH hS (i := 2) (d := 37) (v := .slice (a2) (r.zs.length + 1) (c2)) rfl rfl (by kernel_rfl) (by kernel_rfl) (by kernel_rfl) (fun _ _ _ h => h) (Or.inl ⟨by kernel_rfl, fun w' hw' => by exact exec_cellv _ rfl ⟨w.heap.size, 0, none⟩ rfl (.slice (a2) (r.zs.length + 1) (c2)) Try.underlying28 rfl (((Hx.out.kept hw' (by omega)).cell 0).trans (rfl))⟩) ?_
        refine takeH hS (i := 3) (d := 38) (v := .int .i64 ((r.zs.length + 1 : Nat))) rfl rfl (by kernel_rfl) (by kernel_rfl) (by kernel_rfl) (fun _ _ _ h => h) (Or.inl ⟨by kernel_rfl, fun w' hw' => by exact exec_len _ rfl Try.underlying28 _ _ _ rfl⟩) ?_
        try go_frame
        refine takeH hS (i := 4) (d := 39) (v := .int .i64 ((r.zs.length : Int))) rfl rfl (by kernel_rfl) (by kernel_rfl) (by kernel_rfl) (fun _ _ _ h => h) (Or.inl ⟨by kernel_rfl, fun w' hw' => by exact exec_sub _ _ rfl ((r.zs.length + 1 : Nat)) (1) ((r.zs.length : Int)) rfl rfl (by omega) (by omega)⟩) ?_
        try go_frame
        refine nextH (i := 5) rfl (by kernel_rfl) (by kernel_rfl) (fun K' hK => ?_)
        refine wpo_store _ _ rfl (w.heap.size + 1) (rfA ({ r with zs := r.zs ++ [x], state := 1 }) (.slice a2 (r.zs.length + 1) c2)) rfl rfl _ _ (Hg.out.below hB0 Hg.out.lt) (Try.infoRf) (rfl) (rfA_one _ _ _ _) ?_
        intro w4s1 hP1 hq
        have hS1 : Kept (· = w.heap.size + 1) w4 w4s1 := hS.trans hq
        refine hK.out _ _ ⟨hS1, ?_⟩
        clear hK K' hq hS
        try go_frame
        refine takeH hS1 (i := 6) (d := 5) (v := .int .i64 ((r.zs.length : Int))) rfl rfl (by kernel_rfl) (by kernel_rfl) (by kernel_rfl) (fun _ _ _ h => h) (Or.inl ⟨by kernel_rfl, fun w' hw' => by kernel_rfl⟩) ?_
        refine takeH hS1 (i := 7) (d := 6) (v := .int .i64 (0)) rfl rfl (by kernel_rfl) (by kernel_rfl) (by kernel_rfl) (fun _ _ _ h => h) (Or.inl ⟨by kernel_rfl, fun w' hw' => by kernel_rfl⟩) ?_
        refine wpAnyH_done (by kernel_rfl) ?_ _
        try go_frame
        have HF := Lib.hid (HS4.out.out (by decide) hP1 hS1)
        clear hS1 hP1
        go_wp2_with fail
        exact bodyPost_ret (v := .tuple #[.agg (rfA ({ r with zs := r.zs ++ [x], state := 1 }) (.slice a2 (r.zs.length + 1) c2)), .int .i64 (r.zs.length : Int), .int .i64 0]) (results_cell_slot2 Try.results28 _ _ (w.heap.size + 1) 30 _ _ _ _ rfl rfl rfl HF.out.g Try.underlying30 rfl Try.infoRf) rfl ⟨_, rfl, HF.out.own, Hfr.out, HF.out.b⟩
  · have hE : raE r = rfF r := by unfold raE; rw [if_pos (by simpa using h1)]
    have hO : raO r = 0 := by unfold raO; rw [if_neg (by rw [hE]; exact h1)]
    have hZ : raR r x = r := by unfold raR; rw [if_neg (by rw [hE]; exact h1)]
    rw [hE, hO, hZ]
    have h1' : (rfF r != 0) = true := by simpa using h1
    clear h1 hE hO hZ
    go_enter Try.func28, Try.ntmps28
    go_upto_region 1 with fail
    generalize ((w.alloc (Obj.cells (rfA r (.slice a r.zs.length cap)) 30)).alloc (Obj.cells #[.slice none 0 0, .int .i64 0, .int .i64 0, .int .i64 0, .bool false] 30)) = w0 at *
    go_wp2_with (first | (refine wpl_load rfl _ rfl (w.heap.size) rfl _ _ _ (HS.out.x) Try.underlying30 rfl Try.infoRf ?_; go_frame))
    refine (rfail r (.slice a r.zs.length cap) _).mono ?_
    rintro e w1 ⟨rfl, hb⟩
    have HS1 := Lib.hid (HS.out.below hb)
    clear hb
    go_upto_region 2 with fail
    have Hx := Lib.hid HS1.out.x
    have Hg := Lib.hid HS1.out.g
    refine wp_region_held (S := fun w' => Kept (· = w.heap.size + 1) w1 w') (by kernel_rfl) ?_
    change wpAnyH _ _ _ _ _ _ _ _ (World.drew _)
    have hS : Kept (· = w.heap.size + 1) w1 w1.drew := (Kept.refl _ _).drew
    have hB0 : Below w1.heap.size w1 w1.drew := (Below.refl _ _).drew
    refine takeH hS (i := 0) (d := 11) (v := .agg (rfA r (.slice a r.zs.length cap))) rfl rfl (by kernel_rfl) (by kernel_rfl) (by kernel_rfl) (fun _ _ _ h => h) (Or.inl ⟨by kernel_rfl, fun w' hw' => by exact exec_load _ rfl (w.heap.size) rfl (Hx.out.kept hw' (by omega)) Try.underlying30 rfl (Try.infoRf)⟩) ?_
    refine takeH hS (i := 1) (d := 12) (v := .agg (rfA r (.slice a r.zs.length cap))) rfl rfl (by kernel_rfl) (by kernel_rfl) (by kernel_rfl) (fun _ _ _ h => h) (Or.inl ⟨by kernel_rfl, fun w' hw' => by exact exec_load _ rfl (w.heap.size) rfl (Hx.out.kept hw' (by omega)) Try.underlying30 rfl (Try.infoRf)⟩) ?_
    try go_frame
    refine nextH (i := 2) rfl (by kernel_rfl) (by kernel_rfl) (fun K' hK => ?_)
    go_wp2_with fail
    refine (rfail r (.slice a r.zs.length cap) _).mono ?_
    rintro en w1c1 ⟨rfl, hb⟩
    have hS1 : Kept (· = w.heap.size + 1) w1 w1c1 := kept_next hS hb
    have hB1 : Below w1.heap.size w1 w1c1 := bel_next hB0 hb
    refine hK.out _ _ ⟨hS1, ?_⟩
    clear hK K' hb hS hB0
    refine nextH (i := 3) rfl (by kernel_rfl) (by kernel_rfl) (fun K' hK => ?_)
    refine wpo_store _ _ rfl (w.heap.size + 1) (rfA r (.slice a r.zs.length cap)) rfl rfl _ _ (Hg.out.below hB1 Hg.out.lt) (Try.infoRf) (rfl) (rfA_one _ _ _ _) ?_
    intro w1s2 hP2 hq
    have hS2 : Kept (· = w.heap.size + 1) w1 w1s2 := hS1.trans hq
    refine hK.out _ _ ⟨hS2, ?_⟩
    clear hK K' hq hS1
    try go_frame
    refine takeH hS2 (i := 4) (d := 5) (v := .int .i64 (0)) rfl rfl (by kernel_rfl) (by kernel_rfl) (by kernel_rfl) (fun _ _ _ h => h) (Or.inl ⟨by kernel_rfl, fun w' hw' => by kernel_rfl⟩) ?_
    refine takeH hS2 (i := 5) (d := 6) (v := .int .i64 (rfF r)) rfl rfl (by kernel_rfl) (by kernel_rfl) (by kernel_rfl) (fun _ _ _ h => h) (Or.inl ⟨by kernel_rfl, fun w' hw' => by kernel_rfl⟩) ?_
    refine wpAnyH_done (by kernel_rfl) ?_ _
    try go_frame
    have HF := Lib.hid (HS1.out.out (by decide) hP2 hS2)
    clear hS2 hP2
    go_wp2_with fail
    exact bodyPost_ret (v := .tuple #[.agg (rfA r (.slice a r.zs.length cap)), .int .i64 0, .int .i64 (rfF r)]) (results_cell_slot2 Try.results28 _ _ (w.heap.size + 1) 30 _ _ _ _ rfl rfl rfl HF.out.g Try.underlying30 rfl Try.infoRf) rfl ⟨_, rfl, HF.out.own, fun _ h => .inl h, HF.out.b⟩

def rkN (r : RfR) (k : Int) : Nat := (r.safe + min (max k 0) ((r.zs.length : Int) - r.safe)).toNat
def rcS (r : RfR) (n : Nat) : Int := if r.state > 2 then r.state else if r.fin = true ∨ (n : Int) = r.size then 2 else if n = 0 then 0 else 1
def rcR (r : RfR) (k : Int) : RfR := { r with zs := r.zs.take (rkN r k), safe := (rkN r k : Int), state := rcS r (rkN r k) }
theorem rkN_bd {r : RfR} (hok : ROk r) (k : Int) : rkN r k ≤ r.zs.length ∧ ∀ j : Nat, j < r.zs.length → (((j : Int) < r.safe ∨ (j : Int) - r.safe < k) ↔ j < rkN r k) := by
  obtain ⟨h1, h2⟩ := hok.safe
  unfold rkN
  exact ⟨by omega, fun j hj => by omega⟩

set_option maxRecDepth 100000 in
set_option maxHeartbeats 2000000 in
theorem rcr {lo : Nat} {u : Value} {r : RfR} {w : World} (k : Int) (hu : w.ownsRow lo 3 1 u r.zs.length (ivals r.zs)) (hok : ROk r) (hlo : lo ≤ w.heap.size) : Calls Try.prog 33 #[.agg (rfA r u), .int .i64 k] w fun e w' => RTo 3 lo w u (rcR r k) (fun x => x) e w' := by
  have hlt : ∀ g, u.ownBlock = some g → g < w.heap.size := fun g hg => own_lt hu hg
  obtain ⟨a, cap, rfl⟩ := own_slice hu
  obtain ⟨_, k1, k2⟩ := own_cap hu
  unfold maxLen at k2
  have HS : Hid (RfS 30 3 lo w r (.slice a r.zs.length cap) rfZ ((w.alloc (Obj.cells (rfA r (.slice a r.zs.length cap)) 30)).alloc (Obj.cells #[.slice none 0 0, .int .i64 0, .int .i64 0, .int .i64 0, .bool false] 30))) := Lib.hid (RfS.start hu)
  clear hu
  obtain ⟨n1, n2⟩ := rkN_bd hok k
  obtain ⟨s1, s2⟩ := hok.safe
  have hl : (r.zs.length : Int) ≤ 64 := by have := hok.len; omega
  unfold rcR
  generalize rkN r k = n at *
  generalize hst : rcS r n = S
  unfold rcS at hst
  have Hst := Lib.hid hst
  have Hn2 := Lib.hid n2
  have Hlo := Lib.hid hlo
  have Hlt := Lib.hid hlt
  clear hst n2 hok hlo hlt
  go_enter Try.func33, Try.ntmps33
  go_upto_region 1 with fail
  generalize ((w.alloc (Obj.cells (rfA r (.slice a r.zs.length cap)) 30)).alloc (Obj.cells #[.slice none 0 0, .int .i64 0, .int .i64 0, .int .i64 0, .bool false] 30)) = w0 at *
  go_wp2_with fail
  go_loopw [5, 6] (fun v i wr => ∃ j : Nat, j ≤ r.zs.length ∧ i = .int .i64 j ∧ RfS 30 3 lo w r (.slice a r.zs.length cap) rfZ wr ∧ wr.ownsRow lo 3 1 v (min j n) (ivals (r.zs.take (min j n))) ∧ ∀ g, v.ownBlock = some g → w.heap.size + 1 < g ∧ (Value.slice a r.zs.length cap).ownBlock ≠ some g) (fun _ i _ => r.zs.length - (intOf i).toNat)
  case atStart => exact ⟨0, Nat.zero_le _, rfl, HS.out, by rw [Nat.zero_min, List.take_zero]; exact own_nil _ _ _, fun g h => by simp [Value.ownBlock] at h⟩
  case round =>
    rename_i v0 _
    obtain ⟨j, hj, rfl, hS, hv, hvb⟩ := hrel
    have c0 : wr.cell? ⟨w.heap.size, 0, none⟩ = some (.slice a r.zs.length cap) := (hS.x.cell 0).trans rfl
    have c2 : wr.cell? ⟨w.heap.size, 2, none⟩ = some (.int .i64 r.safe) := (hS.x.cell 2).trans rfl
    have HSr := Lib.hid hS
    have Hvb := Lib.hid hvb
    clear hS hvb HS
    by_cases hlt : j < r.zs.length
    · obtain ⟨m1, m2⟩ := Hn2.out j hlt
      obtain ⟨g, rfl, _, _, hg3, _⟩ := own_at HSr.out.own j hlt
      rw [ivals_at r.zs j hlt] at hg3
      have Hts := Lib.hid (take_snoc_int r.zs j hlt)
      generalize r.zs.getD j 0 = Y at *
      by_cases hjn : j < n
      · rw [show min j n = j by omega] at hv
        have Hv := Lib.hid hv
        clear hv
        by_cases hjs : (j : Int) < r.safe
        · clear m1 m2
          have HVb := Lib.hid (own_below Hv.out (below_alloc wr (Obj.cells #[.int .i64 Y] 3)))
          have HSb := Lib.hid (HSr.out.below (below_alloc wr (Obj.cells #[.int .i64 Y] 3)))
          go_wp2_with (first | (refine wpl_appendV elI rfl (.tmp 26) (.tmp 32) rfl lo u5 j (ivals (r.zs.take j)) rfl HVb.out (some ⟨wr.heap.size, 0, none⟩) 1 1 [.int .i64 Y] rfl rfl (fun e => by cases e) (src_one _ _ _) (by intro u hu; rcases List.mem_singleton.1 hu with rfl; rfl) (by omega) (by have := Hlo.out; have := HSr.out.b.size; simp; omega) ?_; intro v2 w3 hown hgr hv2; have HS3 := Lib.hid (HSb.out.grown hgr (fun G0 e => ⟨(Hvb.out G0 e).1, (Hvb.out G0 e).2⟩)); have Hv3 : Hid (∀ G0, v2.ownBlock = some G0 → w.heap.size + 1 < G0 ∧ (Value.slice (some ⟨g, 0, none⟩) r.zs.length cap).ownBlock ≠ some G0) := Lib.hid (fun G0 hg => by rcases hv2 with h | h; (rw [h] at hg; exact Hvb.out G0 hg); (rw [h] at hg; injection hg with hg; subst hg; exact ⟨HSb.out.g.lt, fun e2 => absurd (own_lt HSr.out.own e2) (by simp)⟩)); have Hown3 := Lib.hid hown; clear hown hgr hv2; go_frame))
          go_roundw
          case rel => exact ⟨j + 1, by omega, by go_num, HS3.out, by rw [show min (j + 1) n = j + 1 by omega, Hts.out, ivals_append]; exact Hown3.out, Hv3.out⟩
          case measure => simp [intOf]; omega
        · have hjk : (j : Int) - r.safe < k := by rcases m2 hjn with h | h; (exact absurd h hjs); (exact h)
          clear m1 m2
          have HVb := Lib.hid (own_below Hv.out (below_alloc wr (Obj.cells #[.int .i64 Y] 3)))
          have HSb := Lib.hid (HSr.out.below (below_alloc wr (Obj.cells #[.int .i64 Y] 3)))
          go_wp2_with (first | (refine wpl_appendV elI rfl (.tmp 26) (.tmp 32) rfl lo u5 j (ivals (r.zs.take j)) rfl HVb.out (some ⟨wr.heap.size, 0, none⟩) 1 1 [.int .i64 Y] rfl rfl (fun e => by cases e) (src_one _ _ _) (by intro u hu; rcases List.mem_singleton.1 hu with rfl; rfl) (by omega) (by have := Hlo.out; have := HSr.out.b.size; simp; omega) ?_; intro v2 w3 hown hgr hv2; have HS3 := Lib.hid (HSb.out.grown hgr (fun G0 e => ⟨(Hvb.out G0 e).1, (Hvb.out G0 e).2⟩)); have Hv3 : Hid (∀ G0, v2.ownBlock = some G0 → w.heap.size + 1 < G0 ∧ (Value.slice (some ⟨g, 0, none⟩) r.zs.length cap).ownBlock ≠ some G0) := Lib.hid (fun G0 hg => by rcases hv2 with h | h; (rw [h] at hg; exact Hvb.out G0 hg); (rw [h] at hg; injection hg with hg; subst hg; exact ⟨HSb.out.g.lt, fun e2 => absurd (own_lt HSr.out.own e2) (by simp)⟩)); have Hown3 := Lib.hid hown; clear hown hgr hv2; go_frame))
          go_roundw
          case rel => exact ⟨j + 1, by omega, by go_num, HS3.out, by rw [show min (j + 1) n = j + 1 by omega, Hts.out, ivals_append]; exact Hown3.out, Hv3.out⟩
          case measure => simp [intOf]; omega
      · have hjs : r.safe ≤ (j : Int) := by
          by_cases h : (j : Int) < r.safe
          · exact absurd (m1 (.inl h)) hjn
          · omega
        have hjk : k ≤ (j : Int) - r.safe := by
          by_cases h : (j : Int) - r.safe < k
          · exact absurd (m1 (.inr h)) hjn
          · omega
        have Hv := Lib.hid hv
        clear m1 m2 hv
        go_wp2_with fail
        go_roundw
        case rel => exact ⟨j + 1, by omega, by go_num, HSr.out, by rw [show min (j + 1) n = min j n by omega]; exact Hv.out, Hvb.out⟩
        case measure => simp [intOf]; omega
    · obtain rfl : j = r.zs.length := by omega
      rw [show min r.zs.length n = n by omega] at hv
      obtain ⟨a1, c1, rfl⟩ := own_slice hv
      have hlen : (r.zs.take n).length = n := by simp; omega
      have Hv := Lib.hid hv
      have Hlen := Lib.hid hlen
      have f0 := HSr.out.x.frozen 0
      have Hfr : Hid (∀ g, (Value.slice a1 n c1).ownBlock = some g → (Value.slice a r.zs.length cap).ownBlock = some g ∨ w.heap.size ≤ g) := Lib.hid (fun g hg => .inr (by have := (Hvb.out g hg).1; omega))
      clear hv hlen
      go_upto_region 8 with fail
      have HS1 := Lib.hid (HSr.out.setL (r' := { r with zs := r.zs.take n }) (by decide) (.slice a1 n c1) rfl (by show World.ownsRow _ _ _ _ _ (r.zs.take n).length _; rw [Hlen.out]; exact Hv.out))
      clear c0 c2 f0 HSr
      generalize wr.setCell ⟨w.heap.size, 0, none⟩ (.slice a1 n c1) = w1 at *
      have c2 : w1.cell? ⟨w.heap.size, 2, none⟩ = some (.int .i64 r.safe) := (HS1.out.x.cell 2).trans rfl
      have f2 := HS1.out.x.frozen 2
      go_upto_region 9 with fail
      have HS2 := Lib.hid (HS1.out.set (r' := { r with zs := r.zs.take n, safe := (n : Int) }) (by decide) 2 (.int .i64 (n : Nat)) rfl rfl)
      clear c2 f2 HS1
      generalize w1.setCell ⟨w.heap.size, 2, none⟩ (.int .i64 (n : Nat)) = w2 at *
      have c3 : w2.cell? ⟨w.heap.size, 3, none⟩ = some (.int .i64 r.state) := (HS2.out.x.cell 3).trans rfl
      by_cases hs2 : r.state > 2
      · obtain rfl : r.state = S := (if_pos hs2).symm.trans Hst.out
        go_wp2_with (first | (refine wpl_load rfl _ rfl (w.heap.size) rfl _ _ _ (HS2.out.x) Try.underlying30 rfl Try.infoRf ?_; go_frame) | (refine wpl_store rfl _ _ rfl (w.heap.size + 1) (rfA { r with zs := r.zs.take n, safe := (n : Int), state := r.state } (.slice a1 n c1)) rfl rfl _ _ HS2.out.g Try.infoRf rfl (rfA_one _ _ _ _) ?_; intro w9 hSg hKg; have HSg := Lib.hid hSg; have HKg := Lib.hid hKg; clear hSg hKg; go_frame))
        have HF := Lib.hid (HS2.out.out (by decide) HSg.out HKg.out)
        exact bodyPost_ret (v := .agg (rfA { r with zs := r.zs.take n, safe := (n : Int), state := r.state } (.slice a1 n c1))) (results_cell_row Try.results33 _ _ (w.heap.size + 1) 30 _ (0, 0) _ rfl HF.out.g Try.underlying30 rfl Try.infoRf) rfl ⟨_, rfl, HF.out.own, Hfr.out, HF.out.b⟩
      · have hs2' : r.state ≤ 2 := by omega
        have Hs2 := Lib.hid hs2
        have f3 := HS2.out.x.frozen 3
        clear hs2
        go_upto_region 12 with fail
        have HS3 := Lib.hid (HS2.out.set (r' := { r with zs := r.zs.take n, safe := (n : Int), state := 1 }) (by decide) 3 (.int .i64 1) rfl rfl)
        clear c3 f3 HS2
        generalize w2.setCell ⟨w.heap.size, 3, none⟩ (.int .i64 1) = w3 at *
        by_cases hn0 : n = 0
        · have Hn0 := Lib.hid hn0
          have hd0 : ((n : Int) == 0) = true := by simp [hn0]
          have c3 : w3.cell? ⟨w.heap.size, 3, none⟩ = some (.int .i64 1) := (HS3.out.x.cell 3).trans rfl
          have f3 := HS3.out.x.frozen 3
          clear hn0
          go_upto_region 14 with fail
          have HS4 := Lib.hid (HS3.out.set (r' := { r with zs := r.zs.take n, safe := (n : Int), state := 0 }) (by decide) 3 (.int .i64 0) rfl rfl)
          clear c3 f3 HS3 hd0
          generalize w3.setCell ⟨w.heap.size, 3, none⟩ (.int .i64 0) = w4 at *
          cases hf : r.fin with
          | true =>
            have Hf := Lib.hid hf
            obtain rfl : 2 = S := ((if_neg Hs2.out).trans (if_pos (.inl hf))).symm.trans Hst.out
            clear hf
            have c4 : w4.cell? ⟨w.heap.size, 4, none⟩ = some (.bool true) := (HS4.out.x.cell 4).trans (congrArg (fun t => some (Value.bool t)) Hf.out)
            have c1' : w4.cell? ⟨w.heap.size, 1, none⟩ = some (.int .i64 r.size) := (HS4.out.x.cell 1).trans rfl
            have c3 : w4.cell? ⟨w.heap.size, 3, none⟩ = some (.int .i64 0) := (HS4.out.x.cell 3).trans rfl
            have f3 := HS4.out.x.frozen 3
            go_upto_region 16 with fail
            have HS5 := Lib.hid (HS4.out.set (r' := { r with zs := r.zs.take n, safe := (n : Int), state := 2 }) (by decide) 3 (.int .i64 2) rfl rfl)
            generalize w4.setCell ⟨w.heap.size, 3, none⟩ (.int .i64 2) = w5 at *
            clear c3 f3 c4 c1' HS4
            go_wp2_with (first | (refine wpl_load rfl _ rfl (w.heap.size) rfl _ _ _ (HS5.out.x) Try.underlying30 rfl Try.infoRf ?_; go_frame) | (refine wpl_store rfl _ _ rfl (w.heap.size + 1) (rfA { r with zs := r.zs.take n, safe := (n : Int), state := 2 } (.slice a1 n c1)) rfl rfl _ _ HS5.out.g Try.infoRf rfl (rfA_one _ _ _ _) ?_; intro w9 hSg hKg; have HSg := Lib.hid hSg; have HKg := Lib.hid hKg; clear hSg hKg; go_frame))
            have HF := Lib.hid (HS5.out.out (by decide) HSg.out HKg.out)
            exact bodyPost_ret (v := .agg (rfA { r with zs := r.zs.take n, safe := (n : Int), state := 2 } (.slice a1 n c1))) (results_cell_row Try.results33 _ _ (w.heap.size + 1) 30 _ (0, 0) _ rfl HF.out.g Try.underlying30 rfl Try.infoRf) rfl ⟨_, rfl, HF.out.own, Hfr.out, HF.out.b⟩
          | false =>
            have Hf := Lib.hid hf
            clear hf
            have c4 : w4.cell? ⟨w.heap.size, 4, none⟩ = some (.bool false) := (HS4.out.x.cell 4).trans (congrArg (fun t => some (Value.bool t)) Hf.out)
            have c1' : w4.cell? ⟨w.heap.size, 1, none⟩ = some (.int .i64 r.size) := (HS4.out.x.cell 1).trans rfl
            by_cases he : (n : Int) = r.size
            · obtain rfl : 2 = S := ((if_neg Hs2.out).trans (if_pos (.inr he))).symm.trans Hst.out
              have hd : ((n : Int) == r.size) = true := by simpa using he
              clear he
              have c3 : w4.cell? ⟨w.heap.size, 3, none⟩ = some (.int .i64 0) := (HS4.out.x.cell 3).trans rfl
              have f3 := HS4.out.x.frozen 3
              go_upto_region 16 with fail
              have HS5 := Lib.hid (HS4.out.set (r' := { r with zs := r.zs.take n, safe := (n : Int), state := 2 }) (by decide) 3 (.int .i64 2) rfl rfl)
              generalize w4.setCell ⟨w.heap.size, 3, none⟩ (.int .i64 2) = w5 at *
              clear c3 f3 c4 c1' HS4
              go_wp2_with (first | (refine wpl_load rfl _ rfl (w.heap.size) rfl _ _ _ (HS5.out.x) Try.underlying30 rfl Try.infoRf ?_; go_frame) | (refine wpl_store rfl _ _ rfl (w.heap.size + 1) (rfA { r with zs := r.zs.take n, safe := (n : Int), state := 2 } (.slice a1 n c1)) rfl rfl _ _ HS5.out.g Try.infoRf rfl (rfA_one _ _ _ _) ?_; intro w9 hSg hKg; have HSg := Lib.hid hSg; have HKg := Lib.hid hKg; clear hSg hKg; go_frame))
              have HF := Lib.hid (HS5.out.out (by decide) HSg.out HKg.out)
              exact bodyPost_ret (v := .agg (rfA { r with zs := r.zs.take n, safe := (n : Int), state := 2 } (.slice a1 n c1))) (results_cell_row Try.results33 _ _ (w.heap.size + 1) 30 _ (0, 0) _ rfl HF.out.g Try.underlying30 rfl Try.infoRf) rfl ⟨_, rfl, HF.out.own, Hfr.out, HF.out.b⟩
            · obtain rfl : 0 = S := ((if_neg Hs2.out).trans ((if_neg (fun h => h.elim (fun h => by rw [Hf.out] at h; cases h) he)).trans (if_pos Hn0.out))).symm.trans Hst.out
              have hd : ((n : Int) == r.size) = false := by simpa using he
              clear he
              go_wp2_with (first | (refine wpl_load rfl _ rfl (w.heap.size) rfl _ _ _ (HS4.out.x) Try.underlying30 rfl Try.infoRf ?_; go_frame) | (refine wpl_store rfl _ _ rfl (w.heap.size + 1) (rfA { r with zs := r.zs.take n, safe := (n : Int), state := 0 } (.slice a1 n c1)) rfl rfl _ _ HS4.out.g Try.infoRf rfl (rfA_one _ _ _ _) ?_; intro w9 hSg hKg; have HSg := Lib.hid hSg; have HKg := Lib.hid hKg; clear hSg hKg; go_frame))
              have HF := Lib.hid (HS4.out.out (by decide) HSg.out HKg.out)
              exact bodyPost_ret (v := .agg (rfA { r with zs := r.zs.take n, safe := (n : Int), state := 0 } (.slice a1 n c1))) (results_cell_row Try.results33 _ _ (w.heap.size + 1) 30 _ (0, 0) _ rfl HF.out.g Try.underlying30 rfl Try.infoRf) rfl ⟨_, rfl, HF.out.own, Hfr.out, HF.out.b⟩
        · have Hn0 := Lib.hid hn0
          have hd0 : ((n : Int) == 0) = false := by simp [hn0]
          clear hn0
          go_upto_region 14 with fail
          clear hd0
          cases hf : r.fin with
          | true =>
            have Hf := Lib.hid hf
            obtain rfl : 2 = S := ((if_neg Hs2.out).trans (if_pos (.inl hf))).symm.trans Hst.out
            clear hf
            have c4 : w3.cell? ⟨w.heap.size, 4, none⟩ = some (.bool true) := (HS3.out.x.cell 4).trans (congrArg (fun t => some (Value.bool t)) Hf.out)
            have c1' : w3.cell? ⟨w.heap.size, 1, none⟩ = some (.int .i64 r.size) := (HS3.out.x.cell 1).trans rfl
            have c3 : w3.cell? ⟨w.heap.size, 3, none⟩ = some (.int .i64 1) := (HS3.out.x.cell 3).trans rfl
            have f3 := HS3.out.x.frozen 3
            go_upto_region 16 with fail
            have HS5 := Lib.hid (HS3.out.set (r' := { r with zs := r.zs.take n, safe := (n : Int), state := 2 }) (by decide) 3 (.int .i64 2) rfl rfl)
            generalize w3.setCell ⟨w.heap.size, 3, none⟩ (.int .i64 2) = w5 at *
            clear c3 f3 c4 c1' HS3
            go_wp2_with (first | (refine wpl_load rfl _ rfl (w.heap.size) rfl _ _ _ (HS5.out.x) Try.underlying30 rfl Try.infoRf ?_; go_frame) | (refine wpl_store rfl _ _ rfl (w.heap.size + 1) (rfA { r with zs := r.zs.take n, safe := (n : Int), state := 2 } (.slice a1 n c1)) rfl rfl _ _ HS5.out.g Try.infoRf rfl (rfA_one _ _ _ _) ?_; intro w9 hSg hKg; have HSg := Lib.hid hSg; have HKg := Lib.hid hKg; clear hSg hKg; go_frame))
            have HF := Lib.hid (HS5.out.out (by decide) HSg.out HKg.out)
            exact bodyPost_ret (v := .agg (rfA { r with zs := r.zs.take n, safe := (n : Int), state := 2 } (.slice a1 n c1))) (results_cell_row Try.results33 _ _ (w.heap.size + 1) 30 _ (0, 0) _ rfl HF.out.g Try.underlying30 rfl Try.infoRf) rfl ⟨_, rfl, HF.out.own, Hfr.out, HF.out.b⟩
          | false =>
            have Hf := Lib.hid hf
            clear hf
            have c4 : w3.cell? ⟨w.heap.size, 4, none⟩ = some (.bool false) := (HS3.out.x.cell 4).trans (congrArg (fun t => some (Value.bool t)) Hf.out)
            have c1' : w3.cell? ⟨w.heap.size, 1, none⟩ = some (.int .i64 r.size) := (HS3.out.x.cell 1).trans rfl
            by_cases he : (n : Int) = r.size
            · obtain rfl : 2 = S := ((if_neg Hs2.out).trans (if_pos (.inr he))).symm.trans Hst.out
              have hd : ((n : Int) == r.size) = true := by simpa using he
              clear he
              have c3 : w3.cell? ⟨w.heap.size, 3, none⟩ = some (.int .i64 1) := (HS3.out.x.cell 3).trans rfl
              have f3 := HS3.out.x.frozen 3
              go_upto_region 16 with fail
              have HS5 := Lib.hid (HS3.out.set (r' := { r with zs := r.zs.take n, safe := (n : Int), state := 2 }) (by decide) 3 (.int .i64 2) rfl rfl)
              generalize w3.setCell ⟨w.heap.size, 3, none⟩ (.int .i64 2) = w5 at *
              clear c3 f3 c4 c1' HS3
              go_wp2_with (first | (refine wpl_load rfl _ rfl (w.heap.size) rfl _ _ _ (HS5.out.x) Try.underlying30 rfl Try.infoRf ?_; go_frame) | (refine wpl_store rfl _ _ rfl (w.heap.size + 1) (rfA { r with zs := r.zs.take n, safe := (n : Int), state := 2 } (.slice a1 n c1)) rfl rfl _ _ HS5.out.g Try.infoRf rfl (rfA_one _ _ _ _) ?_; intro w9 hSg hKg; have HSg := Lib.hid hSg; have HKg := Lib.hid hKg; clear hSg hKg; go_frame))
              have HF := Lib.hid (HS5.out.out (by decide) HSg.out HKg.out)
              exact bodyPost_ret (v := .agg (rfA { r with zs := r.zs.take n, safe := (n : Int), state := 2 } (.slice a1 n c1))) (results_cell_row Try.results33 _ _ (w.heap.size + 1) 30 _ (0, 0) _ rfl HF.out.g Try.underlying30 rfl Try.infoRf) rfl ⟨_, rfl, HF.out.own, Hfr.out, HF.out.b⟩
            · obtain rfl : 1 = S := ((if_neg Hs2.out).trans ((if_neg (fun h => h.elim (fun h => by rw [Hf.out] at h; cases h) he)).trans (if_neg Hn0.out))).symm.trans Hst.out
              have hd : ((n : Int) == r.size) = false := by simpa using he
              clear he
              go_wp2_with (first | (refine wpl_load rfl _ rfl (w.heap.size) rfl _ _ _ (HS3.out.x) Try.underlying30 rfl Try.infoRf ?_; go_frame) | (refine wpl_store rfl _ _ rfl (w.heap.size + 1) (rfA { r with zs := r.zs.take n, safe := (n : Int), state := 1 } (.slice a1 n c1)) rfl rfl _ _ HS3.out.g Try.infoRf rfl (rfA_one _ _ _ _) ?_; intro w9 hSg hKg; have HSg := Lib.hid hSg; have HKg := Lib.hid hKg; clear hSg hKg; go_frame))
              have HF := Lib.hid (HS3.out.out (by decide) HSg.out HKg.out)
              exact bodyPost_ret (v := .agg (rfA { r with zs := r.zs.take n, safe := (n : Int), state := 1 } (.slice a1 n c1))) (results_cell_row Try.results33 _ _ (w.heap.size + 1) 30 _ (0, 0) _ rfl HF.out.g Try.underlying30 rfl Try.infoRf) rfl ⟨_, rfl, HF.out.own, Hfr.out, HF.out.b⟩

def rhE (r : RfR) (off : Int) : Int := if rhB r off = true then 0 else 31
def rhR (r : RfR) (off y : Int) : RfR := if rhB r off = true then { r with zs := r.zs.set off.toNat (xorI (r.zs.getD off.toNat 0) y) } else r
set_option maxRecDepth 100000 in
set_option maxHeartbeats 2000000 in
theorem rch {lo : Nat} {u : Value} {r : RfR} {w : World} (off y : Int) (hu : w.ownsRow lo 3 1 u r.zs.length (ivals r.zs)) (hok : ROk r) (hlo : lo ≤ w.heap.size) : Calls Try.prog 37 #[.agg (rfA r u), .int .i64 off, .int .i64 y] w fun e w' => RTo 3 lo w u (rhR r off y) (fun x => .tuple #[x, .int .i64 (rhE r off)]) e w' := by
  have hlt : ∀ g, u.ownBlock = some g → g < w.heap.size := fun g hg => own_lt hu hg
  obtain ⟨a, cap, rfl⟩ := own_slice hu
  obtain ⟨_, k1, k2⟩ := own_cap hu
  unfold maxLen at k2
  have HS : Hid (RfS 30 3 lo w r (.slice a r.zs.length cap) rfZ ((w.alloc (Obj.cells (rfA r (.slice a r.zs.length cap)) 30)).alloc (Obj.cells #[.slice none 0 0, .int .i64 0, .int .i64 0, .int .i64 0, .bool false] 30))) := Lib.hid (RfS.start hu)
  clear hu
  have hl : (r.zs.length : Int) ≤ 64 := by have := hok.len; omega
  have Hlo := Lib.hid hlo
  have Hlt := Lib.hid hlt
  clear hok hlo hlt
  by_cases h0 : 0 ≤ off
  · by_cases h1 : off < (r.zs.length : Int)
    · have hB : rhB r off = true := by unfold rhB; simp [h0, h1]
      have hE : rhE r off = 0 := by unfold rhE; rw [if_pos hB]
      have hR : rhR r off y = { r with zs := r.zs.set off.toNat (xorI (r.zs.getD off.toNat 0) y) } := by unfold rhR; rw [if_pos hB]
      rw [hE, hR]
      clear hB hE hR
      obtain ⟨i, rfl⟩ := Int.eq_ofNat_of_zero_le h0
      have hi : i < r.zs.length := by omega
      rw [Int.toNat_natCast]
      have HY := Lib.hid (ivals_at r.zs i hi)
      generalize r.zs.getD i 0 = Y at *
      go_enter Try.func37, Try.ntmps37
      go_upto_region 1 with fail
      generalize ((w.alloc (Obj.cells (rfA r (.slice a r.zs.length cap)) 30)).alloc (Obj.cells #[.slice none 0 0, .int .i64 0, .int .i64 0, .int .i64 0, .bool false] 30)) = w0 at *
      have c0 : w0.cell? ⟨w.heap.size, 0, none⟩ = some (.slice a r.zs.length cap) := (HS.out.x.cell 0).trans rfl
      have hw1 : w.heap.size + 2 ≤ w0.heap.size := by have := HS.out.g.lt; omega
      go_upto_region 5 with (refine wpl_appendV elI rfl (.tmp 19) (.tmp 21) rfl lo (.slice none 0 0) 0 [] rfl (own_nil _ _ _) a r.zs.length cap (ivals r.zs) rfl (ivals_length _) (own_src HS.out.own).1 (own_src HS.out.own).2 (ivals_one _) (by omega) (by have := Hlo.out; omega) ?_; intro v1 w2 hown hgr hv1; have HS2 := Lib.hid (HS.out.grown hgr (fun g e => by simp [Value.ownBlock] at e)); rw [Nat.zero_add, List.nil_append] at hown; obtain ⟨a1, c1, rfl⟩ := own_slice hown; have Hown := Lib.hid hown; have Hv1 := Lib.hid hv1; clear hown hgr hv1; go_frame)
      clear c0
      obtain ⟨g, rfl, hg1, hg2, hg3, hg4⟩ := own_at Hown.out i hi
      rw [HY.out] at hg3
      have hgw : g = w0.heap.size := by
        rcases Hv1.out with h | h
        · simp [Value.ownBlock] at h
        · simpa [Value.ownBlock] using h
      have Hgw := Lib.hid hgw
      have hc1 : r.zs.length ≤ c1 ∧ c1 ≤ 9223372036854775807 := by have := (own_cap Hown.out).2; unfold maxLen at this; exact this
      obtain ⟨hc1, hc2⟩ := hc1
      have HS3 := Lib.hid (HS2.out.far (p := ⟨g, i, none⟩) (by simp; omega) (by intro e; have := Hlt.out _ e; simp at this; omega) (.int .i64 (xorI Y y)))
      have HO3 := Lib.hid (Hown.out.stored i (.int .i64 (xorI Y y))).1
      clear Hv1 hgw hg1
      unfold xorI at HS3 HO3
      go_upto_region 6 with fail
      clear hg3 hg4
      have hx : (bits .xor .i64 Y y) = xorI Y y := rfl
      rw [hx] at HS3 HO3
      try rw [hx]
      clear hx
      generalize (w2.setCell ⟨g, i, none⟩ (.int .i64 (xorI Y y))) = w3 at *
      have c0 : w3.cell? ⟨w.heap.size, 0, none⟩ = some (.slice a r.zs.length cap) := (HS3.out.x.cell 0).trans rfl
      have f0 := HS3.out.x.frozen 0
      go_upto_region 7 with fail
      have hl4 : (r.zs.set i (xorI Y y)).length = r.zs.length := by simp
      have HS4 := Lib.hid (HS3.out.setL (r' := { r with zs := r.zs.set i (xorI Y y) }) (by decide) (.slice (some ⟨g, 0, none⟩) r.zs.length c1) rfl (by show World.ownsRow _ _ _ _ _ (r.zs.set i (xorI Y y)).length (ivals (r.zs.set i (xorI Y y))); rw [hl4, ← ivals_set]; exact HO3.out))
      clear c0 f0 hl4
      generalize w3.setCell ⟨w.heap.size, 0, none⟩ (.slice (some ⟨g, 0, none⟩) r.zs.length c1) = w4 at *
      go_wp2_with (first | (refine wpl_load rfl _ rfl (w.heap.size) rfl _ _ _ (HS4.out.x) Try.underlying30 rfl Try.infoRf ?_; go_frame) | (refine wpl_store rfl _ _ rfl (w.heap.size + 1) (rfA { r with zs := r.zs.set i (xorI Y y) } (.slice (some ⟨g, 0, none⟩) r.zs.length c1)) rfl rfl _ _ HS4.out.g Try.infoRf rfl (rfA_one _ _ _ _) ?_; intro w5 hSg hKg; have HSg := Lib.hid hSg; have HKg := Lib.hid hKg; clear hSg hKg; go_frame))
      have HF := Lib.hid (HS4.out.out (by decide) HSg.out HKg.out)
      exact bodyPost_ret (v := .tuple #[.agg (rfA { r with zs := r.zs.set i (xorI Y y) } (.slice (some ⟨g, 0, none⟩) r.zs.length c1)), .int .i64 0]) (results_cell_slot Try.results37 _ _ (w.heap.size + 1) 30 _ _ _ rfl rfl HF.out.g Try.underlying30 rfl Try.infoRf) rfl ⟨_, rfl, HF.out.own, fun k hk => .inr (by have := Hgw.out; simp [Value.ownBlock] at hk; omega), HF.out.b⟩
    · have hB : ¬ rhB r off = true := by unfold rhB; simp [h1]
      have hE : rhE r off = 31 := by unfold rhE; rw [if_neg hB]
      have hR : rhR r off y = r := by unfold rhR; rw [if_neg hB]
      rw [hE, hR]
      have h1' : (r.zs.length : Int) ≤ off := by omega
      clear hB hE hR h1
      go_enter Try.func37, Try.ntmps37
      go_upto_region 1 with fail
      generalize ((w.alloc (Obj.cells (rfA r (.slice a r.zs.length cap)) 30)).alloc (Obj.cells #[.slice none 0 0, .int .i64 0, .int .i64 0, .int .i64 0, .bool false] 30)) = w0 at *
      have c0 : w0.cell? ⟨w.heap.size, 0, none⟩ = some (.slice a r.zs.length cap) := (HS.out.x.cell 0).trans rfl
      have HT := HS
      go_wp2_with (first | (refine wpl_load rfl _ rfl (w.heap.size) rfl _ _ _ (HS.out.x) Try.underlying30 rfl Try.infoRf ?_; go_frame) | (refine wpl_store rfl _ _ rfl (w.heap.size + 1) (rfA r (.slice a r.zs.length cap)) rfl rfl _ _ HS.out.g Try.infoRf rfl (rfA_one _ _ _ _) ?_; intro w4 hSg hKg; have HSg := Lib.hid hSg; have HKg := Lib.hid hKg; clear hSg hKg; go_frame))
      have HF := Lib.hid (HS.out.out (by decide) HSg.out HKg.out)
      exact bodyPost_ret (v := .tuple #[.agg (rfA r (.slice a r.zs.length cap)), .int .i64 31]) (results_cell_slot Try.results37 _ _ (w.heap.size + 1) 30 _ _ _ rfl rfl HF.out.g Try.underlying30 rfl Try.infoRf) rfl ⟨_, rfl, HF.out.own, fun _ h => .inl h, HF.out.b⟩
  · have hB : ¬ rhB r off = true := by unfold rhB; simp [h0]
    have hE : rhE r off = 31 := by unfold rhE; rw [if_neg hB]
    have hR : rhR r off y = r := by unfold rhR; rw [if_neg hB]
    rw [hE, hR]
    have h0' : off < 0 := by omega
    clear hB hE hR h0
    go_enter Try.func37, Try.ntmps37
    go_upto_region 1 with fail
    generalize ((w.alloc (Obj.cells (rfA r (.slice a r.zs.length cap)) 30)).alloc (Obj.cells #[.slice none 0 0, .int .i64 0, .int .i64 0, .int .i64 0, .bool false] 30)) = w0 at *
    have c0 : w0.cell? ⟨w.heap.size, 0, none⟩ = some (.slice a r.zs.length cap) := (HS.out.x.cell 0).trans rfl
    have HT := HS
    go_wp2_with (first | (refine wpl_load rfl _ rfl (w.heap.size) rfl _ _ _ (HS.out.x) Try.underlying30 rfl Try.infoRf ?_; go_frame) | (refine wpl_store rfl _ _ rfl (w.heap.size + 1) (rfA r (.slice a r.zs.length cap)) rfl rfl _ _ HS.out.g Try.infoRf rfl (rfA_one _ _ _ _) ?_; intro w4 hSg hKg; have HSg := Lib.hid hSg; have HKg := Lib.hid hKg; clear hSg hKg; go_frame))
    have HF := Lib.hid (HS.out.out (by decide) HSg.out HKg.out)
    exact bodyPost_ret (v := .tuple #[.agg (rfA r (.slice a r.zs.length cap)), .int .i64 31]) (results_cell_slot Try.results37 _ _ (w.heap.size + 1) 30 _ _ _ rfl rfl HF.out.g Try.underlying30 rfl Try.infoRf) rfl ⟨_, rfl, HF.out.own, fun _ h => .inl h, HF.out.b⟩

end Go.Proofs.Ytflcfhjpmajggaa
