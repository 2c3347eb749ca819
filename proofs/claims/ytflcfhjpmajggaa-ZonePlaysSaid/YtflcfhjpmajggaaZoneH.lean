/-
  Layer 6 (zone): is a zone the document's.
-/
import Derived.Test.YtflcfhjpmajggaaZoneD
import Derived.Test.YtflcfhjpmajggaaZoneG
namespace Go.Proofs.Ytflcfhjpmajggaa
open Go.RowKit Go.Shelf
attribute [local go_sem] Oper.semAt_some
set_option linter.unusedVariables false
set_option linter.unnecessarySimpa false
set_option linter.unusedSimpArgs false

/-- What lies in memory while a zone is held against the document's: that one at block n, the result at n + 1, how many have come at n + 2. -/
structure SmI (lo A : Nat) (v : Value) (z : ZoR) (u : Value) (r : RfR) (w : World) (k : Int) (W : World) : Prop where
  X : Blk W w.heap.size 30 (rfA r u)
  T : Blk W (w.heap.size + 1) 4 #[.bool false]
  N : Blk W (w.heap.size + 2) 3 #[.int .i64 k]
  z : ZAt 56 3 lo W A v z
  own : W.ownsRow lo 3 1 u r.zs.length (ivals r.zs)
  B : Below w.heap.size w W
section
variable {lo A : Nat} {v : Value} {z : ZoR} {u : Value} {r : RfR} {w : World} {k : Int} {W W' : World}
theorem SmI.below (h : SmI lo A v z u r w k W) (hb : Below W.heap.size W W') : SmI lo A v z u r w k W' :=
  ⟨h.X.below hb h.X.lt, h.T.below hb h.T.lt, h.N.below hb h.N.lt, h.z.below hb, own_below h.own hb, bthen' h.B hb⟩
theorem SmI.set (h : SmI lo A v z u r w k W) (hz : ∀ i, ZF A v i → i < w.heap.size) (hu : ∀ g, u.ownBlock = some g → g < w.heap.size) (m : Int) : SmI lo A v z u r w m (W.setCell ⟨w.heap.size + 2, 0, none⟩ (.int .i64 m)) :=
  ⟨h.X.far (by simp) _, h.T.far (by simp) _, blk_set1 h.N _, h.z.kept ((Kept.refl (· = w.heap.size + 2) W).setCell (p := ⟨w.heap.size + 2, 0, none⟩) rfl _) (fun i hi e => by have := hz i hi; omega),
    own_same h.own (fun g hg => Below.heap_setCell _ _ _ _ (fun e => by have := hu g hg; simp at e; omega)), h.B.setCell (p := ⟨w.heap.size + 2, 0, none⟩) (by simp) _⟩
theorem SmI.ownF {B : Nat} (f : List (Nat × Int) → Int) (hB : w.heap.size ≤ B) : OwnFrom B (fun pre W => SmI lo A v z u r w (f pre) W) := fun s X Y row h hg hr =>
  ⟨Own.from (blk_own (β := List (Nat × Int)) _ _ (fun _ => rfA r u)) B s X Y row h.X hg hr, Own.from (blk_own (β := List (Nat × Int)) _ _ (fun _ => _)) B s X Y row h.T hg hr, Own.from (blk_own (β := List (Nat × Int)) _ _ (fun pre => #[.int .i64 (f pre)])) B s X Y row h.N hg hr,
    ⟨Own.from (blk_own (β := List (Nat × Int)) _ _ (fun _ => _)) B s X Y row h.z.blk hg hr, ownFrom_row (fun _ => v) (fun _ => z.xs.length) (fun _ => z.xs) s X Y row h.z.own hg hr, h.z.le⟩,
    ownFrom_row (fun _ => u) (fun _ => r.zs.length) (fun _ => ivals r.zs) s X Y row h.own hg hr, ownFrom_below (β := List (Nat × Int)) (Nat.le_refl _) hB s X Y row h.B hg hr⟩
end

set_option maxRecDepth 100000 in
set_option maxHeartbeats 4000000 in
theorem wsame {lo A : Nat} {v : Value} {z : ZoR} {u : Value} {r : RfR} {w : World} (hz : ZAt 56 3 lo w A v z) (hok : ZOk z) (hzs : z.xs = ivals r.zs) (hu : w.ownsRow lo 3 1 u r.zs.length (ivals r.zs)) (hst : stI z = r.state) (hsa : z.safe = r.safe) :
    Calls Try.prog 10 #[.pointer (some ⟨A, 0, none⟩), .agg (rfA r u)] w fun e w' => e = .returned (.bool true) ∧ Below w.heap.size w w' := by
  have hzl : ∀ i, ZF A v i → i < w.heap.size := fun i hi => hz.lt hi
  have hul : ∀ g, u.ownBlock = some g → g < w.heap.size := fun g hg => own_lt hu hg
  have hlz : z.xs.length = r.zs.length := by rw [hzs, ivals_length]
  have hl : z.xs.length ≤ 64 := by have := hok.len; have := hok.size.2; omega
  obtain ⟨a, cap, rfl⟩ := own_slice hu
  obtain ⟨_, k1, k2⟩ := own_cap hu
  unfold maxLen at k2
  have b1 := below_alloc w (Obj.cells (rfA r (.slice a r.zs.length cap)) 30)
  have b2 := bthen' b1 (below_alloc _ (Obj.cells #[.bool false] 4))
  have b3 := bthen' b2 (below_alloc _ (Obj.cells #[.int .i64 0] 3))
  have x1 := Blk.new (w.alloc (Obj.cells (rfA r (.slice a r.zs.length cap)) 30)) 4 #[.bool false]
  rw [show (w.alloc (Obj.cells (rfA r (.slice a r.zs.length cap)) 30)).heap.size = w.heap.size + 1 by simp] at x1
  have x2 := Blk.new ((w.alloc (Obj.cells (rfA r (.slice a r.zs.length cap)) 30)).alloc (Obj.cells #[.bool false] 4)) 3 #[.int .i64 0]
  rw [show ((w.alloc (Obj.cells (rfA r (.slice a r.zs.length cap)) 30)).alloc (Obj.cells #[.bool false] 4)).heap.size = w.heap.size + 2 by simp] at x2
  have HS : Hid (SmI lo A v z (.slice a r.zs.length cap) r w 0 (((w.alloc (Obj.cells (rfA r (.slice a r.zs.length cap)) 30)).alloc (Obj.cells #[.bool false] 4)).alloc (Obj.cells #[.int .i64 0] 3))) :=
    Lib.hid ⟨((Blk.new w 30 _).alloc _).alloc _, x1.alloc _, x2, hz.below b3, own_below hu b3, b3⟩
  have Hzs := Lib.hid hzs
  have Hst := Lib.hid hst
  have Hsa := Lib.hid hsa
  have Hzl := Lib.hid hzl
  have Hul := Lib.hid hul
  have Hlz := Lib.hid hlz
  clear hz hok hzs hu hst hsa hzl hul b1 b2 b3 x1 x2 hlz
  refine calls_marks Try.func10 rfl ?_
  simp only [Try.ntmps10, List.size_toArray, List.length_cons, List.length_nil, Nat.reduceAdd, Nat.reduceSub, Array.replicate_succ, Array.replicate_zero, List.push_toArray, List.append_toArray, List.nil_append, List.cons_append]
  go_upto_region 2 with fail
  generalize ((w.alloc (Obj.cells (rfA r (.slice a r.zs.length cap)) 30)).alloc (Obj.cells #[.bool false] 4)).alloc (Obj.cells #[.int .i64 0] 3) = w1 at *
  go_wp2_with fail
  refine (all_any _).mono ?_
  rintro e w2 ⟨rfl, rfl⟩
  have hB := Blk.new w1 24 #[.pointer (some ⟨A, 0, none⟩)]
  have hS := HS.out.below (below_alloc w1 (Obj.cells #[.pointer (some ⟨A, 0, none⟩)] 24))
  clear HS
  go_wp2_with fail
  generalize w1.heap.size = bp at *
  generalize w1.alloc (Obj.cells #[.pointer (some ⟨A, 0, none⟩)] 24) = V at *
  refine wp_rangeK (N := r.zs.length) (w0 := V) rfl (enters_of Try.func38 (by kernel_rfl) rfl) (all_gives 7 (by decide) V hS.z Hzs.out hl hB) (fun h k => h.trans k) (KpRow.put (fun g hg => hS.z.lt (.inr hg))) (Below.refl _ _) (fun _ => rfl)
    (fun pre W => SmI lo A v z (.slice a r.zs.length cap) r w (pre.length : Int) W) (fun c pre _ => c = .ret ∧ ¬ pre <+: numb r.zs r.zs.length) (SmI.ownF (fun pre => (pre.length : Int)) hS.B.size) (fun c => ownFrom_pure' (fun pre => c = .ret ∧ ¬ pre <+: numb r.zs r.zs.length)) (by simpa using hS) ?a1 ?assign ?body ?done ?stop
  case assign =>
    intro l x W K hK
    unfold encP
    gi_wp2
    exact hK
  case stop =>
    rintro D c pre W hD hp ⟨rfl, hn⟩ _
    exact absurd hp hn
  case body =>
    rintro l pre x W hI hpl
    have cN := blk_one hI.N
    have fN := hI.N.frozen 0
    have cT := blk_one hI.T
    have fT := hI.T.frozen 0
    have c0 : W.cell? ⟨w.heap.size, 0, none⟩ = some (.slice a r.zs.length cap) := (hI.X.cell 0).trans rfl
    obtain ⟨i, y⟩ := x
    have hl64 : (pre.length : Int) < 64 := by have := Hlz.out; omega
    have HI := Lib.hid hI
    by_cases hi : i = pre.length
    · subst hi
      obtain ⟨g, rfl, _, _, hg3, _⟩ := own_at hI.own pre.length hpl
      rw [ivals_at r.zs pre.length hpl] at hg3
      by_cases hy : y = r.zs.getD pre.length 0
      · rw [← hy] at hg3
        have HP := Lib.hid (hI.set Hzl.out Hul.out ((pre.length : Int) + 1))
        have hkp : KpRow v W (W.setCell ⟨w.heap.size + 2, 0, none⟩ (.int .i64 ((pre.length : Int) + 1))) := KpRow.set _ (fun e => absurd (Hzl.out (w.heap.size + 2) (.inr e)) (by omega))
        have HKp := Lib.hid hkp
        clear hy hI hS hB hkp
        gi_wp2
        exact ⟨KeepsOthers.setCell _ _ _, HKp.out, by show SmI _ _ _ _ _ _ _ ((pre ++ [(pre.length, y)]).length : Int) _; rw [List.length_append]; exact HP.out⟩
      · have e1 : (r.zs.getD pre.length 0 != y) = true := by simpa using fun e => hy e.symm
        have hzp : ∀ hp : pre ++ [(pre.length, y)] <+: numb r.zs r.zs.length, False := fun hp => hy (congrArg Prod.snd (numb_get hp))
        have HNp := Lib.hid hzp
        generalize r.zs.getD pre.length 0 = Y at *
        clear hy hI hS hB hzp
        gi_wp2
        exact ⟨KeepsOthers.setCell _ _ _, rfl, HNp.out⟩
    · have e1 : ((i : Int) != (pre.length : Int)) = true := by rw [bne_iff_ne]; omega
      have hzp : ∀ hp : pre ++ [(i, y)] <+: numb r.zs r.zs.length, False := fun hp => hi (congrArg Prod.fst (numb_get hp))
      have HNp := Lib.hid hzp
      clear hi hI hS hB hzp
      gi_wp2
      exact ⟨KeepsOthers.setCell _ _ _, rfl, HNp.out⟩
  case done =>
  rintro D ys W1 hD rfl hI hd
  have hI' := hI
  rw [numb_length] at hI'
  have HZ := Lib.hid hI'
  have HM := Lib.hid (Marks.cons (B := w.heap.size) (ds := []) (Marks.nil _ V) hS.B.size hD hd (Marks.nil _ W1))
  have HX := Lib.hid hI'.X
  have HT := Lib.hid hI'.T
  have HN := Lib.hid hI'.N
  clear hI hI' hd hS hB
  go_upto_region 8 with fail
  refine wp_then_only ?_
  refine wp_region_held (S := fun w' => Kept (· = w.heap.size + 1) W1 w') (by kernel_rfl) ?_
  change wpAnyH _ _ _ _ _ _ _ _ (World.drew _)
  have hS : Kept (· = w.heap.size + 1) W1 W1.drew := (Kept.refl _ _).drew
  have hB0 : Below W1.heap.size W1 W1.drew := (Below.refl _ _).drew
  refine takeH hS (i := 0) (d := 33) (v := .int .i64 ((r.zs.length : Nat))) rfl rfl (by kernel_rfl) (by kernel_rfl) (by kernel_rfl) (fun _ _ _ h => h) (Or.inl ⟨by kernel_rfl, fun w' hw' => by exact exec_cell _ rfl ⟨w.heap.size + 2, 0, none⟩ rfl _ Try.underlying3 (((HN.out.kept hw' (by omega)).cell 0).trans (rfl))⟩) ?_
  refine takeH hS (i := 1) (d := 34) (v := .pointer (some ⟨w.heap.size, 0, none⟩)) rfl rfl (by kernel_rfl) (by kernel_rfl) (by kernel_rfl) (fun _ _ _ h => h) (Or.inl ⟨by kernel_rfl, fun w' hw' => by kernel_rfl⟩) ?_
  refine takeH hS (i := 2) (d := 35) (v := .slice (a) (r.zs.length) (cap)) rfl rfl (by kernel_rfl) (by kernel_rfl) (by kernel_rfl) (fun _ _ _ h => h) (Or.inl ⟨by kernel_rfl, fun w' hw' => by exact exec_cellv _ rfl ⟨w.heap.size, 0, none⟩ rfl (.slice (a) (r.zs.length) (cap)) Try.underlying28 rfl (((HX.out.kept hw' (by omega)).cell 0).trans (rfl))⟩) ?_
  refine takeH hS (i := 3) (d := 36) (v := .int .i64 ((r.zs.length : Nat))) rfl rfl (by kernel_rfl) (by kernel_rfl) (by kernel_rfl) (fun _ _ _ h => h) (Or.inl ⟨by kernel_rfl, fun w' hw' => by exact exec_len _ rfl Try.underlying28 _ _ _ rfl⟩) ?_
  try go_frame
  refine takeH hS (i := 4) (d := 37) (v := .bool true) rfl rfl (by kernel_rfl) (by kernel_rfl) (by kernel_rfl) (fun _ _ _ h => h) (Or.inl ⟨by kernel_rfl, fun w' hw' => by exact exec_eql _ _ rfl ((r.zs.length : Nat)) ((r.zs.length : Nat)) rfl rfl true (by simp) rfl⟩) ?_
  refine takeH hS (i := 5) (d := 38) (v := .bool true) rfl rfl (by kernel_rfl) (by kernel_rfl) (by kernel_rfl) (fun _ _ _ h => h) (Or.inl ⟨by kernel_rfl, fun w' hw' => by kernel_rfl⟩) ?_
  refine takeH hS (i := 6) (d := 39) (v := .pointer (some ⟨A, 0, none⟩)) rfl rfl (by kernel_rfl) (by kernel_rfl) (by kernel_rfl) (fun _ _ _ h => h) (Or.inl ⟨by kernel_rfl, fun w' hw' => by kernel_rfl⟩) ?_
  refine takeH hS (i := 8) (d := 41) (v := .int .i64 ((r.zs.length : Nat))) rfl rfl (by kernel_rfl) (by kernel_rfl) (by kernel_rfl) (fun _ _ _ h => h) (Or.inl ⟨by kernel_rfl, fun w' hw' => by exact exec_cell _ rfl ⟨w.heap.size + 2, 0, none⟩ rfl _ Try.underlying3 (((HN.out.kept hw' (by omega)).cell 0).trans (rfl))⟩) ?_
  try go_frame
  refine nextH (i := 7) rfl (by kernel_rfl) (by kernel_rfl) (fun K' hK => ?_)
  go_wp2_with fail
  refine (zlenI (HZ.out.z.below hB0)).mono ?_
  rintro en W1c1 ⟨rfl, hb0⟩
  have hb := below_eq hb0
  clear hb0
  have hS1 : Kept (· = w.heap.size + 1) W1 W1c1 := kept_next hS hb
  have hB1 : Below W1.heap.size W1 W1c1 := bel_next hB0 hb
  refine hK.out _ _ ⟨hS1, ?_⟩
  clear hK K' hb hS hB0
  refine takeH hS1 (i := 9) (d := 42) (v := .bool true) rfl rfl (by kernel_rfl) (by kernel_rfl) (by kernel_rfl) (fun _ _ _ h => h) (Or.inl ⟨by kernel_rfl, fun w' hw' => by exact exec_eql _ _ rfl ((z.xs.length : Nat)) ((r.zs.length : Nat)) rfl rfl true (by simp [Hlz.out]) rfl⟩) ?_
  refine takeH hS1 (i := 10) (d := 43) (v := .bool true) rfl rfl (by kernel_rfl) (by kernel_rfl) (by kernel_rfl) (fun _ _ _ h => h) (Or.inl ⟨by kernel_rfl, fun w' hw' => by kernel_rfl⟩) ?_
  refine takeH hS1 (i := 11) (d := 44) (v := .bool true) rfl rfl (by kernel_rfl) (by kernel_rfl) (by kernel_rfl) (fun _ _ _ h => h) (Or.inl ⟨by kernel_rfl, fun w' hw' => by kernel_rfl⟩) ?_
  refine takeH hS1 (i := 12) (d := 45) (v := .pointer (some ⟨A, 0, none⟩)) rfl rfl (by kernel_rfl) (by kernel_rfl) (by kernel_rfl) (fun _ _ _ h => h) (Or.inl ⟨by kernel_rfl, fun w' hw' => by kernel_rfl⟩) ?_
  try go_frame
  refine takeH hS1 (i := 14) (d := 47) (v := .pointer (some ⟨w.heap.size, 3, none⟩)) rfl rfl (by kernel_rfl) (by kernel_rfl) (by kernel_rfl) (fun _ _ _ h => h) (Or.inl ⟨by kernel_rfl, fun w' hw' => by kernel_rfl⟩) ?_
  refine takeH hS1 (i := 15) (d := 48) (v := .int .i64 (r.state)) rfl rfl (by kernel_rfl) (by kernel_rfl) (by kernel_rfl) (fun _ _ _ h => h) (Or.inl ⟨by kernel_rfl, fun w' hw' => by exact exec_cell _ rfl ⟨w.heap.size, 3, none⟩ rfl _ Try.underlying3 (((HX.out.kept hw' (by omega)).cell 3).trans (rfl))⟩) ?_
  try go_frame
  refine nextH (i := 13) rfl (by kernel_rfl) (by kernel_rfl) (fun K' hK => ?_)
  go_wp2_with fail
  refine (zstI (HZ.out.z.below hB1)).mono ?_
  rintro en W1c2 ⟨rfl, hb⟩
  have hS2 : Kept (· = w.heap.size + 1) W1 W1c2 := kept_next hS1 hb
  have hB2 : Below W1.heap.size W1 W1c2 := bel_next hB1 hb
  refine hK.out _ _ ⟨hS2, ?_⟩
  clear hK K' hb hS1 hB1
  refine takeH hS2 (i := 16) (d := 49) (v := .bool true) rfl rfl (by kernel_rfl) (by kernel_rfl) (by kernel_rfl) (fun _ _ _ h => h) (Or.inl ⟨by kernel_rfl, fun w' hw' => by exact exec_eql _ _ rfl (stI z) (r.state) rfl rfl true (by simp [Hst.out]) rfl⟩) ?_
  refine takeH hS2 (i := 17) (d := 50) (v := .bool true) rfl rfl (by kernel_rfl) (by kernel_rfl) (by kernel_rfl) (fun _ _ _ h => h) (Or.inl ⟨by kernel_rfl, fun w' hw' => by kernel_rfl⟩) ?_
  refine takeH hS2 (i := 18) (d := 51) (v := .bool true) rfl rfl (by kernel_rfl) (by kernel_rfl) (by kernel_rfl) (fun _ _ _ h => h) (Or.inl ⟨by kernel_rfl, fun w' hw' => by kernel_rfl⟩) ?_
  refine takeH hS2 (i := 19) (d := 52) (v := .pointer (some ⟨A, 0, none⟩)) rfl rfl (by kernel_rfl) (by kernel_rfl) (by kernel_rfl) (fun _ _ _ h => h) (Or.inl ⟨by kernel_rfl, fun w' hw' => by kernel_rfl⟩) ?_
  try go_frame
  refine takeH hS2 (i := 21) (d := 54) (v := .pointer (some ⟨w.heap.size, 2, none⟩)) rfl rfl (by kernel_rfl) (by kernel_rfl) (by kernel_rfl) (fun _ _ _ h => h) (Or.inl ⟨by kernel_rfl, fun w' hw' => by kernel_rfl⟩) ?_
  refine takeH hS2 (i := 22) (d := 55) (v := .int .i64 (r.safe)) rfl rfl (by kernel_rfl) (by kernel_rfl) (by kernel_rfl) (fun _ _ _ h => h) (Or.inl ⟨by kernel_rfl, fun w' hw' => by exact exec_cell _ rfl ⟨w.heap.size, 2, none⟩ rfl _ Try.underlying3 (((HX.out.kept hw' (by omega)).cell 2).trans (rfl))⟩) ?_
  try go_frame
  refine nextH (i := 20) rfl (by kernel_rfl) (by kernel_rfl) (fun K' hK => ?_)
  go_wp2_with fail
  refine (zsa (HZ.out.z.below hB2)).mono ?_
  rintro en W1c3 ⟨rfl, hb0⟩
  have hb := below_eq hb0
  clear hb0
  have hS3 : Kept (· = w.heap.size + 1) W1 W1c3 := kept_next hS2 hb
  have hB3 : Below W1.heap.size W1 W1c3 := bel_next hB2 hb
  refine hK.out _ _ ⟨hS3, ?_⟩
  clear hK K' hb hS2 hB2
  refine takeH hS3 (i := 23) (d := 56) (v := .bool true) rfl rfl (by kernel_rfl) (by kernel_rfl) (by kernel_rfl) (fun _ _ _ h => h) (Or.inl ⟨by kernel_rfl, fun w' hw' => by exact exec_eql _ _ rfl (z.safe) (r.safe) rfl rfl true (by simp [Hsa.out]) rfl⟩) ?_
  refine takeH hS3 (i := 24) (d := 57) (v := .bool true) rfl rfl (by kernel_rfl) (by kernel_rfl) (by kernel_rfl) (fun _ _ _ h => h) (Or.inl ⟨by kernel_rfl, fun w' hw' => by kernel_rfl⟩) ?_
  try go_frame
  have cX := blk_one (HT.out.below hB3 HT.out.lt)
  have fX := (HT.out.below hB3 HT.out.lt).frozen 0
  have hP4 := blk_set1 (HT.out.below hB3 HT.out.lt) (.bool true)
  have hS4 : Kept (· = w.heap.size + 1) W1 (W1c3.setCell ⟨w.heap.size + 1, 0, none⟩ (.bool true)) := hS3.setCell (p := ⟨w.heap.size + 1, 0, none⟩) rfl _
  refine nextH (i := 25) rfl (by kernel_rfl) (by kernel_rfl) (fun K' hK => ?_)
  go_wp2_with fail
  refine hK.out _ _ ⟨hS4, ?_⟩
  clear hK K' hS3 cX fX
  try go_frame
  refine wpAnyH_done (by kernel_rfl) ?_ _
  try go_frame
  go_wp2_with fail
  exact leave_marks (HM.out.mono (keepsOthers_kept hS4 (fun k o hk ho => by subst hk; have h := HT.out; unfold Blk at h; rw [h] at ho; cases ho; rfl))) (fun w' hw' => ⟨_, results_cell1 Try.results10 _ _ ⟨w.heap.size + 1, 0, none⟩ (.bool true) rfl (agg_bool _) (blk_one (hw'.same _ _ _ hP4)), rfl, (bkept HZ.out.B (by have := HZ.out.X.lt; omega) hS4 (fun i hi e => by omega)).trans hw'.bel⟩)

end Go.Proofs.Ytflcfhjpmajggaa
