/-
  Layer 9 (queue): is a queue a list.
-/
import Derived.Test.YtcdfolphbabaoaaQueueR
namespace Go.Proofs.Ytcdfolphbabaoaa
open Go.RowKit Go.Shelf
attribute [local go_sem] Oper.semAt_some
set_option linter.unusedVariables false
set_option linter.unnecessarySimpa false
set_option linter.unusedSimpArgs false

theorem kept_of_bel {B : Nat} {a b : World} (h : Below B a b) : Kept (fun k => ¬ k < B) a b := ⟨h.os, h.tape, h.output, h.size, fun k hk hn => h.block k (Decidable.not_not.1 hn)⟩
theorem QAt.bel' {T E : TypeId} {β : Type} {enc : β → Value} {lo A C room n : Nat} {a b : World} {qs : List (Nat × β)} (h : QAt T E enc lo a A C room qs) (o : QOld n A C qs) (hb : Below n a b) : QAt T E enc lo b A C room qs :=
  h.kept (kept_of_bel hb) (fun e => e o.a) (fun e => e o.c) (fun x hx e => e (o.b x hx))
/-- Blocks that were made since may change. -/
theorem kept_new {S U : Nat → Prop} {w a b : World} (h : Kept S w a) (k : Kept U a b) (hU : ∀ i, U i → w.heap.size ≤ i) : Kept S w b := h.andThen k (fun _ _ h => h) (fun i hi hu => absurd (hU i hu) (by omega))
theorem ownFrom_kept {β : Type} {B : Nat} {S : Nat → Prop} {w : World} (hB : w.heap.size ≤ B) : OwnFrom (β := β) B (fun _ W => Kept S w W) := fun s X Y row h hg hr => kept_grown h hg (fun g e => Nat.le_trans hB (hr g e).1)
theorem ownFrom_qat {γ : Type} {T E : TypeId} {β : Type} {enc : β → Value} {lo A C room n B : Nat} {qs : List (Nat × β)} (o : QOld n A C qs) (hB : n ≤ B) : OwnFrom (β := γ) B (fun _ W => QAt T E enc lo W A C room qs) := fun s X Y row h hg hr =>
  h.grown o hg (fun g e => Nat.le_trans hB (hr g e).1)
/-- What lies in memory while a queue is held against a list: that one at block n, the result at n + 1, how many have come at n + 2. -/
structure SmI (lo A C room : Nat) (qs : List (Nat × Int)) (a : Option Addr) (cap : Nat) (zs : List Int) (w : World) (k : Int) (W : World) : Prop where
  X : Blk W w.heap.size 28 #[.slice a zs.length cap]
  T : Blk W (w.heap.size + 1) 4 #[.bool false]
  N : Blk W (w.heap.size + 2) 3 #[.int .i64 k]
  q : QAt 59 3 encI lo W A C room qs
  own : RowI W a cap zs
  B : Kept (· = C) w W
section
variable {lo A C room : Nat} {qs : List (Nat × Int)} {a : Option Addr} {cap : Nat} {zs : List Int} {w : World} {k : Int} {W W' : World}
theorem SmI.below (h : SmI lo A C room qs a cap zs w k W) (hb : Below W.heap.size W W') : SmI lo A C room qs a cap zs w k W' :=
  ⟨h.X.below hb h.X.lt, h.T.below hb h.T.lt, h.N.below hb h.N.lt, h.q.below hb, h.own.below hb, kept_b h.B hb⟩
theorem SmI.tn (h : SmI lo A C room qs a cap zs w k W) (t : TnQ C W W') : SmI lo A C room qs a cap zs w k W' :=
  ⟨h.q.far t.k h.X, h.q.far t.k h.T, h.q.far t.k h.N, h.q.tn t, h.own.q h.q t.k, kept_then h.B t.k⟩
theorem SmI.set (h : SmI lo A C room qs a cap zs w k W) (ho : QOld w.heap.size A C qs) (hu : ∀ ad, a = some ad → ad.block < w.heap.size) (m : Int) : SmI lo A C room qs a cap zs w m (W.setCell ⟨w.heap.size + 2, 0, none⟩ (.int .i64 m)) :=
  ⟨h.X.far (by simp) _, h.T.far (by simp) _, blk_set1 h.N _, h.q.kept ((Kept.refl (· = w.heap.size + 2) W).setCell (p := ⟨w.heap.size + 2, 0, none⟩) rfl _) (fun e => by have := ho.a; omega) (fun e => by have := ho.c; omega) (fun x hx e => by have := ho.b x hx; omega),
    h.own.set (p := ⟨w.heap.size + 2, 0, none⟩) (fun ad e => by have := hu ad e; show ad.block ≠ w.heap.size + 2; omega) _, kept_new h.B ((Kept.refl (· = w.heap.size + 2) W).setCell (p := ⟨w.heap.size + 2, 0, none⟩) rfl _) (fun i e => by omega)⟩
theorem SmI.ownF {B : Nat} (f : List (Nat × Int) → Int) (ho : QOld w.heap.size A C qs) (hB : w.heap.size ≤ B) : OwnFrom B (fun pre W => SmI lo A C room qs a cap zs w (f pre) W) := fun s X Y row h hg hr =>
  ⟨Own.from (blk_own (β := List (Nat × Int)) _ _ (fun _ => _)) B s X Y row h.X hg hr, Own.from (blk_own (β := List (Nat × Int)) _ _ (fun _ => _)) B s X Y row h.T hg hr, Own.from (blk_own (β := List (Nat × Int)) _ _ (fun pre => #[.int .i64 (f pre)])) B s X Y row h.N hg hr,
    ownFrom_qat (γ := List (Nat × Int)) ho hB s X Y row h.q hg hr, ownFrom_rowI (β := List (Nat × Int)) s X Y row h.own hg hr, ownFrom_kept (β := List (Nat × Int)) hB s X Y row h.B hg hr⟩
end

set_option maxRecDepth 100000 in
set_option maxHeartbeats 4000000 in
theorem qsame {lo A C room : Nat} {qs : List (Nat × Int)} {a : Option Addr} {cap : Nat} {zs : List Int} {w : World} (hq : QAt 59 3 encI lo w A C room qs) (hzs : qs.map (·.2) = zs) (hu : RowI w a cap zs) :
    Calls Try.prog 17 #[.pointer (some ⟨A, 0, none⟩), .slice a zs.length cap, .int .i64 (room : Nat)] w fun e w' => e = .returned (.bool true) ∧ QAt 59 3 encI lo w' A C room qs ∧ Kept (· = C) w w' := by
  have ho := hq.old
  have hul : ∀ ad, a = some ad → ad.block < w.heap.size := hu.lt
  have hlz : qs.length = zs.length := by rw [← hzs, List.length_map]
  have hl : qs.length ≤ 4096 := Nat.le_trans hq.len hq.room
  have k1 := hu.le
  have k2 := hu.max
  unfold maxLen at k2
  have b1 := below_alloc w (Obj.cells #[.slice a zs.length cap] 28)
  have b2 := bthen' b1 (below_alloc _ (Obj.cells #[.bool false] 4))
  have b3 := bthen' b2 (below_alloc _ (Obj.cells #[.int .i64 0] 3))
  have x1 := Blk.new (w.alloc (Obj.cells #[.slice a zs.length cap] 28)) 4 #[.bool false]
  rw [show (w.alloc (Obj.cells #[.slice a zs.length cap] 28)).heap.size = w.heap.size + 1 by simp] at x1
  have x2 := Blk.new ((w.alloc (Obj.cells #[.slice a zs.length cap] 28)).alloc (Obj.cells #[.bool false] 4)) 3 #[.int .i64 0]
  rw [show ((w.alloc (Obj.cells #[.slice a zs.length cap] 28)).alloc (Obj.cells #[.bool false] 4)).heap.size = w.heap.size + 2 by simp] at x2
  have HS : Hid (SmI lo A C room qs a cap zs w 0 (((w.alloc (Obj.cells #[.slice a zs.length cap] 28)).alloc (Obj.cells #[.bool false] 4)).alloc (Obj.cells #[.int .i64 0] 3))) :=
    Lib.hid ⟨((Blk.new w 28 _).alloc _).alloc _, x1.alloc _, x2, hq.below b3, hu.below b3, Kept.of_below b3⟩
  have Hzs := Lib.hid hzs
  have Ho := Lib.hid ho
  have Hul := Lib.hid hul
  have Hlz := Lib.hid hlz
  clear hq hzs hu ho hul b1 b2 b3 x1 x2 hlz
  refine calls_marks Try.func17 rfl ?_
  simp only [Try.ntmps17, List.size_toArray, List.length_cons, List.length_nil, Nat.reduceAdd, Nat.reduceSub, Array.replicate_succ, Array.replicate_zero, List.push_toArray, List.append_toArray, List.nil_append, List.cons_append]
  go_upto_region 2 with fail
  generalize ((w.alloc (Obj.cells #[.slice a zs.length cap] 28)).alloc (Obj.cells #[.bool false] 4)).alloc (Obj.cells #[.int .i64 0] 3) = w1 at *
  go_wp2_with fail
  refine (qall_any _).mono ?_
  rintro e w2 ⟨rfl, rfl⟩
  have hB := Blk.new w1 24 #[.pointer (some ⟨A, 0, none⟩)]
  have hS := HS.out.below (below_alloc w1 (Obj.cells #[.pointer (some ⟨A, 0, none⟩)] 24))
  clear HS
  go_wp2_with fail
  generalize w1.heap.size = bp at *
  generalize w1.alloc (Obj.cells #[.pointer (some ⟨A, 0, none⟩)] 24) = V at *
  refine wp_rangeT (N := qs.length) (w0 := V) rfl (enters_of Try.func27 (by kernel_rfl) rfl) (qall_gives (S := (· = w.heap.size + 2)) hS.q hB (fun g e => by have := hS.N.lt; omega) (fun x hx e => by have := Ho.out.b x hx; omega)) (fun h k => h.trans k) (fun W l o o' _ h hc _ => KpS.put W l o o' h hc) (Below.refl _ _) (fun _ => rfl)
    (fun pre W => SmI lo A C room qs a cap zs w (pre.length : Int) W) (fun c pre _ => c = .ret ∧ ¬ pre <+: numb (qs.map (·.2)) qs.length) (SmI.ownF (fun pre => (pre.length : Int)) Ho.out hS.B.size) (fun c => ownFrom_pure' (fun pre => c = .ret ∧ ¬ pre <+: numb (qs.map (·.2)) qs.length)) (by simpa using hS)
    (fun s A B h t => h.tn t) (fun A B k o t hk h => (t.k.block k (Array.getElem?_eq_some_iff.1 h).1 (fun e => by have := hS.q.ltC; omega)).trans h) ?a1 ?assign ?body ?done ?stop
  case assign =>
    intro l x W K hK
    unfold encP
    gi_wp2
    exact hK
  case stop =>
    rintro D c pre W hD hp ⟨rfl, hn⟩ _
    exact absurd hp hn
  case body =>
    rintro l pre x W hI hpl
    have cN := blk_one hI.N
    have fN := hI.N.frozen 0
    have cT := blk_one hI.T
    have fT := hI.T.frozen 0
    have c0 : W.cell? ⟨w.heap.size, 0, none⟩ = some (.slice a zs.length cap) := blk_one hI.X
    obtain ⟨i, y⟩ := x
    have hl64 : (pre.length : Int) < 4096 := by omega
    have HI := Lib.hid hI
    rw [Hzs.out]
    rw [Hlz.out] at hpl ⊢
    by_cases hi : i = pre.length
    · subst hi
      obtain ⟨g, off, rfl, hg3⟩ := hI.own.cell pre.length hpl
      by_cases hy : y = zs.getD pre.length 0
      · rw [← hy] at hg3
        have HP := Lib.hid (hI.set Ho.out Hul.out ((pre.length : Int) + 1))
        have HKp := Lib.hid (KpS.set (S := (· = w.heap.size + 2)) (W := W) (p := ⟨w.heap.size + 2, 0, none⟩) (.int .i64 ((pre.length : Int) + 1)) rfl)
        clear hy hI hS hB
        gi_wp2
        exact ⟨KeepsOthers.setCell _ _ _, HKp.out, by show SmI _ _ _ _ _ _ _ _ _ ((pre ++ [(pre.length, y)]).length : Int) _; rw [List.length_append]; exact HP.out⟩
      · have e1 : (zs.getD pre.length 0 != y) = true := by simpa using fun e => hy e.symm
        have hzp : ∀ hp : pre ++ [(pre.length, y)] <+: numb zs zs.length, False := fun hp => hy (congrArg Prod.snd (numb_get hp))
        have HNp := Lib.hid hzp
        generalize zs.getD pre.length 0 = Y at *
        clear hy hI hS hB hzp
        gi_wp2
        exact ⟨KeepsOthers.setCell _ _ _, rfl, HNp.out⟩
    · have e1 : ((i : Int) != (pre.length : Int)) = true := by rw [bne_iff_ne]; omega
      have hzp : ∀ hp : pre ++ [(i, y)] <+: numb zs zs.length, False := fun hp => hi (congrArg Prod.fst (numb_get hp))
      have HNp := Lib.hid hzp
      clear hi hI hS hB hzp
      gi_wp2
      exact ⟨KeepsOthers.setCell _ _ _, rfl, HNp.out⟩
  case done =>
  rintro D ys W1 hD rfl hI hd
  have hI' := hI
  rw [numb_length, Hlz.out] at hI'
  have HZ := Lib.hid hI'
  have HM := Lib.hid (Marks.cons (B := w.heap.size) (ds := []) (Marks.nil _ V) hS.B.size hD hd (Marks.nil _ W1))
  have HX := Lib.hid hI'.X
  have HT := Lib.hid hI'.T
  have HN := Lib.hid hI'.N
  clear hI hI' hd hS hB
  go_upto_region 8 with fail
  refine wp_then_only ?_
  refine wp_region_held (S := fun w' => Kept (· = w.heap.size + 1) W1 w') (by kernel_rfl) ?_
  change wpAnyH _ _ _ _ _ _ _ _ (World.drew _)
  have hS : Kept (· = w.heap.size + 1) W1 W1.drew := (Kept.refl _ _).drew
  have hB0 : Below W1.heap.size W1 W1.drew := (Below.refl _ _).drew
  refine takeH hS (i := 0) (d := 33) (v := .int .i64 ((zs.length : Nat))) rfl rfl (by kernel_rfl) (by kernel_rfl) (by kernel_rfl) (fun _ _ _ h => h) (Or.inl ⟨by kernel_rfl, fun w' hw' => by exact exec_cell _ rfl ⟨w.heap.size + 2, 0, none⟩ rfl _ Try.underlying3 (((HN.out.kept hw' (by omega)).cell 0).trans (rfl))⟩) ?_
  refine takeH hS (i := 1) (d := 34) (v := .slice (a) (zs.length) (cap)) rfl rfl (by kernel_rfl) (by kernel_rfl) (by kernel_rfl) (fun _ _ _ h => h) (Or.inl ⟨by kernel_rfl, fun w' hw' => by exact exec_cellv _ rfl ⟨w.heap.size, 0, none⟩ rfl (.slice (a) (zs.length) (cap)) Try.underlying28 rfl (((HX.out.kept hw' (by omega)).cell 0).trans (rfl))⟩) ?_
  refine takeH hS (i := 2) (d := 35) (v := .int .i64 ((zs.length : Nat))) rfl rfl (by kernel_rfl) (by kernel_rfl) (by kernel_rfl) (fun _ _ _ h => h) (Or.inl ⟨by kernel_rfl, fun w' hw' => by exact exec_len _ rfl Try.underlying28 _ _ _ rfl⟩) ?_
  refine takeH hS (i := 3) (d := 36) (v := .bool true) rfl rfl (by kernel_rfl) (by kernel_rfl) (by kernel_rfl) (fun _ _ _ h => h) (Or.inl ⟨by kernel_rfl, fun w' hw' => by exact exec_eql _ _ rfl ((zs.length : Nat)) ((zs.length : Nat)) rfl rfl true (by simp) rfl⟩) ?_
  try go_frame
  refine takeH hS (i := 4) (d := 37) (v := .bool true) rfl rfl (by kernel_rfl) (by kernel_rfl) (by kernel_rfl) (fun _ _ _ h => h) (Or.inl ⟨by kernel_rfl, fun w' hw' => by kernel_rfl⟩) ?_
  refine takeH hS (i := 5) (d := 38) (v := .pointer (some ⟨A, 0, none⟩)) rfl rfl (by kernel_rfl) (by kernel_rfl) (by kernel_rfl) (fun _ _ _ h => h) (Or.inl ⟨by kernel_rfl, fun w' hw' => by kernel_rfl⟩) ?_
  refine takeH hS (i := 7) (d := 40) (v := .int .i64 ((zs.length : Nat))) rfl rfl (by kernel_rfl) (by kernel_rfl) (by kernel_rfl) (fun _ _ _ h => h) (Or.inl ⟨by kernel_rfl, fun w' hw' => by exact exec_cell _ rfl ⟨w.heap.size + 2, 0, none⟩ rfl _ Try.underlying3 (((HN.out.kept hw' (by omega)).cell 0).trans (rfl))⟩) ?_
  try go_frame
  refine nextH (i := 6) rfl (by kernel_rfl) (by kernel_rfl) (fun K' hK => ?_)
  go_wp2_with fail
  refine (qlenI (HZ.out.q.below hB0)).mono ?_
  rintro en W1c1 ⟨rfl, hb0⟩
  have hb := below_eq hb0
  clear hb0
  have hS1 : Kept (· = w.heap.size + 1) W1 W1c1 := kept_next hS hb
  have hB1 : Below W1.heap.size W1 W1c1 := bel_next hB0 hb
  refine hK.out _ _ ⟨hS1, ?_⟩
  clear hK K' hb hS hB0
  refine takeH hS1 (i := 8) (d := 41) (v := .bool true) rfl rfl (by kernel_rfl) (by kernel_rfl) (by kernel_rfl) (fun _ _ _ h => h) (Or.inl ⟨by kernel_rfl, fun w' hw' => by exact exec_eql _ _ rfl ((qs.length : Nat)) ((zs.length : Nat)) rfl rfl true (by simp [Hlz.out]) rfl⟩) ?_
  refine takeH hS1 (i := 9) (d := 42) (v := .bool true) rfl rfl (by kernel_rfl) (by kernel_rfl) (by kernel_rfl) (fun _ _ _ h => h) (Or.inl ⟨by kernel_rfl, fun w' hw' => by kernel_rfl⟩) ?_
  refine takeH hS1 (i := 10) (d := 43) (v := .bool true) rfl rfl (by kernel_rfl) (by kernel_rfl) (by kernel_rfl) (fun _ _ _ h => h) (Or.inl ⟨by kernel_rfl, fun w' hw' => by kernel_rfl⟩) ?_
  refine takeH hS1 (i := 11) (d := 44) (v := .pointer (some ⟨A, 0, none⟩)) rfl rfl (by kernel_rfl) (by kernel_rfl) (by kernel_rfl) (fun _ _ _ h => h) (Or.inl ⟨by kernel_rfl, fun w' hw' => by kernel_rfl⟩) ?_
  try go_frame
  refine takeH hS1 (i := 13) (d := 46) (v := .int .i64 ((room : Nat))) rfl rfl (by kernel_rfl) (by kernel_rfl) (by kernel_rfl) (fun _ _ _ h => h) (Or.inl ⟨by kernel_rfl, fun w' hw' => by kernel_rfl⟩) ?_
  try go_frame
  refine nextH (i := 12) rfl (by kernel_rfl) (by kernel_rfl) (fun K' hK => ?_)
  go_wp2_with fail
  refine (qroomI (HZ.out.q.below hB1)).mono ?_
  rintro en W1c2 ⟨rfl, hb0⟩
  have hb := below_eq hb0
  clear hb0
  have hS2 : Kept (· = w.heap.size + 1) W1 W1c2 := kept_next hS1 hb
  have hB2 : Below W1.heap.size W1 W1c2 := bel_next hB1 hb
  refine hK.out _ _ ⟨hS2, ?_⟩
  clear hK K' hb hS1 hB1
  refine takeH hS2 (i := 14) (d := 47) (v := .bool true) rfl rfl (by kernel_rfl) (by kernel_rfl) (by kernel_rfl) (fun _ _ _ h => h) (Or.inl ⟨by kernel_rfl, fun w' hw' => by exact exec_eql _ _ rfl ((room : Nat)) ((room : Nat)) rfl rfl true (by simp) rfl⟩) ?_
  refine takeH hS2 (i := 15) (d := 48) (v := .bool true) rfl rfl (by kernel_rfl) (by kernel_rfl) (by kernel_rfl) (fun _ _ _ h => h) (Or.inl ⟨by kernel_rfl, fun w' hw' => by kernel_rfl⟩) ?_
  try go_frame
  have cX := blk_one (HT.out.below hB2 HT.out.lt)
  have fX := (HT.out.below hB2 HT.out.lt).frozen 0
  have hP3 := blk_set1 (HT.out.below hB2 HT.out.lt) (.bool true)
  have hS3 : Kept (· = w.heap.size + 1) W1 (W1c2.setCell ⟨w.heap.size + 1, 0, none⟩ (.bool true)) := hS2.setCell (p := ⟨w.heap.size + 1, 0, none⟩) rfl _
  refine nextH (i := 16) rfl (by kernel_rfl) (by kernel_rfl) (fun K' hK => ?_)
  go_wp2_with fail
  refine hK.out _ _ ⟨hS3, ?_⟩
  clear hK K' hS2 cX fX
  try go_frame
  refine wpAnyH_done (by kernel_rfl) ?_ _
  try go_frame
  go_wp2_with fail
  refine leave_marks (HM.out.mono (keepsOthers_kept hS3 (fun k o hk ho => by subst hk; have h := HT.out; unfold Blk at h; rw [h] at ho; cases ho; rfl))) (fun w' hw' => ⟨_, results_cell1 Try.results17 _ _ ⟨w.heap.size + 1, 0, none⟩ (.bool true) rfl (agg_bool _) (blk_one (hw'.same _ _ _ hP3)), rfl, ?_, ?_⟩)
  · exact (HZ.out.q.kept hS3 (fun e => by have := Ho.out.a; omega) (fun e => by have := Ho.out.c; omega) (fun x hx e => by have := Ho.out.b x hx; omega)).bel' Ho.out hw'.bel
  · exact kept_new (kept_new HZ.out.B hS3 (fun i e => by omega)) (kept_of_bel hw'.bel) (fun i e => by omega)

end Go.Proofs.Ytcdfolphbabaoaa
