import Derived.Test.YtajkajgnjcnolaaMp28
import Derived.Deep.LoopGhost
namespace Go.Proofs.Ytajkajgnjcnolaa
open Go.RowKit Go.Maps
set_option linter.unusedVariables false
set_option linter.unnecessarySimpa false
set_option linter.unusedSimpArgs false
set_option maxRecDepth 100000 in
set_option maxHeartbeats 2000000 in
theorem phap_1 {lo X D mb n : Nat} {w : World} {S : St8} {vz ve : Value} {l : List ZcR} {f : Int × Int → Option (List Nat × Int)} (e : EvR) (he : EvOk e) (h : PdAt lo w X S D vz ve l mb n f) (hh : S.R.h.length ≤ 40000) (hM : ∀ z o, (S.M z o).2 + 1 ≤ (S.R.h.length : Int)) {M' : Mk} (hM' : M' = hapM S.R.d S.R.zs e S.M) (hk : e.kind = 1) :
    Calls Try.prog 81 #[.pointer (some ⟨X, 0, none⟩), .agg (evA e)] w fun en w' => en = .returned (.tuple #[]) ∧ PdTo lo w X (PdF X D vz ve l mb) ⟨⟨(hapSp S.R.d S.R.zs e).d, (hapSp S.R.d S.R.zs e).zs, S.R.cs, S.R.h⟩, M'⟩ w' := by
  have hb0 := below_alloc w (Obj.cells (evA e) 37)
  have HP := Lib.hid (h.below hb0)
  have HE := Lib.hid (Blk.new w 37 (evA e))
  have He := Lib.hid he
  have Hh := Lib.hid hh
  have HM := Lib.hid hM
  have HM' := Lib.hid hM'
  have Hb0 := Lib.hid hb0
  have Hlt := Lib.hid (fun i (hi : PdF X D vz ve l mb i) => h.lt hi)
  have HK := Lib.hid hk
  have hS1 : hapSp S.R.d S.R.zs e = spSp S.R.d S.R.zs e.zone e.off e.p := by unfold hapSp; rw [if_pos hk]
  have hS2 : hapM S.R.d S.R.zs e S.M = if (spSp S.R.d S.R.zs e.zone e.off e.p).e = 0 then mkS S.M e.zone e.off e.p else S.M := by unfold hapM; simp only [hk, true_and]
  rw [hS1]
  have HS2 := Lib.hid hS2
  clear hS1 hS2 hk
  clear h he hh hM hb0 hM'
  go_enter Try.func81, Try.ntmps81
  go_upto_region 1 with fail
  generalize w.alloc (Obj.cells (evA e) 37) = w0 at *
  have HX := Lib.hid HP.out.blk
  have HnX := Lib.hid HP.out.dvX
  have HnE : Hid (¬ DvF D vz l w.heap.size) := Lib.hid (fun hi => by have := Hlt.out _ (.inr (.inl hi)); omega)
  have k1 : w0.cell? ⟨w.heap.size, 1, none⟩ = some (.int .i64 1) := (HE.out.cell 1).trans ((evA_at1 e).trans (by rw [HK.out]))
  go_wp2_with (refine wpl_load rfl _ rfl (w.heap.size) rfl _ _ _ (HE.out) Try.underlying37 rfl (info_evA He.out.len) ?_; go_frame)
  refine (pspoil e He.out HP.out Hh.out HM.out (HM'.out.trans HS2.out)).mono ?_
  rintro en w1 ⟨rfl, hT⟩
  have HT := Lib.hid (PdTo.after Hb0.out hT)
  clear hT k1
  go_wp2_with fail
  first | go_end0 | refine bodyPost_ret (results_none rfl _ _ _) rfl ?_
  exact ⟨rfl, HT.out⟩
set_option maxRecDepth 100000 in
set_option maxHeartbeats 2000000 in
theorem phap_2 {lo X D mb n : Nat} {w : World} {S : St8} {vz ve : Value} {l : List ZcR} {f : Int × Int → Option (List Nat × Int)} (e : EvR) (he : EvOk e) (h : PdAt lo w X S D vz ve l mb n f) (hh : S.R.h.length ≤ 40000) (hM : ∀ z o, (S.M z o).2 + 1 ≤ (S.R.h.length : Int)) {M' : Mk} (hM' : M' = hapM S.R.d S.R.zs e S.M) (hk : e.kind = 2) :
    Calls Try.prog 81 #[.pointer (some ⟨X, 0, none⟩), .agg (evA e)] w fun en w' => en = .returned (.tuple #[]) ∧ PdTo lo w X (PdF X D vz ve l mb) ⟨⟨(hapSp S.R.d S.R.zs e).d, (hapSp S.R.d S.R.zs e).zs, S.R.cs, S.R.h⟩, M'⟩ w' := by
  have hb0 := below_alloc w (Obj.cells (evA e) 37)
  have HP := Lib.hid (h.below hb0)
  have HE := Lib.hid (Blk.new w 37 (evA e))
  have He := Lib.hid he
  have Hh := Lib.hid hh
  have HM := Lib.hid hM
  have HM' := Lib.hid hM'
  have Hb0 := Lib.hid hb0
  have Hlt := Lib.hid (fun i (hi : PdF X D vz ve l mb i) => h.lt hi)
  have HK := Lib.hid hk
  have hS1 : hapSp S.R.d S.R.zs e = faSp S.R.d S.R.zs e.zone 3 := by unfold hapSp; rw [if_neg (by rw [hk]; decide)]; rw [if_pos hk]
  have hS2 : hapM S.R.d S.R.zs e S.M = S.M := by unfold hapM; rw [if_neg (by rw [hk]; simp)]
  rw [hS1]
  have HS2 := Lib.hid hS2
  clear hS1 hS2 hk
  clear h he hh hM hb0 hM'
  go_enter Try.func81, Try.ntmps81
  go_upto_region 1 with fail
  generalize w.alloc (Obj.cells (evA e) 37) = w0 at *
  have HX := Lib.hid HP.out.blk
  have HnX := Lib.hid HP.out.dvX
  have HnE : Hid (¬ DvF D vz l w.heap.size) := Lib.hid (fun hi => by have := Hlt.out _ (.inr (.inl hi)); omega)
  have k1 : w0.cell? ⟨w.heap.size, 1, none⟩ = some (.int .i64 2) := (HE.out.cell 1).trans ((evA_at1 e).trans (by rw [HK.out]))
  go_upto_region 5 with fail
  clear k1
  refine wp_region_held (S := fun w' => Kept (DvF D vz l) w0 w') (by kernel_rfl) ?_
  change wpAnyH _ _ _ _ _ _ _ _ (World.drew _)
  have hS : Kept (DvF D vz l) w0 w0.drew := (Kept.refl _ _).drew
  have hB0 : Below w0.heap.size w0 w0.drew := (Below.refl _ _).drew
  refine takeH hS (i := 0) (d := 13) (v := .pointer (some ⟨X, 0, none⟩)) rfl rfl (by kernel_rfl) (by kernel_rfl) (by kernel_rfl) (fun _ _ _ h => h) (Or.inl ⟨by kernel_rfl, fun w' hw' => by kernel_rfl⟩) ?_
  refine takeH hS (i := 1) (d := 14) (v := .pointer (some ⟨X, 0, none⟩)) rfl rfl (by kernel_rfl) (by kernel_rfl) (by kernel_rfl) (fun _ _ _ h => h) (Or.inl ⟨by kernel_rfl, fun w' hw' => by kernel_rfl⟩) ?_
  refine takeH hS (i := 2) (d := 15) (v := .pointer (some ⟨X, 0, none⟩)) rfl rfl (by kernel_rfl) (by kernel_rfl) (by kernel_rfl) (fun _ _ _ h => h) (Or.inl ⟨by kernel_rfl, fun w' hw' => by kernel_rfl⟩) ?_
  refine takeH hS (i := 3) (d := 16) (v := .pointer (some ⟨D, 0, none⟩)) rfl rfl (by kernel_rfl) (by kernel_rfl) (by kernel_rfl) (fun _ _ _ h => h) (Or.inl ⟨by kernel_rfl, fun w' hw' => by exact exec_cellv _ rfl ⟨X, 0, none⟩ rfl (.pointer (some ⟨D, 0, none⟩)) Try.underlying45 rfl (((HX.out.kept hw' HnX.out).cell 0).trans (rfl))⟩) ?_
  try go_frame
  refine takeH hS (i := 4) (d := 17) (v := .pointer (some ⟨w.heap.size, 2, none⟩)) rfl rfl (by kernel_rfl) (by kernel_rfl) (by kernel_rfl) (fun _ _ _ h => h) (Or.inl ⟨by kernel_rfl, fun w' hw' => by kernel_rfl⟩) ?_
  refine takeH hS (i := 5) (d := 18) (v := .int .i64 (e.zone)) rfl rfl (by kernel_rfl) (by kernel_rfl) (by kernel_rfl) (fun _ _ _ h => h) (Or.inl ⟨by kernel_rfl, fun w' hw' => by exact exec_cell _ rfl ⟨w.heap.size, 2, none⟩ rfl _ Try.underlying3 (((HE.out.kept hw' HnE.out).cell 2).trans (evA_at2 e))⟩) ?_
  try go_frame
  refine nextH (i := 6) rfl (by kernel_rfl) (by kernel_rfl) (fun K' hK => ?_)
  go_wp2_with fail
  refine (cfa8 HP.out.zs e.zone 3 (HP.out.dv.below hB0)).mono ?_
  rintro en w0c1 ⟨rfl, hT⟩
  have HT := Lib.hid (DvTo.after hB0 hT)
  have hS1 : Kept (DvF D vz l) w0 w0c1 := hS.trans (hT.keptF)
  refine hK.out _ _ ⟨hS1, ?_⟩
  clear hK K' hS
  refine wpAnyH_done (by kernel_rfl) ?_ _
  try go_frame
  have HF := Lib.hid (PdTo.after Hb0.out (HP.out.devTo HT.out))
  clear HX HnX HE HnE hS1 HT HP
  generalize w0c1 = w1 at *
  go_wp2_with fail
  first | go_end0 | refine bodyPost_ret (results_none rfl _ _ _) rfl ?_
  exact ⟨rfl, by rw [HM'.out, HS2.out]; exact HF.out⟩
set_option maxRecDepth 100000 in
set_option maxHeartbeats 2000000 in
theorem phap_3 {lo X D mb n : Nat} {w : World} {S : St8} {vz ve : Value} {l : List ZcR} {f : Int × Int → Option (List Nat × Int)} (e : EvR) (he : EvOk e) (h : PdAt lo w X S D vz ve l mb n f) (hh : S.R.h.length ≤ 40000) (hM : ∀ z o, (S.M z o).2 + 1 ≤ (S.R.h.length : Int)) {M' : Mk} (hM' : M' = hapM S.R.d S.R.zs e S.M) (hk : e.kind = 3) :
    Calls Try.prog 81 #[.pointer (some ⟨X, 0, none⟩), .agg (evA e)] w fun en w' => en = .returned (.tuple #[]) ∧ PdTo lo w X (PdF X D vz ve l mb) ⟨⟨(hapSp S.R.d S.R.zs e).d, (hapSp S.R.d S.R.zs e).zs, S.R.cs, S.R.h⟩, M'⟩ w' := by
  have hb0 := below_alloc w (Obj.cells (evA e) 37)
  have HP := Lib.hid (h.below hb0)
  have HE := Lib.hid (Blk.new w 37 (evA e))
  have He := Lib.hid he
  have Hh := Lib.hid hh
  have HM := Lib.hid hM
  have HM' := Lib.hid hM'
  have Hb0 := Lib.hid hb0
  have Hlt := Lib.hid (fun i (hi : PdF X D vz ve l mb i) => h.lt hi)
  have HK := Lib.hid hk
  have hS1 : hapSp S.R.d S.R.zs e = faSp S.R.d S.R.zs e.zone 4 := by unfold hapSp; rw [if_neg (by rw [hk]; decide)]; rw [if_neg (by rw [hk]; decide)]; rw [if_pos hk]
  have hS2 : hapM S.R.d S.R.zs e S.M = S.M := by unfold hapM; rw [if_neg (by rw [hk]; simp)]
  rw [hS1]
  have HS2 := Lib.hid hS2
  clear hS1 hS2 hk
  clear h he hh hM hb0 hM'
  go_enter Try.func81, Try.ntmps81
  go_upto_region 1 with fail
  generalize w.alloc (Obj.cells (evA e) 37) = w0 at *
  have HX := Lib.hid HP.out.blk
  have HnX := Lib.hid HP.out.dvX
  have HnE : Hid (¬ DvF D vz l w.heap.size) := Lib.hid (fun hi => by have := Hlt.out _ (.inr (.inl hi)); omega)
  have k1 : w0.cell? ⟨w.heap.size, 1, none⟩ = some (.int .i64 3) := (HE.out.cell 1).trans ((evA_at1 e).trans (by rw [HK.out]))
  go_upto_region 7 with fail
  clear k1
  refine wp_region_held (S := fun w' => Kept (DvF D vz l) w0 w') (by kernel_rfl) ?_
  change wpAnyH _ _ _ _ _ _ _ _ (World.drew _)
  have hS : Kept (DvF D vz l) w0 w0.drew := (Kept.refl _ _).drew
  have hB0 : Below w0.heap.size w0 w0.drew := (Below.refl _ _).drew
  refine takeH hS (i := 0) (d := 22) (v := .pointer (some ⟨X, 0, none⟩)) rfl rfl (by kernel_rfl) (by kernel_rfl) (by kernel_rfl) (fun _ _ _ h => h) (Or.inl ⟨by kernel_rfl, fun w' hw' => by kernel_rfl⟩) ?_
  refine takeH hS (i := 1) (d := 23) (v := .pointer (some ⟨X, 0, none⟩)) rfl rfl (by kernel_rfl) (by kernel_rfl) (by kernel_rfl) (fun _ _ _ h => h) (Or.inl ⟨by kernel_rfl, fun w' hw' => by kernel_rfl⟩) ?_
  refine takeH hS (i := 2) (d := 24) (v := .pointer (some ⟨X, 0, none⟩)) rfl rfl (by kernel_rfl) (by kernel_rfl) (by kernel_rfl) (fun _ _ _ h => h) (Or.inl ⟨by kernel_rfl, fun w' hw' => by kernel_rfl⟩) ?_
  refine takeH hS (i := 3) (d := 25) (v := .pointer (some ⟨D, 0, none⟩)) rfl rfl (by kernel_rfl) (by kernel_rfl) (by kernel_rfl) (fun _ _ _ h => h) (Or.inl ⟨by kernel_rfl, fun w' hw' => by exact exec_cellv _ rfl ⟨X, 0, none⟩ rfl (.pointer (some ⟨D, 0, none⟩)) Try.underlying45 rfl (((HX.out.kept hw' HnX.out).cell 0).trans (rfl))⟩) ?_
  try go_frame
  refine takeH hS (i := 4) (d := 26) (v := .pointer (some ⟨w.heap.size, 2, none⟩)) rfl rfl (by kernel_rfl) (by kernel_rfl) (by kernel_rfl) (fun _ _ _ h => h) (Or.inl ⟨by kernel_rfl, fun w' hw' => by kernel_rfl⟩) ?_
  refine takeH hS (i := 5) (d := 27) (v := .int .i64 (e.zone)) rfl rfl (by kernel_rfl) (by kernel_rfl) (by kernel_rfl) (fun _ _ _ h => h) (Or.inl ⟨by kernel_rfl, fun w' hw' => by exact exec_cell _ rfl ⟨w.heap.size, 2, none⟩ rfl _ Try.underlying3 (((HE.out.kept hw' HnE.out).cell 2).trans (evA_at2 e))⟩) ?_
  try go_frame
  refine nextH (i := 6) rfl (by kernel_rfl) (by kernel_rfl) (fun K' hK => ?_)
  go_wp2_with fail
  refine (cfa8 HP.out.zs e.zone 4 (HP.out.dv.below hB0)).mono ?_
  rintro en w0c1 ⟨rfl, hT⟩
  have HT := Lib.hid (DvTo.after hB0 hT)
  have hS1 : Kept (DvF D vz l) w0 w0c1 := hS.trans (hT.keptF)
  refine hK.out _ _ ⟨hS1, ?_⟩
  clear hK K' hS
  refine wpAnyH_done (by kernel_rfl) ?_ _
  try go_frame
  have HF := Lib.hid (PdTo.after Hb0.out (HP.out.devTo HT.out))
  clear HX HnX HE HnE hS1 HT HP
  generalize w0c1 = w1 at *
  go_wp2_with fail
  first | go_end0 | refine bodyPost_ret (results_none rfl _ _ _) rfl ?_
  exact ⟨rfl, by rw [HM'.out, HS2.out]; exact HF.out⟩
set_option maxRecDepth 100000 in
set_option maxHeartbeats 2000000 in
theorem phap_4 {lo X D mb n : Nat} {w : World} {S : St8} {vz ve : Value} {l : List ZcR} {f : Int × Int → Option (List Nat × Int)} (e : EvR) (he : EvOk e) (h : PdAt lo w X S D vz ve l mb n f) (hh : S.R.h.length ≤ 40000) (hM : ∀ z o, (S.M z o).2 + 1 ≤ (S.R.h.length : Int)) {M' : Mk} (hM' : M' = hapM S.R.d S.R.zs e S.M) (hk : e.kind = 4) :
    Calls Try.prog 81 #[.pointer (some ⟨X, 0, none⟩), .agg (evA e)] w fun en w' => en = .returned (.tuple #[]) ∧ PdTo lo w X (PdF X D vz ve l mb) ⟨⟨(hapSp S.R.d S.R.zs e).d, (hapSp S.R.d S.R.zs e).zs, S.R.cs, S.R.h⟩, M'⟩ w' := by
  have hb0 := below_alloc w (Obj.cells (evA e) 37)
  have HP := Lib.hid (h.below hb0)
  have HE := Lib.hid (Blk.new w 37 (evA e))
  have He := Lib.hid he
  have Hh := Lib.hid hh
  have HM := Lib.hid hM
  have HM' := Lib.hid hM'
  have Hb0 := Lib.hid hb0
  have Hlt := Lib.hid (fun i (hi : PdF X D vz ve l mb i) => h.lt hi)
  have HK := Lib.hid hk
  have hS1 : hapSp S.R.d S.R.zs e = crSp S.R.d S.R.zs := by unfold hapSp; rw [if_neg (by rw [hk]; decide), if_neg (by rw [hk]; decide), if_neg (by rw [hk]; decide), if_pos hk]
  have hS2 : hapM S.R.d S.R.zs e S.M = S.M := by unfold hapM; rw [if_neg (by rw [hk]; simp)]
  rw [hS1]
  have HS2 := Lib.hid hS2
  clear hS1 hS2 hk
  clear h he hh hM hb0 hM'
  go_enter Try.func81, Try.ntmps81
  go_upto_region 1 with fail
  generalize w.alloc (Obj.cells (evA e) 37) = w0 at *
  have HX := Lib.hid HP.out.blk
  have HnX := Lib.hid HP.out.dvX
  have HnE : Hid (¬ DvF D vz l w.heap.size) := Lib.hid (fun hi => by have := Hlt.out _ (.inr (.inl hi)); omega)
  have k1 : w0.cell? ⟨w.heap.size, 1, none⟩ = some (.int .i64 4) := (HE.out.cell 1).trans ((evA_at1 e).trans (by rw [HK.out]))
  have c0 := HP.out.c0
  go_wp2_with fail
  refine (ccr8 HP.out.zs HP.out.dv).mono ?_
  rintro en w1 ⟨rfl, hT⟩
  have HF := Lib.hid (PdTo.after Hb0.out (HP.out.devTo hT))
  clear hT k1 c0 HP HX HnX HE HnE
  go_wp2_with fail
  first | go_end0 | refine bodyPost_ret (results_none rfl _ _ _) rfl ?_
  exact ⟨rfl, by rw [HM'.out, HS2.out]; exact HF.out⟩
set_option maxRecDepth 100000 in
set_option maxHeartbeats 2000000 in
theorem phap_0 {lo X D mb n : Nat} {w : World} {S : St8} {vz ve : Value} {l : List ZcR} {f : Int × Int → Option (List Nat × Int)} (e : EvR) (he : EvOk e) (h : PdAt lo w X S D vz ve l mb n f) (hh : S.R.h.length ≤ 40000) (hM : ∀ z o, (S.M z o).2 + 1 ≤ (S.R.h.length : Int)) {M' : Mk} (hM' : M' = hapM S.R.d S.R.zs e S.M) (k1' : e.kind ≠ 1) (k2' : e.kind ≠ 2) (k3' : e.kind ≠ 3) (k4' : e.kind ≠ 4) :
    Calls Try.prog 81 #[.pointer (some ⟨X, 0, none⟩), .agg (evA e)] w fun en w' => en = .returned (.tuple #[]) ∧ PdTo lo w X (PdF X D vz ve l mb) ⟨⟨(hapSp S.R.d S.R.zs e).d, (hapSp S.R.d S.R.zs e).zs, S.R.cs, S.R.h⟩, M'⟩ w' := by
  have hb0 := below_alloc w (Obj.cells (evA e) 37)
  have HP := Lib.hid (h.below hb0)
  have HE := Lib.hid (Blk.new w 37 (evA e))
  have He := Lib.hid he
  have Hh := Lib.hid hh
  have HM := Lib.hid hM
  have HM' := Lib.hid hM'
  have Hb0 := Lib.hid hb0
  have Hlt := Lib.hid (fun i (hi : PdF X D vz ve l mb i) => h.lt hi)
  have hS1 : hapSp S.R.d S.R.zs e = ⟨0, 0, S.R.d, S.R.zs⟩ := by unfold hapSp; rw [if_neg k1', if_neg k2', if_neg k3', if_neg k4']
  have hS2 : hapM S.R.d S.R.zs e S.M = S.M := by unfold hapM; rw [if_neg (fun h => k1' h.1)]
  have d1 : decide (e.kind = 1) = false := decide_eq_false k1'
  have d2 : decide (e.kind = 2) = false := decide_eq_false k2'
  have d3 : decide (e.kind = 3) = false := decide_eq_false k3'
  have d4 : decide (e.kind = 4) = false := decide_eq_false k4'
  rw [hS1]
  have HS2 := Lib.hid hS2
  clear hS1 hS2
  clear h he hh hM hb0 hM'
  go_enter Try.func81, Try.ntmps81
  go_upto_region 1 with fail
  generalize w.alloc (Obj.cells (evA e) 37) = w0 at *
  have HX := Lib.hid HP.out.blk
  have HnX := Lib.hid HP.out.dvX
  have HnE : Hid (¬ DvF D vz l w.heap.size) := Lib.hid (fun hi => by have := Hlt.out _ (.inr (.inl hi)); omega)
  have k1 : w0.cell? ⟨w.heap.size, 1, none⟩ = some (.int .i64 e.kind) := (HE.out.cell 1).trans (evA_at1 e)
  have HF := Lib.hid (PdTo.after Hb0.out (PdTo.same (⟨D, vz, ve, l, mb, n, f, HP.out, rfl⟩ : pdAt lo w0 X S (PdF X D vz ve l mb)) (Below.refl _ _)))
  clear HP HX HnX HE HnE
  go_wp2_with fail
  first | go_end0 | refine bodyPost_ret (results_none rfl _ _ _) rfl ?_
  exact ⟨rfl, by rw [HM'.out, HS2.out]; exact HF.out⟩
set_option maxRecDepth 100000 in
set_option maxHeartbeats 2000000 in
theorem phap {lo X D mb n : Nat} {w : World} {S : St8} {vz ve : Value} {l : List ZcR} {f : Int × Int → Option (List Nat × Int)} (e : EvR) (he : EvOk e) (h : PdAt lo w X S D vz ve l mb n f) (hh : S.R.h.length ≤ 40000) (hM : ∀ z o, (S.M z o).2 + 1 ≤ (S.R.h.length : Int)) {M' : Mk} (hM' : M' = hapM S.R.d S.R.zs e S.M)  :
    Calls Try.prog 81 #[.pointer (some ⟨X, 0, none⟩), .agg (evA e)] w fun en w' => en = .returned (.tuple #[]) ∧ PdTo lo w X (PdF X D vz ve l mb) ⟨⟨(hapSp S.R.d S.R.zs e).d, (hapSp S.R.d S.R.zs e).zs, S.R.cs, S.R.h⟩, M'⟩ w' := by
  by_cases h1 : e.kind = 1
  · exact phap_1 e he h hh hM hM' h1
  · by_cases h2 : e.kind = 2
    · exact phap_2 e he h hh hM hM' h2
    · by_cases h3 : e.kind = 3
      · exact phap_3 e he h hh hM hM' h3
      · by_cases h4 : e.kind = 4
        · exact phap_4 e he h hh hM hM' h4
        · exact phap_0 e he h hh hM hM' h1 h2 h3 h4
end Go.Proofs.Ytajkajgnjcnolaa

