import Derived.Test.YtajkajgnjcnolaaMo35
import Derived.Test.YtajkajgnjcnolaaMo36
import Derived.Test.YtajkajgnjcnolaaMo27
import Derived.RangeFuncFrom
import Derived.Sort.CutIn
namespace Go.Proofs.Ytajkajgnjcnolaa
open Go.RowKit Go.Maps Go.Shelf
set_option linter.unusedVariables false
set_option linter.unnecessarySimpa false
set_option linter.unusedSimpArgs false
def spV (S : St8) (z off : Int) : List Nat × Int := if lnD S.R.zs z ≤ off then (zeros 64, 0) else S.M z off
set_option maxRecDepth 100000 in
set_option maxHeartbeats 2000000 in
theorem pspt_no {lo X D mb n : Nat} {w : World} {S : St8} {vz ve : Value} {l : List ZcR} {f : Int × Int → Option (List Nat × Int)} (z off : Int) (h : PdAt lo w X S D vz ve l mb n f) (hn : lnD S.R.zs z ≤ off) : Calls Try.prog 15 #[.pointer (some ⟨X, 0, none⟩), .int .i64 z, .int .i64 off] w fun e w' => e = .returned (.tuple #[.agg (bA (zeros 64)), .int .i64 0]) ∧ Below w.heap.size w w' := by
  have hb0 := below_alloc w (Obj.cells (bA (zeros 64)) 34)
  have HP := Lib.hid (h.below hb0)
  have HR := Lib.hid (Blk.new w 34 (bA (zeros 64)))
  have Hb0 := Lib.hid hb0
  have Hln : Hid (lnD (l.map ZcR.z) z = lnD S.R.zs z) := Lib.hid (by rw [h.zs])
  have dg : decide (off ≥ lnD S.R.zs z) = true := decide_eq_true hn
  have hz64 := zero_secF
  clear h hb0 hn
  go_enter Try.func15, Try.ntmps15
  go_upto_region 1 with fail
  generalize w.alloc (Obj.cells (bA (zeros 64)) 34) = w0 at *
  have c0 := HP.out.c0
  go_wp2_with fail
  refine (cln8 Hln.out HP.out.dv).mono ?_
  rintro e w1 ⟨rfl, hb⟩
  have HB1 := Lib.hid (bthen Hb0.out hb)
  have HR1 := Lib.hid (HR.out.below hb HR.out.lt)
  clear hb c0 HP HR Hb0
  generalize lnD S.R.zs z = ln at *
  go_wp2_with (first | (refine wpl_build (by rfl) 34 _ rfl (.agg (bA (zeros 64))) (fun _ => by kernel_rfl) ?_; go_frame) | (refine wpl_store rfl _ _ rfl (w.heap.size) (bA (zeros 64)) rfl rfl _ _ HR1.out (info_sec (zeros_length 64)) rfl (bA_one _) ?_; intro w9 hSg hKg; have HSg := Lib.hid hSg; have HKg := Lib.hid hKg; clear hSg hKg; go_frame))
  have HF : Hid (Below w.heap.size w w9) := Lib.hid (bkept HB1.out (Nat.le_refl _) HKg.out (fun i hi e => by omega))
  exact bodyPost_ret (v := .tuple #[.agg (bA (zeros 64)), .int .i64 0]) (results_cell_slot Try.results15 _ _ (w.heap.size) 34 _ _ _ rfl rfl HSg.out Try.underlying34 rfl (info_sec (zeros_length 64))) rfl ⟨rfl, HF.out⟩
set_option maxRecDepth 100000 in
set_option maxHeartbeats 2000000 in
theorem pspt_in {lo X D mb n : Nat} {w : World} {S : St8} {vz ve : Value} {l : List ZcR} {f : Int × Int → Option (List Nat × Int)} (z off : Int) (hz : (Lit.int .i64 z).wf = true) (ho : (Lit.int .i64 off).wf = true) (h : PdAt lo w X S D vz ve l mb n f) (hn : ¬ lnD S.R.zs z ≤ off) : Calls Try.prog 15 #[.pointer (some ⟨X, 0, none⟩), .int .i64 z, .int .i64 off] w fun e w' => e = .returned (.tuple #[.agg (bA (S.M z off).1), .int .i64 (S.M z off).2]) ∧ Below w.heap.size w w' := by
  have hb0 := below_alloc w (Obj.cells (bA (zeros 64)) 34)
  have HP := Lib.hid (h.below hb0)
  have HR := Lib.hid (Blk.new w 34 (bA (zeros 64)))
  have Hb0 := Lib.hid hb0
  have Hln : Hid (lnD (l.map ZcR.z) z = lnD S.R.zs z) := Lib.hid (by rw [h.zs])
  have H64 := Lib.hid (h.m64 z off)
  obtain ⟨L, hL⟩ := key_pl hz ho
  have HL := Lib.hid hL
  have dg : decide (off ≥ lnD S.R.zs z) = false := decide_eq_false hn
  have hz64 := zero_secF
  have hzh := Try.zeroHm2
  clear h hb0 hn hL hz ho
  go_enter Try.func15, Try.ntmps15
  go_upto_region 1 with fail
  generalize w.alloc (Obj.cells (bA (zeros 64)) 34) = w0 at *
  have c0 := HP.out.c0
  go_wp2_with fail
  refine (cln8 Hln.out HP.out.dv).mono ?_
  rintro e w1 ⟨rfl, hb⟩
  have HB1 := Lib.hid (bthen Hb0.out hb)
  have HR1 := Lib.hid (HR.out.below hb HR.out.lt)
  have HP1 := Lib.hid (HP.out.below hb)
  have c3 := HP1.out.c3
  have Hmk := Lib.hid (HP1.out.mkf z off)
  have Hmp := Lib.hid HP1.out.mp
  clear hb c0 HP HR Hb0 Hln HP1
  generalize lnD S.R.zs z = ln at *
  go_upto_region 4 with (first | (refine wpl_run (by rfl) (.agg (hmA (S.M z off))) (exec_lookM _ _ rfl z off HL.out rfl rfl Hmp.out Hmk.out) ?_; go_frame) | (refine wpl_store_new rfl _ _ rfl (hmA (S.M z off)) w1 100 (hmA (zeros 64, 0)) rfl rfl rfl (infoHmA H64.out.1) (by rw [hmA_size H64.out.1, hmA_size (zeros_length 64)]) (hmA_one _) ?_; go_frame))
  have hb3 := below_alloc w1 (Obj.cells (hmA (S.M z off)) 100)
  have HB3 := Lib.hid (bthen HB1.out hb3)
  have HR3 := Lib.hid (HR1.out.below hb3 HR1.out.lt)
  have HH3 := Lib.hid (Blk.new w1 100 (hmA (S.M z off)))
  have HnZ : Hid (¬ w1.heap.size = w.heap.size) := Lib.hid (fun e9 => by have := HR1.out.lt; omega)
  clear hb3 HB1 HR1 c3 Hmp Hmk hzh dg
  generalize w1.alloc (Obj.cells (hmA (S.M z off)) 100) = w3 at *
  generalize w1.heap.size = Z at *
  refine wp_region_held (S := fun w' => Kept (· = w.heap.size) w3 w') (by kernel_rfl) ?_
  change wpAnyH _ _ _ _ _ _ _ _ (World.drew _)
  have hS : Kept (· = w.heap.size) w3 w3.drew := (Kept.refl _ _).drew
  have hB0 : Below w3.heap.size w3 w3.drew := (Below.refl _ _).drew
  refine takeH hS (i := 0) (d := 26) (v := .pointer (some ⟨Z, 0, none⟩)) rfl rfl (by kernel_rfl) (by kernel_rfl) (by kernel_rfl) (fun _ _ _ h => h) (Or.inl ⟨by kernel_rfl, fun w' hw' => by kernel_rfl⟩) ?_
  refine takeH hS (i := 1) (d := 27) (v := .agg (bA (S.M z off).1)) rfl rfl (by kernel_rfl) (by kernel_rfl) (by kernel_rfl) (fun _ _ _ h => h) (Or.inl ⟨by kernel_rfl, fun w' hw' => by exact exec_load_b _ _ rfl Z 0 rfl (S.M z off).1 _ (hm_range (HH3.out.kept hw' HnZ.out)) Try.underlying34 rfl (infoSecL H64.out.1)⟩) ?_
  refine takeH hS (i := 2) (d := 28) (v := .pointer (some ⟨Z, 64, none⟩)) rfl rfl (by kernel_rfl) (by kernel_rfl) (by kernel_rfl) (fun _ _ _ h => h) (Or.inl ⟨by kernel_rfl, fun w' hw' => by kernel_rfl⟩) ?_
  refine takeH hS (i := 3) (d := 29) (v := .int .i64 ((S.M z off).2)) rfl rfl (by kernel_rfl) (by kernel_rfl) (by kernel_rfl) (fun _ _ _ h => h) (Or.inl ⟨by kernel_rfl, fun w' hw' => by exact exec_cell _ rfl ⟨Z, 64, none⟩ rfl _ Try.underlying3 (((HH3.out.kept hw' HnZ.out).cell 64).trans (hmA_n H64.out.1))⟩) ?_
  try go_frame
  refine nextH (i := 4) rfl (by kernel_rfl) (by kernel_rfl) (fun K' hK => ?_)
  refine wpo_store _ _ rfl (w.heap.size) (bA (S.M z off).1) rfl rfl _ _ (HR3.out.below hB0 HR3.out.lt) (info_sec H64.out.1) (by rw [bA_size, bA_size, zeros_length, H64.out.1]) (bA_one _) ?_
  intro w3c1 hb9 hk9
  have HSg := Lib.hid hb9
  have hS1 : Kept (· = w.heap.size) w3 w3c1 := hS.trans hk9
  refine hK.out _ _ ⟨hS1, ?_⟩
  clear hK K' hb9 hk9 hS
  change wpAnyH _ _ _ _ _ _ _ (Act.put _ none undef) _
  refine takeH hS1 (i := 5) (d := 7) (v := .int .i64 ((S.M z off).2)) rfl rfl (by kernel_rfl) (by kernel_rfl) (by kernel_rfl) (fun _ _ _ h => h) (Or.inl ⟨by kernel_rfl, fun w' hw' => by kernel_rfl⟩) ?_
  refine wpAnyH_done (by kernel_rfl) ?_ _
  try go_frame
  have HF : Hid (Below w.heap.size w w3c1) := Lib.hid (bkept HB3.out (Nat.le_refl _) hS1 (fun i hi e => by omega))
  clear hS1
  generalize w3c1 = w9 at *
  go_wp2_with fail
  exact bodyPost_ret (v := .tuple #[.agg (bA (S.M z off).1), .int .i64 (S.M z off).2]) (results_cell_slot Try.results15 _ _ (w.heap.size) 34 _ _ _ rfl rfl HSg.out Try.underlying34 rfl (info_sec H64.out.1)) rfl ⟨rfl, HF.out⟩
theorem pspt {lo X : Nat} {w : World} {S : St8} {F : Nat → Prop} (z off : Int) (hz : (Lit.int .i64 z).wf = true) (ho : (Lit.int .i64 off).wf = true) (h : pdAt lo w X S F) : Calls Try.prog 15 #[.pointer (some ⟨X, 0, none⟩), .int .i64 z, .int .i64 off] w fun e w' => e = .returned (.tuple #[.agg (bA (spV S z off).1), .int .i64 (spV S z off).2]) ∧ Below w.heap.size w w' := by
  obtain ⟨D, vz, ve, l, mb, n, f, h, rfl⟩ := h
  unfold spV
  by_cases hn : lnD S.R.zs z ≤ off
  · rw [if_pos hn]; exact pspt_no z off h hn
  · rw [if_neg hn]; exact pspt_in z off hz ho h hn
theorem pdAt.m64 {lo X : Nat} {w : World} {S : St8} {F : Nat → Prop} (h : pdAt lo w X S F) (z o : Int) : (S.M z o).1.length = 64 ∧ ∀ c ∈ (S.M z o).1, c < 256 := by
  obtain ⟨D, vz, ve, l, mb, n, f, h, rfl⟩ := h
  exact h.m64 z o
theorem pdAt.notdef {lo X : Nat} {w : World} {S : St8} {F : Nat → Prop} (h : pdAt lo w X S F) {i : Nat} (hi : F i) (ds : Option (List Deferred)) : w.heap[i]? ≠ some (.deferred ds) := by
  obtain ⟨D, vz, ve, l, mb, n, f, h, rfl⟩ := h
  intro e
  rcases hi with rfl | hi | hi | rfl
  · have h1 := h.blk
    unfold Blk at h1
    rw [e] at h1; cases h1
  · obtain ⟨o, ho, hc⟩ := h.dv.cells hi
    rw [e] at ho; injection ho with ho; subst ho; cases hc
  · obtain ⟨o, ho, hc⟩ := own_cells h.ev.own hi
    rw [e] at ho; injection ho with ho; subst ho; cases hc
  · obtain ⟨es, clock, hb, _⟩ := h.mp
    rw [e] at hb; cases hb
theorem Marks.keptF {B : Nat} {ds : List Deferred} {w w' : World} {F : Nat → Prop} (h : Marks B ds w) (k : Kept F w w') (hn : ∀ i, F i → w.heap[i]? ≠ some (.deferred (some []))) : Marks B ds w' := by
  obtain ⟨Ds, h1, h2, h3⟩ := h
  refine ⟨Ds, h1, h2, fun D hD => ⟨(h3 D hD).1, ?_⟩⟩
  have hl := (Array.getElem?_eq_some_iff.1 (h3 D hD).2).1
  exact (k.block D hl (fun hF => hn D hF (h3 D hD).2)).trans (h3 D hD).2
structure LvM (w : World) (X Y : Nat) (S : St8) (F : Nat → Prop) (vz vc vh : Value) (ds : List Deferred) (W : World) : Prop where
  J : LvJ theDrv w X Y S F vz vc vh W
  T : Blk W w.heap.size 4 #[.bool false]
  nT : ¬ F w.heap.size
  M : Marks w.heap.size ds W
  nY : w.heap.size ≠ Y
section
variable {w W W' W2 : World} {X Y : Nat} {S S' : St8} {F : Nat → Prop} {vz vc vh vz' vc' vh' : Value} {ds : List Deferred}
theorem LvM.below (h : LvM w X Y S F vz vc vh ds W) (hb : Below W.heap.size W W') : LvM w X Y S F vz vc vh ds W' := ⟨h.J.below hb, h.T.below hb h.T.lt, h.nT, h.M.mono (keepsOthers_below hb), h.nY⟩
theorem LvM.keptB {U : TypeId} {cs : Array Value} {g : Nat} (h : LvM w X Y S F vz vc vh ds W) (hg : Blk W g U cs) (hl : w.heap.size < g) (hF : ¬ F g) (h0 : U ≠ 30) (h1 : U ≠ 83) (h2 : U ≠ 87) (h3 : U ≠ 33) (hk : Kept (· = g) W W') : LvM w X Y S F vz vc vh ds W' :=
  ⟨h.J.keptB hg (Nat.le_of_lt hl) hF h0 h1 h2 h3 hk, h.T.kept hk (by omega), h.nT, h.M.keptF hk (fun i hi e => by subst hi; unfold Blk at hg; rw [e] at hg; cases hg), h.nY⟩
theorem LvM.next (h : LvM w X Y S F vz vc vh ds W) (hd : Dc w.heap.size W2 vz' vc' vh' S'.R) (hT : DrTo theDrv w.heap.size W X F S' W2) (hb : Blk W' Y 30 (d8A (dd7 S'.R.d) vz' vc' vh')) (hk : Kept (· = Y) W2 W') :
    ∃ F', LvM w X Y S' F' vz' vc' vh' ds W' ∧ (∀ g t cs, Blk W g t cs → ¬ F g → g ≠ Y → Blk W' g t cs ∧ ¬ F' g) := by
  have hY2 : Blk W2 Y 30 (d8A (dd7 S.R.d) vz vc vh) := by
    obtain ⟨F', k1, k2, k3⟩ := hT
    exact h.J.bY.kept k2 (theDrv.not h.J.at_ h.J.bY (by decide))
  have hM2 : Marks w.heap.size ds W2 := by
    obtain ⟨F', k1, k2, k3⟩ := hT
    exact h.M.keptF k2 (fun i hi => pdAt.notdef h.J.at_ hi _)
  obtain ⟨F', k1, k2⟩ := h.J.next hd hT hb hk
  obtain ⟨t1, t2⟩ := k2 _ _ _ h.T h.nT h.nY
  exact ⟨F', ⟨k1, t1, t2, hM2.keptF hk (fun i hi e => by subst hi; unfold Blk at hY2; rw [e] at hY2; cases hY2), h.nY⟩, k2⟩
theorem LvM.fresh (h : LvM w X Y S F vz vc vh ds W) {i : Nat} (hi : F i) : i < W.heap.size := theDrv.lt h.J.at_ hi
end
theorem Bd.succ {S : St8} {n j : Nat} (h : Bd S n j) : Bd S n (j + 1) := ⟨h.n0, by have := h.n1; omega, h.cs, by have := h.h; omega, h.len⟩
theorem exec_field0 {w : World} {o : Oper} {a : Act} (x : Operand) (ho : o.op = .field 37 x 4) (hx : a.eval x = .agg (evA ev0)) : (execOp a.eval o).run Try.prog w = .ok (.value (.agg (bA (zeros 64)))) w := by
  unfold execOp
  simp only [ho, hx]
  kernel_rfl
theorem LvM.ownF {β : Type} {w X0 : World} {X Y : Nat} {S : St8} {F : Nat → Prop} {vz vc vh : Value} {ds : List Deferred} (h0 : LvM w X Y S F vz vc vh ds X0) : OwnFrom (β := β) X0.heap.size (fun _ W => LvM w X Y S F vz vc vh ds W ∧ X0.heap.size ≤ W.heap.size) := fun s V V' row ⟨h, hsz⟩ hg hr => by
  have hfr : ∀ i, F i → ¬ row = some i := fun i hi e => by have := (hr i e).1; have := h0.fresh hi; omega
  have hbl : ∀ {g t cs}, Blk V g t cs → Blk V' g t cs := fun hb => Own.from (blk_own (β := β) _ _ (fun _ => _)) _ s V V' row hb hg hr
  obtain ⟨hm1, hm2⟩ := ownFrom_marks (β := β) h0.M (Nat.le_refl _) s V V' row ⟨h.M, hsz⟩ hg hr
  exact ⟨⟨⟨theDrv.kept h.J.at_ (kept_grown hg) (fun i hi e => hfr i hi e), ownF_dc (β := β) s V V' row h.J.dc hg hr, hbl h.J.bY, ownFrom_below (β := β) (Nat.le_refl _) h0.J.B.size s V V' row h.J.B hg hr, h.J.loY⟩, hbl h.T, h.nT, hm1, h.nY⟩, hm2⟩
theorem pdAt.notT {lo X : Nat} {w : World} {S : St8} {F : Nat → Prop} (h : pdAt lo w X S F) {g : Nat} {t : TypeId} {cs : Array Value} (hg : Blk w g t cs) (h0 : t ≠ 91) (h1 : t ≠ 96) (h2 : t ≠ 93) (h3 : t ≠ 114) (h4 : t ≠ 34) (h5 : t ≠ 37) : ¬ F g := by
  obtain ⟨D, vz, ve, l, mb, n, f, h, rfl⟩ := h
  exact h.not hg h0 h1 h2 h3 h4 h5
end Go.Proofs.Ytajkajgnjcnolaa

