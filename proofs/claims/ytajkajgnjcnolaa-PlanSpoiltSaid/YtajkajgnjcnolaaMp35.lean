import Derived.Test.YtajkajgnjcnolaaMp34
import Derived.Test.YtajkajgnjcnolaaMp27
import Derived.RangeFuncFrom
import Derived.Sort.CutIn
namespace Go.Proofs.Ytajkajgnjcnolaa
open Go.RowKit Go.Maps Go.Shelf
set_option linter.unusedVariables false
set_option linter.unnecessarySimpa false
set_option linter.unusedSimpArgs false
def spV (S : St8) (z off : Int) : List Nat × Int := if lnD S.R.zs z ≤ off then (zeros 64, 0) else S.M z off
set_option maxRecDepth 100000 in
set_option maxHeartbeats 2000000 in
theorem pspt_no {lo X D mb n : Nat} {w : World} {S : St8} {vz ve : Value} {l : List ZcR} {f : Int × Int → Option (List Nat × Int)} (z off : Int) (h : PdAt lo w X S D vz ve l mb n f) (hn : lnD S.R.zs z ≤ off) : Calls Try.prog 15 #[.pointer (some ⟨X, 0, none⟩), .int .i64 z, .int .i64 off] w fun e w' => e = .returned (.tuple #[.agg (bA (zeros 64)), .int .i64 0]) ∧ Below w.heap.size w w' := by
  have hb0 := below_alloc w (Obj.cells (bA (zeros 64)) 34)
  have HP := Lib.hid (h.below hb0)
  have HR := Lib.hid (Blk.new w 34 (bA (zeros 64)))
  have Hb0 := Lib.hid hb0
  have Hln : Hid (lnD (l.map ZcR.z) z = lnD S.R.zs z) := Lib.hid (by rw [h.zs])
  have dg : decide (off ≥ lnD S.R.zs z) = true := decide_eq_true hn
  have hz64 := zero_secF
  clear h hb0 hn
  go_enter Try.func15, Try.ntmps15
  go_upto_region 1 with fail
  generalize w.alloc (Obj.cells (bA (zeros 64)) 34) = w0 at *
  have c0 := HP.out.c0
  go_wp2_with fail
  refine (cln8 Hln.out HP.out.dv).mono ?_
  rintro e w1 ⟨rfl, hb⟩
  have HB1 := Lib.hid (bthen Hb0.out hb)
  have HR1 := Lib.hid (HR.out.below hb HR.out.lt)
  clear hb c0 HP HR Hb0
  generalize lnD S.R.zs z = ln at *
  go_wp2_with (first | (refine wpl_build (by rfl) 34 _ rfl (.agg (bA (zeros 64))) (fun _ => by kernel_rfl) ?_; go_frame) | (refine wpl_store rfl _ _ rfl (w.heap.size) (bA (zeros 64)) rfl rfl _ _ HR1.out (info_sec (zeros_length 64)) rfl (bA_one _) ?_; intro w9 hSg hKg; have HSg := Lib.hid hSg; have HKg := Lib.hid hKg; clear hSg hKg; go_frame))
  have HF : Hid (Below w.heap.size w w9) := Lib.hid (bkept HB1.out (Nat.le_refl _) HKg.out (fun i hi e => by omega))
  exact bodyPost_ret (v := .tuple #[.agg (bA (zeros 64)), .int .i64 0]) (results_cell_slot Try.results15 _ _ (w.heap.size) 34 _ _ _ rfl rfl HSg.out Try.underlying34 rfl (info_sec (zeros_length 64))) rfl ⟨rfl, HF.out⟩
set_option maxRecDepth 100000 in
set_option maxHeartbeats 2000000 in
theorem pspt_in {lo X D mb n : Nat} {w : World} {S : St8} {vz ve : Value} {l : List ZcR} {f : Int × Int → Option (List Nat × Int)} (z off : Int) (hz : (Lit.int .i64 z).wf = true) (ho : (Lit.int .i64 off).wf = true) (h : PdAt lo w X S D vz ve l mb n f) (hn : ¬ lnD S.R.zs z ≤ off) : Calls Try.prog 15 #[.pointer (some ⟨X, 0, none⟩), .int .i64 z, .int .i64 off] w fun e w' => e = .returned (.tuple #[.agg (bA (S.M z off).1), .int .i64 (S.M z off).2]) ∧ Below w.heap.size w w' := by
  have hb0 := below_alloc w (Obj.cells (bA (zeros 64)) 34)
  have HP := Lib.hid (h.below hb0)
  have HR := Lib.hid (Blk.new w 34 (bA (zeros 64)))
  have Hb0 := Lib.hid hb0
  have Hln : Hid (lnD (l.map ZcR.z) z = lnD S.R.zs z) := Lib.hid (by rw [h.zs])
  have H64 := Lib.hid (h.m64 z off)
  obtain ⟨L, hL⟩ := key_pl hz ho
  have HL := Lib.hid hL
  have dg : decide (off ≥ lnD S.R.zs z) = false := decide_eq_false hn
  have hz64 := zero_secF
  have hzh := Try.zeroHm2
  clear h hb0 hn hL hz ho
  go_enter Try.func15, Try.ntmps15
  go_upto_region 1 with fail
  generalize w.alloc (Obj.cells (bA (zeros 64)) 34) = w0 at *
  have c0 := HP.out.c0
  go_wp2_with fail
  refine (cln8 Hln.out HP.out.dv).mono ?_
  rintro e w1 ⟨rfl, hb⟩
  have HB1 := Lib.hid (bthen Hb0.out hb)
  have HR1 := Lib.hid (HR.out.below hb HR.out.lt)
  have HP1 := Lib.hid (HP.out.below hb)
  have c3 := HP1.out.c3
  have Hmk := Lib.hid (HP1.out.mkf z off)
  have Hmp := Lib.hid HP1.out.mp
  clear hb c0 HP HR Hb0 Hln HP1
  generalize lnD S.R.zs z = ln at *
  go_upto_region 4 with (first | (refine wpl_run (by rfl) (.agg (hmA (S.M z off))) (exec_lookM _ _ rfl z off HL.out rfl rfl Hmp.out Hmk.out) ?_; go_frame) | (refine wpl_store_new rfl _ _ rfl (hmA (S.M z off)) w1 100 (hmA (zeros 64, 0)) rfl rfl rfl (infoHmA H64.out.1) (by rw [hmA_size H64.out.1, hmA_size (zeros_length 64)]) (hmA_one _) ?_; go_frame))
  have hb3 := below_alloc w1 (Obj.cells (hmA (S.M z off)) 100)
  have HB3 := Lib.hid (bthen HB1.out hb3)
  have HR3 := Lib.hid (HR1.out.below hb3 HR1.out.lt)
  have HH3 := Lib.hid (Blk.new w1 100 (hmA (S.M z off)))
  have HnZ : Hid (¬ w1.heap.size = w.heap.size) := Lib.hid (fun e9 => by have := HR1.out.lt; omega)
  clear hb3 HB1 HR1 c3 Hmp Hmk hzh dg
  generalize w1.alloc (Obj.cells (hmA (S.M z off)) 100) = w3 at *
  generalize w1.heap.size = Z at *
  refine wp_region_held (S := fun w' => Kept (· = w.heap.size) w3 w') (by kernel_rfl) ?_
  change wpAnyH _ _ _ _ _ _ _ _ (World.drew _)
  have hS : Kept (· = w.heap.size) w3 w3.drew := (Kept.refl _ _).drew
  have hB0 : Below w3.heap.size w3 w3.drew := (Below.refl _ _).drew
  refine takeH hS (i := 0) (d := 26) (v := .pointer (some ⟨Z, 0, none⟩)) rfl rfl (by kernel_rfl) (by kernel_rfl) (by kernel_rfl) (fun _ _ _ h => h) (Or.inl ⟨by kernel_rfl, fun w' hw' => by kernel_rfl⟩) ?_
  refine takeH hS (i := 1) (d := 27) (v := .agg (bA (S.M z off).1)) rfl rfl (by kernel_rfl) (by kernel_rfl) (by kernel_rfl) (fun _ _ _ h => h) (Or.inl ⟨by kernel_rfl, fun w' hw' => by exact exec_load_b _ _ rfl Z 0 rfl (S.M z off).1 _ (hm_range (HH3.out.kept hw' HnZ.out)) Try.underlying34 rfl (infoSecL H64.out.1)⟩) ?_
  refine takeH hS (i := 2) (d := 28) (v := .pointer (some ⟨Z, 64, none⟩)) rfl rfl (by kernel_rfl) (by kernel_rfl) (by kernel_rfl) (fun _ _ _ h => h) (Or.inl ⟨by kernel_rfl, fun w' hw' => by kernel_rfl⟩) ?_
  refine takeH hS (i := 3) (d := 29) (v := .int .i64 ((S.M z off).2)) rfl rfl (by kernel_rfl) (by kernel_rfl) (by kernel_rfl) (fun _ _ _ h => h) (Or.inl ⟨by kernel_rfl, fun w' hw' => by exact exec_cell _ rfl ⟨Z, 64, none⟩ rfl _ Try.underlying3 (((HH3.out.kept hw' HnZ.out).cell 64).trans (hmA_n H64.out.1))⟩) ?_
  try go_frame
  refine nextH (i := 4) rfl (by kernel_rfl) (by kernel_rfl) (fun K' hK => ?_)
  refine wpo_store _ _ rfl (w.heap.size) (bA (S.M z off).1) rfl rfl _ _ (HR3.out.below hB0 HR3.out.lt) (info_sec H64.out.1) (by rw [bA_size, bA_size, zeros_length, H64.out.1]) (bA_one _) ?_
  intro w3c1 hb9 hk9
  have HSg := Lib.hid hb9
  have hS1 : Kept (· = w.heap.size) w3 w3c1 := hS.trans hk9
  refine hK.out _ _ ⟨hS1, ?_⟩
  clear hK K' hb9 hk9 hS
  change wpAnyH _ _ _ _ _ _ _ (Act.put _ none undef) _
  refine takeH hS1 (i := 5) (d := 7) (v := .int .i64 ((S.M z off).2)) rfl rfl (by kernel_rfl) (by kernel_rfl) (by kernel_rfl) (fun _ _ _ h => h) (Or.inl ⟨by kernel_rfl, fun w' hw' => by kernel_rfl⟩) ?_
  refine wpAnyH_done (by kernel_rfl) ?_ _
  try go_frame
  have HF : Hid (Below w.heap.size w w3c1) := Lib.hid (bkept HB3.out (Nat.le_refl _) hS1 (fun i hi e => by omega))
  clear hS1
  generalize w3c1 = w9 at *
  go_wp2_with fail
  exact bodyPost_ret (v := .tuple #[.agg (bA (S.M z off).1), .int .i64 (S.M z off).2]) (results_cell_slot Try.results15 _ _ (w.heap.size) 34 _ _ _ rfl rfl HSg.out Try.underlying34 rfl (info_sec H64.out.1)) rfl ⟨rfl, HF.out⟩
theorem pspt {lo X : Nat} {w : World} {S : St8} {F : Nat → Prop} (z off : Int) (hz : (Lit.int .i64 z).wf = true) (ho : (Lit.int .i64 off).wf = true) (h : pdAt lo w X S F) : Calls Try.prog 15 #[.pointer (some ⟨X, 0, none⟩), .int .i64 z, .int .i64 off] w fun e w' => e = .returned (.tuple #[.agg (bA (spV S z off).1), .int .i64 (spV S z off).2]) ∧ Below w.heap.size w w' := by
  obtain ⟨D, vz, ve, l, mb, n, f, h, rfl⟩ := h
  unfold spV
  by_cases hn : lnD S.R.zs z ≤ off
  · rw [if_pos hn]; exact pspt_no z off h hn
  · rw [if_neg hn]; exact pspt_in z off hz ho h hn
theorem pdAt.m64 {lo X : Nat} {w : World} {S : St8} {F : Nat → Prop} (h : pdAt lo w X S F) (z o : Int) : (S.M z o).1.length = 64 ∧ ∀ c ∈ (S.M z o).1, c < 256 := by
  obtain ⟨D, vz, ve, l, mb, n, f, h, rfl⟩ := h
  exact h.m64 z o
theorem pdAt.notdef {lo X : Nat} {w : World} {S : St8} {F : Nat → Prop} (h : pdAt lo w X S F) {i : Nat} (hi : F i) (ds : Option (List Deferred)) : w.heap[i]? ≠ some (.deferred ds) := by
  obtain ⟨D, vz, ve, l, mb, n, f, h, rfl⟩ := h
  intro e
  rcases hi with rfl | hi | hi | rfl
  · have h1 := h.blk
    unfold Blk at h1
    rw [e] at h1; cases h1
  · obtain ⟨o, ho, hc⟩ := h.dv.cells hi
    rw [e] at ho; injection ho with ho; subst ho; cases hc
  · obtain ⟨o, ho, hc⟩ := own_cells h.ev.own hi
    rw [e] at ho; injection ho with ho; subst ho; cases hc
  · obtain ⟨es, clock, hb, _⟩ := h.mp
    rw [e] at hb; cases hb
theorem Marks.keptF {B : Nat} {ds : List Deferred} {w w' : World} {F : Nat → Prop} (h : Marks B ds w) (k : Kept F w w') (hn : ∀ i, F i → w.heap[i]? ≠ some (.deferred (some []))) : Marks B ds w' := by
  obtain ⟨Ds, h1, h2, h3⟩ := h
  refine ⟨Ds, h1, h2, fun D hD => ⟨(h3 D hD).1, ?_⟩⟩
  have hl := (Array.getElem?_eq_some_iff.1 (h3 D hD).2).1
  exact (k.block D hl (fun hF => hn D hF (h3 D hD).2)).trans (h3 D hD).2
structure LvM (w : World) (X Y : Nat) (S : St8) (F : Nat → Prop) (vz vc vh : Value) (ds : List Deferred) (W : World) : Prop where
  J : LvJ theDrv w X Y S F vz vc vh W
  T : Blk W w.heap.size 4 #[.bool false]
  nT : ¬ F w.heap.size
  M : Marks w.heap.size ds W
  nY : w.heap.size ≠ Y
section
variable {w W W' W2 : World} {X Y : Nat} {S S' : St8} {F : Nat → Prop} {vz vc vh vz' vc' vh' : Value} {ds : List Deferred}
theorem LvM.below (h : LvM w X Y S F vz vc vh ds W) (hb : Below W.heap.size W W') : LvM w X Y S F vz vc vh ds W' := ⟨h.J.below hb, h.T.below hb h.T.lt, h.nT, h.M.mono (keepsOthers_below hb), h.nY⟩
theorem LvM.keptB {U : TypeId} {cs : Array Value} {g : Nat} (h : LvM w X Y S F vz vc vh ds W) (hg : Blk W g U cs) (hl : w.heap.size < g) (hF : ¬ F g) (h0 : U ≠ 30) (h1 : U ≠ 83) (h2 : U ≠ 87) (h3 : U ≠ 33) (hk : Kept (· = g) W W') : LvM w X Y S F vz vc vh ds W' :=
  ⟨h.J.keptB hg (Nat.le_of_lt hl) hF h0 h1 h2 h3 hk, h.T.kept hk (by omega), h.nT, h.M.keptF hk (fun i hi e => by subst hi; unfold Blk at hg; rw [e] at hg; cases hg), h.nY⟩
theorem LvM.next (h : LvM w X Y S F vz vc vh ds W) (hd : Dc w.heap.size W2 vz' vc' vh' S'.R) (hT : DrTo theDrv w.heap.size W X F S' W2) (hb : Blk W' Y 30 (d8A (dd7 S'.R.d) vz' vc' vh')) (hk : Kept (· = Y) W2 W') :
    ∃ F', LvM w X Y S' F' vz' vc' vh' ds W' ∧ (∀ g t cs, Blk W g t cs → ¬ F g → g ≠ Y → Blk W' g t cs ∧ ¬ F' g) := by
  have hY2 : Blk W2 Y 30 (d8A (dd7 S.R.d) vz vc vh) := by
    obtain ⟨F', k1, k2, k3⟩ := hT
    exact h.J.bY.kept k2 (theDrv.not h.J.at_ h.J.bY (by decide))
  have hM2 : Marks w.heap.size ds W2 := by
    obtain ⟨F', k1, k2, k3⟩ := hT
    exact h.M.keptF k2 (fun i hi => pdAt.notdef h.J.at_ hi _)
  obtain ⟨F', k1, k2⟩ := h.J.next hd hT hb hk
  obtain ⟨t1, t2⟩ := k2 _ _ _ h.T h.nT h.nY
  exact ⟨F', ⟨k1, t1, t2, hM2.keptF hk (fun i hi e => by subst hi; unfold Blk at hY2; rw [e] at hY2; cases hY2), h.nY⟩, k2⟩
theorem LvM.fresh (h : LvM w X Y S F vz vc vh ds W) {i : Nat} (hi : F i) : i < W.heap.size := theDrv.lt h.J.at_ hi
end
theorem Bd.succ {S : St8} {n j : Nat} (h : Bd S n j) : Bd S n (j + 1) := ⟨h.n0, by have := h.n1; omega, h.cs, by have := h.h; omega, h.len⟩
theorem LvM.ownF {β : Type} {w X0 : World} {X Y : Nat} {S : St8} {F : Nat → Prop} {vz vc vh : Value} {ds : List Deferred} (h0 : LvM w X Y S F vz vc vh ds X0) : OwnFrom (β := β) X0.heap.size (fun _ W => LvM w X Y S F vz vc vh ds W ∧ X0.heap.size ≤ W.heap.size) := fun s V V' row ⟨h, hsz⟩ hg hr => by
  have hfr : ∀ i, F i → ¬ row = some i := fun i hi e => by have := (hr i e).1; have := h0.fresh hi; omega
  have hbl : ∀ {g t cs}, Blk V g t cs → Blk V' g t cs := fun hb => Own.from (blk_own (β := β) _ _ (fun _ => _)) _ s V V' row hb hg hr
  obtain ⟨hm1, hm2⟩ := ownFrom_marks (β := β) h0.M (Nat.le_refl _) s V V' row ⟨h.M, hsz⟩ hg hr
  exact ⟨⟨⟨theDrv.kept h.J.at_ (kept_grown hg) (fun i hi e => hfr i hi e), ownF_dc (β := β) s V V' row h.J.dc hg hr, hbl h.J.bY, ownFrom_below (β := β) (Nat.le_refl _) h0.J.B.size s V V' row h.J.B hg hr, h.J.loY⟩, hbl h.T, h.nT, hm1, h.nY⟩, hm2⟩
theorem pdAt.notT {lo X : Nat} {w : World} {S : St8} {F : Nat → Prop} (h : pdAt lo w X S F) {g : Nat} {t : TypeId} {cs : Array Value} (hg : Blk w g t cs) (h0 : t ≠ 91) (h1 : t ≠ 96) (h2 : t ≠ 93) (h3 : t ≠ 114) (h4 : t ≠ 34) (h5 : t ≠ 37) : ¬ F g := by
  obtain ⟨D, vz, ve, l, mb, n, f, h, rfl⟩ := h
  exact h.not hg h0 h1 h2 h3 h4 h5
end Go.Proofs.Ytajkajgnjcnolaa

namespace Go.Proofs.Ytajkajgnjcnolaa
open Go.RowKit
set_option linter.unusedVariables false
set_option linter.unnecessarySimpa false
set_option linter.unusedSimpArgs false
theorem zx_assoc (a b c : List Nat) : zx (zx a b 64) c 64 = zx a (zx b c 64) 64 := by
  apply List.ext_getElem
  · simp [zx_length]
  · intro i h1 h2
    have hi : i < 64 := by rw [zx_length] at h1; exact h1
    have hz : ∀ x y : List Nat, (zx x y 64).getD i 0 = x.getD i 0 ^^^ y.getD i 0 := fun x y => by simp [zx, List.getD, hi]
    have hg : ∀ x y : List Nat, ∀ h : i < (zx x y 64).length, (zx x y 64)[i] = x.getD i 0 ^^^ y.getD i 0 := fun x y h => by simp [zx]
    rw [hg, hg, hz, hz, Nat.xor_assoc]
theorem zx_zeros {a : List Nat} (h : a.length = 64) : zx a (zeros 64) 64 = a := by
  apply List.ext_getElem
  · rw [zx_length, h]
  · intro i h1 h2
    have hi : i < 64 := by rw [zx_length] at h1; exact h1
    have hz : (zeros 64).getD i 0 = 0 := by unfold zeros; rw [List.getD_eq_getElem?_getD, List.getElem?_replicate, if_pos hi]; rfl
    simp only [zx, List.getElem_map, List.getElem_range]
    rw [hz, List.getD_eq_getElem?_getD, List.getElem?_eq_getElem h2]
    simp
structure SpZ (i : Nat) (z : ZsR) (ws : List (List Nat)) (M : Mk) : Prop where
  len : ws.length = z.ss.length
  each : ∀ (k : Nat) x w, z.ss[k]? = some x → ws[k]? = some w → x = zx w (M i k).1 64
  none : ∀ k : Nat, k < z.ss.length → (M i k).1.length = 64 ∧ 0 ≤ (M i k).2 ∧ ((M i k).2 = 0 → (M i k).1 = zeros 64)
  w64 : ∀ w ∈ ws, w.length = 64
structure SpI (zs : List ZsR) (Wr : List (List (List Nat))) (M : Mk) : Prop where
  len : Wr.length = zs.length
  each : ∀ (i : Nat) z ws, zs[i]? = some z → Wr[i]? = some ws → SpZ i z ws M
theorem SpZ.same {i : Nat} {z z' : ZsR} {ws : List (List Nat)} {M : Mk} (h : SpZ i z ws M) (hs : z'.ss = z.ss) : SpZ i z' ws M :=
  ⟨by rw [hs]; exact h.len, by rw [hs]; exact h.each, by rw [hs]; exact h.none, h.w64⟩
theorem SpZ.take {i : Nat} {z z' : ZsR} {ws : List (List Nat)} {M : Mk} (h : SpZ i z ws M) (n : Nat) (hn : n ≤ z.ss.length) (hs : z'.ss = z.ss.take n) : SpZ i z' (ws.take n) M := by
  have hl := h.len
  have hl' : z'.ss.length = n := by rw [hs, List.length_take]; omega
  refine ⟨by rw [hl', List.length_take]; omega, fun k x w hx hw => ?_, fun k hk => h.none k (by omega), fun w hw => h.w64 w (List.mem_of_mem_take hw)⟩
  have hk : k < n := by rw [← hl']; exact (List.getElem?_eq_some_iff.1 hx).1
  rw [hs, List.getElem?_take_of_lt hk] at hx
  rw [List.getElem?_take_of_lt hk] at hw
  exact h.each k x w hx hw
theorem SpZ.spoil {i : Nat} {z : ZsR} {ws : List (List Nat)} {M : Mk} (h : SpZ i z ws M) (off : Int) (p : List Nat) (hh : holS z off = true) : SpZ i (chS7 z off p) ws (mkS M (i : Int) off p) := by
  obtain ⟨o1, o2⟩ : 0 ≤ off ∧ off < (z.ss.length : Int) := by unfold holS at hh; simpa using hh
  obtain ⟨j, rfl⟩ := Int.eq_ofNat_of_zero_le o1
  have hch : chS7 z (j : Int) p = { z with ss := z.ss.set j (zx (z.ss.getD j []) p 64) } := by unfold chS7; rw [if_pos hh, Int.toNat_natCast]
  rw [hch]
  have hjz : j < z.ss.length := by omega
  refine ⟨by show _ = (z.ss.set _ _).length; rw [List.length_set]; exact h.len, fun k x w hx hw => ?_, fun k hk => ?_, h.w64⟩
  · have hx' : (z.ss.set j (zx (z.ss.getD j []) p 64))[k]? = some x := hx
    unfold mkS
    by_cases hkj : k = j
    · subst hkj
      rw [List.getElem?_set_self hjz] at hx'
      injection hx' with hx'
      rw [if_pos ⟨rfl, rfl⟩, ← hx']
      show zx (z.ss.getD k []) p 64 = zx w (zx (M i k).1 p 64) 64
      rw [List.getD_eq_getElem?_getD, List.getElem?_eq_getElem hjz]
      show zx z.ss[k] p 64 = _
      rw [h.each k z.ss[k] w (List.getElem?_eq_getElem hjz) hw, zx_assoc]
    · rw [List.getElem?_set_ne (fun e => hkj e.symm)] at hx'
      rw [if_neg (fun e => hkj (by omega))]
      exact h.each k x w hx' hw
  · have hk' : k < z.ss.length := by have : k < (z.ss.set j (zx (z.ss.getD j []) p 64)).length := hk; rwa [List.length_set] at this
    obtain ⟨a, b, c⟩ := h.none k hk'
    unfold mkS
    split
    · exact ⟨zx_length _ _ _, by show 0 ≤ (M i k).2 + 1; omega, fun e => by have e' : (M i k).2 + 1 = 0 := e; omega⟩
    · exact ⟨a, b, c⟩
theorem SpZ.far {i : Nat} {z : ZsR} {ws : List (List Nat)} {M M' : Mk} (h : SpZ i z ws M) (hM : ∀ k : Nat, k < z.ss.length → M' i k = M i k) : SpZ i z ws M' :=
  ⟨h.len, fun k x w hx hw => by rw [hM k (List.getElem?_eq_some_iff.1 hx).1]; exact h.each k x w hx hw, fun k hk => by rw [hM k hk]; exact h.none k hk, h.w64⟩
theorem SpI.set {zs : List ZsR} {Wr : List (List (List Nat))} {M M' : Mk} (h : SpI zs Wr M) (k : Nat) {z' : ZsR} (hz : ∀ z ws, zs[k]? = some z → Wr[k]? = some ws → SpZ k z' ws M') (hM : ∀ (i : Nat) (o : Int), i ≠ k → M' i o = M i o) : SpI (zs.set k z') Wr M' :=
  ⟨by rw [List.length_set]; exact h.len, fun i z ws hi hw => by
    by_cases e : k = i
    · subst e
      have hk : k < zs.length := by have := (List.getElem?_eq_some_iff.1 hi).1; rwa [List.length_set] at this
      rw [List.getElem?_set_self hk] at hi
      injection hi with hi
      subst hi
      exact hz _ ws (List.getElem?_eq_getElem hk) hw
    · rw [List.getElem?_set_ne e] at hi
      exact (h.each i z ws hi hw).far (fun o _ => hM i o (fun e' => e e'.symm))⟩
theorem SpI.hap {d : DvR} {zs : List ZsR} {Wr : List (List (List Nat))} {M : Mk} (h : SpI zs Wr M) (e : EvR) : SpI (hapSp d zs e).zs Wr (hapM d zs e M) := by
  have fa : ∀ i st, SpI (faSp d zs i st).zs Wr M := fun i st => by
    unfold faSp
    split
    · refine h.set _ (fun z ws hz hw => ?_) (fun _ _ _ => rfl)
      rw [zsatN hz]
      exact (h.each _ z ws hz hw).same (by unfold faS; split <;> rfl)
    · exact h
  by_cases k1 : e.kind = 1
  · unfold hapSp hapM
    rw [if_pos k1]
    unfold spSp
    by_cases hb : dhB zs.length e.zone = true
    · rw [if_pos hb]
      obtain ⟨i0, i1⟩ := dhB_in hb
      obtain ⟨k, hk⟩ := Int.eq_ofNat_of_zero_le i0
      have hkn : e.zone.toNat = k := by omega
      obtain ⟨z, hz⟩ : ∃ z, zs[k]? = some z := ⟨_, List.getElem?_eq_getElem (by omega)⟩
      have hzz : zsat zs e.zone = z := zsatN (by rw [hkn]; exact hz)
      rw [hzz, hkn]
      dsimp only
      by_cases hh : holS z e.off = true
      · have hE : chE7 z e.off = 0 := by unfold chE7; rw [if_pos hh]
        rw [if_pos ⟨k1, hE⟩]
        refine h.set k (fun z2 ws hz2 hw => ?_) (fun i o hne => ?_)
        · have := h.each k z ws hz hw
          rw [hk]
          exact this.spoil e.off e.p hh
        · unfold mkS
          rw [if_neg (fun hc => hne (by have := hc.1; omega))]
      · have hE : chE7 z e.off ≠ 0 := by unfold chE7; rw [if_neg hh]; decide
        rw [if_neg (fun hc => hE hc.2), ch_no e.off (by simpa using hh) e.p, set_same hz]
        exact h
    · rw [if_neg hb]
      dsimp only
      rw [if_neg (fun hc => absurd hc.2 (by decide))]
      exact h
  · have hM : hapM d zs e M = M := if_neg (fun hc => k1 hc.1)
    rw [hM]
    unfold hapSp
    rw [if_neg k1]
    split
    · exact fa _ _
    · split
      · exact fa _ _
      · split <;> exact h
theorem SpI.dueF {Wr : List (List (List Nat))} : ∀ (cs : List EvR) (d : DvR) (zs : List ZsR) (h : List EvR) (M : Mk), SpI zs Wr M → SpI (dueF d zs cs h).zs Wr (dueM d zs cs M)
  | [], _, _, _, _, hI => hI
  | e :: cs, d, zs, h, M, hI => by
    by_cases hg : d.down = false ∧ e.at_ ≤ d.count
    · rw [dueF_go hg.1 hg.2, dueM, if_pos hg]
      exact SpI.dueF cs _ _ _ _ (hI.hap e)
    · have hE : Go.Proofs.Ytajkajgnjcnolaa.dueF d zs (e :: cs) h = ⟨d, zs, e :: cs, h⟩ := by rw [Go.Proofs.Ytajkajgnjcnolaa.dueF, if_neg hg]
      rw [hE, dueM, if_neg hg]
      exact hI
theorem SpI.due {S : St8} {Wr : List (List (List Nat))} (h : SpI S.R.zs Wr S.M) (z : Int) (fl : Bool) : SpI (S.due z fl).R.zs Wr (S.due z fl).M := by
  unfold St8.due dueD
  dsimp only
  split
  · exact SpI.dueF _ _ _ _ _ h
  · exact h
def updW (s : List Nat) (zs' : List ZsR) (Wr : List (List (List Nat))) : List (List (List Nat)) := Wr.mapIdx (fun i ws => (if ws.length < (zs'.getD i (zs0 1)).ss.length then ws ++ [s] else ws).take (zs'.getD i (zs0 1)).ss.length)
structure CutZ (zs zs' : List ZsR) : Prop where
  len : zs'.length = zs.length
  each : ∀ (i : Nat) z z', zs[i]? = some z → zs'[i]? = some z' → ∃ n, n ≤ z.ss.length ∧ z'.ss = z.ss.take n
theorem take_all (l : List (List Nat)) : l = l.take l.length := (List.take_of_length_le (Nat.le_refl _)).symm
theorem CutZ.refl (zs : List ZsR) : CutZ zs zs := ⟨rfl, fun i z z' h h' => by rw [h] at h'; injection h' with h'; subst h'; exact ⟨_, Nat.le_refl _, take_all _⟩⟩
theorem CutZ.set {zs : List ZsR} (k : Nat) {z' : ZsR} (h : ∀ z, zs[k]? = some z → ∃ n, n ≤ z.ss.length ∧ z'.ss = z.ss.take n) : CutZ zs (zs.set k z') := ⟨List.length_set, fun i z y hz hy => by
  by_cases e : k = i
  · subst e
    rw [List.getElem?_set_self (List.getElem?_eq_some_iff.1 hz).1] at hy
    injection hy with hy
    subst hy
    exact h z hz
  · rw [List.getElem?_set_ne e, hz] at hy
    injection hy with hy
    subst hy
    exact ⟨_, Nat.le_refl _, take_all _⟩⟩
theorem CutZ.idx {zs : List ZsR} (f : Nat → ZsR → ZsR) (h : ∀ i z, ∃ n, n ≤ z.ss.length ∧ (f i z).ss = z.ss.take n) : CutZ zs (zs.mapIdx f) := ⟨List.length_mapIdx, fun i z y hz hy => by
  rw [List.getElem?_mapIdx, hz] at hy
  injection hy with hy
  subst hy
  exact h i z⟩
theorem SpI.cut {zs zs' : List ZsR} {Wr : List (List (List Nat))} {M : Mk} (h : SpI zs Wr M) (hc : CutZ zs zs') (s : List Nat) : SpI zs' (updW s zs' Wr) M :=
  ⟨by unfold updW; rw [List.length_mapIdx, h.len, hc.len], fun i z' ws' hz' hw' => by
    have hi : i < zs'.length := (List.getElem?_eq_some_iff.1 hz').1
    obtain ⟨z, hz⟩ : ∃ z, zs[i]? = some z := ⟨_, List.getElem?_eq_getElem (by rw [← hc.len]; exact hi)⟩
    obtain ⟨ws, hw⟩ : ∃ ws, Wr[i]? = some ws := ⟨_, List.getElem?_eq_getElem (by rw [h.len, ← hc.len]; exact hi)⟩
    obtain ⟨n, hn, hs⟩ := hc.each i z z' hz hz'
    have hZ := h.each i z ws hz hw
    have hl : z'.ss.length = n := by rw [hs, List.length_take]; omega
    unfold updW at hw'
    rw [List.getElem?_mapIdx, hw] at hw'
    injection hw' with hw'
    have hg : zs'.getD i (zs0 1) = z' := by rw [List.getD_eq_getElem?_getD, hz']; rfl
    dsimp only at hw'
    rw [hg, hl, if_neg (by rw [hZ.len]; omega)] at hw'
    subst hw'
    exact hZ.take n hn hs⟩
theorem cut_rs (d : DvR) (zs : List ZsR) (i : Int) : CutZ zs (rsSp d zs i).zs := by
  unfold rsSp
  split
  · exact CutZ.refl _
  · refine CutZ.set _ (fun z hz => ?_)
    rw [zsatN hz]
    unfold rsS
    split
    · exact ⟨0, Nat.zero_le _, rfl⟩
    · exact ⟨_, Nat.le_refl _, take_all _⟩
theorem cut_fn (d : DvR) (zs : List ZsR) (i : Int) : CutZ zs (fnSp d zs i).zs := by
  unfold fnSp
  split
  · exact CutZ.refl _
  · refine CutZ.set _ (fun z hz => ?_)
    rw [zsatN hz]
    refine ⟨_, Nat.le_refl _, ?_⟩
    unfold fnS; split <;> exact take_all _
theorem cut_fl (d : DvR) (zs : List ZsR) : CutZ zs (flSp d zs).zs := by
  unfold flSp
  split
  · exact CutZ.refl _
  · exact CutZ.idx _ (fun i z => ⟨_, Nat.le_refl _, take_all _⟩)
theorem cut_rv (d : DvR) (zs : List ZsR) (ks : List Int) : CutZ zs (rvSp d zs ks).zs := by
  unfold rvSp
  split
  · exact CutZ.idx _ (fun i z => ⟨min (keepS z (ks.getD i 0)) z.ss.length, Nat.min_le_right _ _, by show z.ss.take (keepS z (ks.getD i 0)) = _; rw [List.take_eq_take_min]⟩)
  · exact CutZ.refl _
theorem SpI.app {d : DvR} {zs : List ZsR} {Wr : List (List (List Nat))} {M : Mk} (h : SpI zs Wr M) (i : Int) (s : List Nat) (hs : s.length = 64) : SpI (apSp d zs i s).zs (updW s (apSp d zs i s).zs Wr) (if (apSp d zs i s).e = 0 then mk0 M i (apSp d zs i s).o else M) := by
  by_cases h1 : cmdE d zs.length i = 0
  · obtain ⟨k, rfl, hk, hd⟩ := cmd_in h1
    obtain ⟨z, hz⟩ : ∃ z, zs[k]? = some z := ⟨_, List.getElem?_eq_getElem hk⟩
    by_cases h2 : stS z = 0 ∧ ¬ (opD zs : Int) < d.opn
    · have hR : apSp d zs (k : Int) s = ⟨0, 33, up1 d, zs⟩ := by unfold apSp; rw [if_neg (fun h => h h1), zsat_of hz, if_pos h2]
      rw [hR]
      dsimp only
      rw [if_neg (by decide)]
      exact h.cut (CutZ.refl _) s
    · have hR : apSp d zs (k : Int) s = ⟨apOS z, apES z, up1 d, zs.set k (apSS z s)⟩ := by unfold apSp; rw [if_neg (fun h => h h1), zsat_of hz, if_neg h2, Int.toNat_natCast]
      rw [hR]
      dsimp only
      by_cases h3 : apES z = 0
      · have hS : (apSS z s).ss = z.ss ++ [s] := by unfold apSS; rw [if_pos h3]
        have hO : apOS z = (z.ss.length : Int) := by unfold apOS; rw [if_pos h3]
        rw [if_pos h3, hO]
        refine ⟨by unfold updW; rw [List.length_mapIdx, List.length_set]; exact h.len, fun j y ws' hy hw' => ?_⟩
        have hj : j < zs.length := by have := (List.getElem?_eq_some_iff.1 hy).1; rwa [List.length_set] at this
        obtain ⟨ws, hw⟩ : ∃ ws, Wr[j]? = some ws := ⟨_, List.getElem?_eq_getElem (by rw [h.len]; exact hj)⟩
        have hg : (zs.set k (apSS z s)).getD j (zs0 1) = y := by rw [List.getD_eq_getElem?_getD, hy]; rfl
        unfold updW at hw'
        rw [List.getElem?_mapIdx, hw] at hw'
        injection hw' with hw'
        dsimp only at hw'
        rw [hg] at hw'
        by_cases e : k = j
        · subst e
          rw [List.getElem?_set_self hk] at hy
          injection hy with hy
          subst hy
          have hZ := h.each k z ws hz hw
          rw [hS, List.length_append] at hw'
          rw [if_pos (by rw [hZ.len]; simp), List.take_of_length_le (by rw [List.length_append, hZ.len]; exact Nat.le_refl _)] at hw'
          subst hw'
          refine ⟨by rw [hS, List.length_append, List.length_append, hZ.len], fun q x w hx hwq => ?_, fun q hq => ?_, fun w hwm => ?_⟩
          · rw [hS] at hx
            unfold mk0
            by_cases hq : q < z.ss.length
            · rw [List.getElem?_append_left hq] at hx
              rw [List.getElem?_append_left (by rw [hZ.len]; exact hq)] at hwq
              rw [if_neg (fun hc => by have := hc.2; omega)]
              exact hZ.each q x w hx hwq
            · rw [List.getElem?_append_right (by omega)] at hx
              rw [List.getElem?_append_right (by rw [hZ.len]; omega), hZ.len] at hwq
              have hq0 : q - z.ss.length = 0 := by
                have := (List.getElem?_eq_some_iff.1 hx).1
                simp at this; omega
              rw [hq0] at hx hwq
              injection hx with hx
              injection hwq with hwq
              subst hx
              subst hwq
              rw [if_pos ⟨rfl, by omega⟩]
              exact (zx_zeros hs).symm
          · rw [hS, List.length_append] at hq
            unfold mk0
            by_cases hq' : q < z.ss.length
            · rw [if_neg (fun hc => by have := hc.2; omega)]
              exact hZ.none q hq'
            · rw [if_pos ⟨rfl, by simp at hq; omega⟩]
              exact ⟨zeros_length 64, Int.le_refl _, fun _ => rfl⟩
          · rcases List.mem_append.1 hwm with hwm | hwm
            · exact hZ.w64 w hwm
            · obtain rfl := List.mem_singleton.1 hwm
              exact hs
        · rw [List.getElem?_set_ne e] at hy
          have hZ := h.each j y ws hy hw
          rw [if_neg (by rw [hZ.len]; omega), ← hZ.len, List.take_of_length_le (Nat.le_refl _)] at hw'
          subst hw'
          exact hZ.far (fun q _ => by unfold mk0; rw [if_neg (fun hc => e (by have := hc.1; omega))])
      · rw [if_neg h3, ap_no h3, set_same hz]
        exact h.cut (CutZ.refl _) s
  · have hR : apSp d zs i s = ⟨0, cmdE d zs.length i, d, zs⟩ := by unfold apSp; rw [if_pos h1]
    rw [hR]
    dsimp only
    rw [if_neg h1]
    exact h.cut (CutZ.refl _) s
theorem SpI.next {S : St8} {Wr : List (List (List Nat))} (h : SpI S.R.zs Wr S.M) (o : Op8) (hs : o.s.length = 64) : SpI (st8 S o).R.zs (updW o.s (st8 S o).R.zs Wr) (st8 S o).M := by
  unfold st8
  split
  · exact (h.due o.z false).app o.z o.s hs
  · split
    · have := (h.due o.z false).cut (CutZ.refl _) o.s
      show SpI (rdSp _ _ _ _).zs (updW o.s (rdSp _ _ _ _).zs Wr) _
      rw [rdSp_zs]
      exact this
    · split
      · exact (h.due o.z false).cut (cut_rs _ _ _) o.s
      · split
        · exact (h.due o.z false).cut (cut_fn _ _ _) o.s
        · split
          · exact (h.due 0 true).cut (cut_fl _ _) o.s
          · split
            · exact h.cut (cut_rv _ _ _) o.s
            · split
              · exact h.cut (CutZ.refl _) o.s
              · split
                · have hM : ∀ k, (S.plN o.e k).M = S.M := fun k => by
                    induction k with
                    | zero => rfl
                    | succ k ih => exact ih
                  rw [plN_zs, hM]
                  exact h.cut (CutZ.refl _) o.s
                · exact h.cut (CutZ.refl _) o.s
theorem SpI.start (n : Nat) (size opn : Int) : SpI (st80 n size opn).R.zs (List.replicate n []) (st80 n size opn).M :=
  ⟨by show (List.replicate n _).length = (List.replicate n _).length; simp, fun i z ws hz hw => by
    have h1 : z = zs0 size := List.eq_of_mem_replicate (List.mem_of_getElem? hz)
    have h2 : ws = [] := List.eq_of_mem_replicate (List.mem_of_getElem? hw)
    subst h1 h2
    exact ⟨rfl, fun k x w hx _ => by simp [zs0] at hx, fun k hk => by simp [zs0] at hk, by simp⟩⟩
end Go.Proofs.Ytajkajgnjcnolaa

