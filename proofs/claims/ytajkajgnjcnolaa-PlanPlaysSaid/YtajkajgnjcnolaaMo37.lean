import Derived.Test.YtajkajgnjcnolaaMo35
import Derived.Test.YtajkajgnjcnolaaMo36
import Derived.Test.YtajkajgnjcnolaaMo27
import Derived.RangeFuncFrom
import Derived.Sort.CutIn
import Derived.Test.YtajkajgnjcnolaaPlanPlaysWm
namespace Go.Proofs.Ytajkajgnjcnolaa
open Go.RowKit Go.Shelf
attribute [local go_sem] Oper.semAt_some
set_option linter.unusedVariables false
set_option linter.unnecessarySimpa false
set_option linter.unusedSimpArgs false
section
variable {lo X D mb n : Nat} {S : St8} {vz ve v7 vc vh : Value} {l : List ZcR} {f : Int × Int → Option (List Nat × Int)} {w W W' : World}
structure SmP (lo X D mb n : Nat) (S : St8) (vz ve : Value) (l : List ZcR) (f : Int × Int → Option (List Nat × Int)) (v7 vc vh : Value) (w W : World) : Prop where
  x : Blk W w.heap.size 30 (d8A (dd7 S.R.d) v7 vc vh)
  T : Blk W (w.heap.size + 1) 4 #[.bool false]
  pd : PdAt lo W X S D vz ve l mb n f
  dc : Dc lo W v7 vc vh S.R
  B : Below w.heap.size w W
  fresh : ∀ i, PdF X D vz ve l mb i → i < w.heap.size
theorem SmP.below (h : SmP lo X D mb n S vz ve l f v7 vc vh w W) (hb : Below W.heap.size W W') : SmP lo X D mb n S vz ve l f v7 vc vh w W' := ⟨h.x.below hb h.x.lt, h.T.below hb h.T.lt, h.pd.below hb, h.dc.below hb, bthen' h.B hb, h.fresh⟩
theorem SmP.keptB {g : Nat} {U : TypeId} {cs : Array Value} (h : SmP lo X D mb n S vz ve l f v7 vc vh w W) (hg : Blk W g U cs) (hl : w.heap.size + 1 < g) (h1 : U ≠ 83) (h2 : U ≠ 87) (h3 : U ≠ 33) (hk : Kept (· = g) W W') : SmP lo X D mb n S vz ve l f v7 vc vh w W' :=
  ⟨h.x.kept hk (by omega), h.T.kept hk (by omega), h.pd.kept hk (fun i hi e => by have := h.fresh i hi; omega), h.dc.keptB hg h1 h2 h3 hk, bkept h.B (Nat.le_refl _) hk (fun i hi e => by omega), h.fresh⟩
theorem SmP.ownF {β : Type} {B : Nat} (hB : w.heap.size ≤ B) : OwnFrom (β := β) B (fun _ W => SmP lo X D mb n S vz ve l f v7 vc vh w W) := fun s V V' row h hg hr =>
  ⟨Own.from (blk_own (β := β) _ _ (fun _ => _)) B s V V' row h.x hg hr, Own.from (blk_own (β := β) _ _ (fun _ => _)) B s V V' row h.T hg hr, h.pd.kept (kept_grown hg) (fun i hi e => by have := h.fresh i hi; have := (hr i e).1; omega), ownF_dc (β := β) (B := B) s V V' row h.dc hg hr, ownFrom_below (β := β) (Nat.le_refl _) hB s V V' row h.B hg hr, h.fresh⟩
theorem SmP.kpF (h : SmP lo X D mb n S vz ve l f v7 vc vh w W) : ∀ i, PdF X D vz ve l mb i → i < W.heap.size := fun i hi => h.pd.lt hi
end
theorem exec_neq_ev {P : Program} {o : Oper} {a : Act} {w : World} {t : TypeId} (T : MixType P t 4 64) (x y : Operand) (rt : TypeId) (ho : o.op = .binOp .neq t x y rt) (e g : EvR) (hx : a.eval x = .agg (evA e)) (hy : a.eval y = .agg (evA g)) (he : e.p.length = 64) (hg : g.p.length = 64) (b : Bool) (hb : (!decide (e = g)) = b) :
    (execOp a.eval o).run P w = .ok (.value (.bool b)) w := by
  have hb' : (!decide (evZ e = evZ g ∧ e.p = g.p)) = b := by rw [← hb]; congr 1; exact decide_eq_decide.2 (ev_eq e g).symm
  unfold execOp
  simp only [ho, hx, hy, Sem.run_bind, run_eqGuard_agg w .neq t x y (evA e) (evA g) T.guard, Result.andThen_ok, (show (binOp .neq t (.agg (evA e)) (.agg (evA g))).run P w = _ from run_neq_mix T (evZ e) (evZ g) e.p g.p rfl rfl he hg w), Sem.run_pure, hb']
def frS (g : Nat → Value) : Array Value := ((List.range 135).map g).toArray
theorem frS_of {t : Array Value} (h : t.size = 135) : t = frS (fun i => t.getD i undef) := by
  apply Array.ext'
  apply List.ext_getElem
  · simp [frS, h]
  · intro i h1 h2
    simp only [frS, List.getElem_map, List.getElem_range]
    have h1' : i < t.size := by simpa using h1
    simp [Array.getD, h1']
theorem frS_lit (g : Nat → Value) : frS g = #[g 0, g 1, g 2, g 3, g 4, g 5, g 6, g 7, g 8, g 9, g 10, g 11, g 12, g 13, g 14, g 15, g 16, g 17, g 18, g 19, g 20, g 21, g 22, g 23, g 24, g 25, g 26, g 27, g 28, g 29, g 30, g 31, g 32, g 33, g 34, g 35, g 36, g 37, g 38, g 39, g 40, g 41, g 42, g 43, g 44, g 45, g 46, g 47, g 48, g 49, g 50, g 51, g 52, g 53, g 54, g 55, g 56, g 57, g 58, g 59, g 60, g 61, g 62, g 63, g 64, g 65, g 66, g 67, g 68, g 69, g 70, g 71, g 72, g 73, g 74, g 75, g 76, g 77, g 78, g 79, g 80, g 81, g 82, g 83, g 84, g 85, g 86, g 87, g 88, g 89, g 90, g 91, g 92, g 93, g 94, g 95, g 96, g 97, g 98, g 99, g 100, g 101, g 102, g 103, g 104, g 105, g 106, g 107, g 108, g 109, g 110, g 111, g 112, g 113, g 114, g 115, g 116, g 117, g 118, g 119, g 120, g 121, g 122, g 123, g 124, g 125, g 126, g 127, g 128, g 129, g 130, g 131, g 132, g 133, g 134] := by kernel_rfl
structure FxS (X D : Nat) (S : St8) (l : List ZcR) (az ac ah : Option Addr) (cz cc ch : Nat) (n0 k : Nat) (g : Nat → Value) : Prop where
  s0 : g 0 = .pointer (some ⟨X, 0, none⟩)
  s1 : g 1 = .agg (d8A (dd7 S.R.d) (.slice az l.length cz) (.slice ac S.R.cs.length cc) (.slice ah S.R.h.length ch))
  s2 : g 2 = undef
  s3 : g 3 = .pointer (some ⟨n0, 0, none⟩)
  s4 : g 4 = .pointer (some ⟨n0 + 1, 0, none⟩)
  s5 : g 5 = .pointer (some ⟨D, 0, none⟩)
  s10 : g 10 = undef
  s11 : g 11 = undef
  s12 : g 12 = undef
  s13 : g 13 = undef
  s14 : g 14 = .pointer (some ⟨X, 0, none⟩)
  s15 : g 15 = .pointer (some ⟨D, 0, none⟩)
  s16 : g 16 = .pointer (some ⟨D, 0, none⟩)
  s17 : g 17 = .int .i64 (S.R.d.count)
  s18 : g 18 = .pointer (some ⟨n0, 0, none⟩)
  s19 : g 19 = .pointer (some ⟨n0, 3, none⟩)
  s20 : g 20 = .int .i64 (S.R.d.count)
  s21 : g 21 = .bool false
  s22 : g 22 = .bool false
  s23 : g 23 = .pointer (some ⟨D, 0, none⟩)
  s24 : g 24 = .bool S.R.d.down
  s25 : g 25 = .pointer (some ⟨n0, 0, none⟩)
  s26 : g 26 = .pointer (some ⟨n0, 4, none⟩)
  s27 : g 27 = .bool S.R.d.down
  s28 : g 28 = .bool false
  s29 : g 29 = .bool false
  s30 : g 30 = .bool false
  s31 : g 31 = .pointer (some ⟨D, 0, none⟩)
  s32 : g 32 = .int .i64 ((l.length : Nat))
  s33 : g 33 = .pointer (some ⟨n0, 0, none⟩)
  s34 : g 34 = .pointer (some ⟨n0, 0, none⟩)
  s35 : g 35 = .slice (az) (l.length) (cz)
  s36 : g 36 = .int .i64 ((l.length : Nat))
  s37 : g 37 = .bool false
  s38 : g 38 = .bool false
  s39 : g 39 = .pointer (some ⟨n0, 0, none⟩)
  s40 : g 40 = .pointer (some ⟨n0, 0, none⟩)
  s41 : g 41 = .slice az l.length cz
  s42 : g 42 = .int .i64 (l.length : Nat)
  s43 : g 43 = .int .i64 (k : Nat)
  s83 : g 83 = undef
  s84 : g 84 = undef
  s85 : g 85 = undef
  s86 : g 86 = undef
  s87 : g 87 = undef
  s88 : g 88 = undef
  s89 : g 89 = undef
  s90 : g 90 = undef
  s91 : g 91 = undef
  s92 : g 92 = undef
  s93 : g 93 = undef
  s94 : g 94 = undef
  s95 : g 95 = undef
  s96 : g 96 = undef
  s97 : g 97 = undef
  s98 : g 98 = undef
  s99 : g 99 = undef
  s100 : g 100 = undef
  s101 : g 101 = undef
  s102 : g 102 = undef
  s103 : g 103 = undef
  s104 : g 104 = undef
  s105 : g 105 = undef
  s106 : g 106 = undef
  s107 : g 107 = undef
  s108 : g 108 = undef
  s109 : g 109 = undef
  s110 : g 110 = undef
  s111 : g 111 = undef
  s112 : g 112 = undef
  s113 : g 113 = undef
  s114 : g 114 = undef
  s115 : g 115 = undef
  s116 : g 116 = undef
  s117 : g 117 = undef
  s118 : g 118 = undef
  s119 : g 119 = undef
  s120 : g 120 = undef
  s121 : g 121 = undef
  s122 : g 122 = undef
  s123 : g 123 = undef
  s124 : g 124 = undef
  s125 : g 125 = undef
  s126 : g 126 = undef
  s127 : g 127 = undef
  s128 : g 128 = undef
  s129 : g 129 = undef
  s130 : g 130 = undef
  s131 : g 131 = undef
  s132 : g 132 = undef
  s133 : g 133 = undef
  s134 : g 134 = undef
def RelS (lo mb n : Nat) (vz ve : Value) (f : Int × Int → Option (List Nat × Int)) (X D : Nat) (S : St8) (l : List ZcR) (az ac ah : Option Addr) (cz cc ch : Nat) (w : World) (a' : Act) (V : World) : Prop :=
  ∃ (k : Nat) (ds : List Deferred) (g : Nat → Value), a' = { tmps := frS g, defers := ds } ∧ FxS X D S l az ac ah cz cc ch w.heap.size k g ∧ k ≤ l.length ∧ SmP lo X D mb n S vz ve l f (.slice az l.length cz) (.slice ac S.R.cs.length cc) (.slice ah S.R.h.length ch) w V ∧ Marks w.heap.size ds V
theorem RelS.mk {lo mb n : Nat} {vz ve : Value} {f : Int × Int → Option (List Nat × Int)} {X D : Nat} {S : St8} {l : List ZcR} {az ac ah : Option Addr} {cz cc ch : Nat} {w V : World} {t : Array Value} {ds : List Deferred} (k : Nat) (h : t.size = 135) (hf : FxS X D S l az ac ah cz cc ch w.heap.size k (fun i => t.getD i undef)) (hk : k ≤ l.length) (hS : SmP lo X D mb n S vz ve l f (.slice az l.length cz) (.slice ac S.R.cs.length cc) (.slice ah S.R.h.length ch) w V) (hM : Marks w.heap.size ds V) : RelS lo mb n vz ve f X D S l az ac ah cz cc ch w { tmps := t, defers := ds } V :=
  ⟨k, ds, fun i => t.getD i undef, by rw [← frS_of h], hf, hk, hS, hM⟩
set_option maxRecDepth 100000 in
set_option maxHeartbeats 8000000 in
theorem same8 {lo X D mb n : Nat} {w : World} {S : St8} {vz ve : Value} {l : List ZcR} {f : Int × Int → Option (List Nat × Int)} (az ac ah : Option Addr) (nz cz cc ch : Nat) (h : PdAt lo w X S D vz ve l mb n f) (hd : Dc lo w (.slice az nz cz) (.slice ac S.R.cs.length cc) (.slice ah S.R.h.length ch) S.R) (hf : Fine S) : Calls Try.prog 11 #[.pointer (some ⟨X, 0, none⟩), .agg (d8A (dd7 S.R.d) (.slice az nz cz) (.slice ac S.R.cs.length cc) (.slice ah S.R.h.length ch))] w fun e w' => e = .returned (.bool true) ∧ Below w.heap.size w w' := by
  have hzl : S.R.zs.length = l.length := by rw [← h.zs, List.length_map]
  obtain rfl : nz = l.length := hd.zs.slice2.trans hzl
  obtain ⟨hcc1, hcc2⟩ : l.length ≤ cz ∧ cz ≤ 9223372036854775807 := by
    obtain ⟨l7, r, m⟩ := hd.zs
    obtain ⟨_, q1, q2⟩ := ownK_cap r.own
    have hll : l7.length = l.length := (doc7_len m).trans hzl
    unfold maxLen at q2
    omega
  have b1 := below_alloc w (Obj.cells (d8A (dd7 S.R.d) (.slice az l.length cz) (.slice ac S.R.cs.length cc) (.slice ah S.R.h.length ch)) 30)
  have b2 := bthen' b1 (below_alloc _ (Obj.cells #[.bool false] 4))
  have x1 := Blk.new (w.alloc (Obj.cells (d8A (dd7 S.R.d) (.slice az l.length cz) (.slice ac S.R.cs.length cc) (.slice ah S.R.h.length ch)) 30)) 4 #[.bool false]
  rw [World.size_alloc] at x1
  have HS1 : Hid (SmP lo X D mb n S vz ve l f (.slice az l.length cz) (.slice ac S.R.cs.length cc) (.slice ah S.R.h.length ch) w ((w.alloc (Obj.cells (d8A (dd7 S.R.d) (.slice az l.length cz) (.slice ac S.R.cs.length cc) (.slice ah S.R.h.length ch)) 30)).alloc (Obj.cells #[.bool false] 4))) := Lib.hid ⟨(Blk.new w 30 _).alloc _, x1, h.below b2, hd.below b2, b2, fun i hi => h.lt hi⟩
  have HXb := Lib.hid HS1.out.x
  have Hhn : Hid (S.R.h.length + S.R.cs.length ≤ 1000000) := Lib.hid (by have := hf.hn; omega)
  have Hlo := Lib.hid (show lo ≤ w.heap.size by have := h.blk.lt; have := h.leX; omega)
  clear b1 b2 x1 h hd hf hzl
  refine calls_marks Try.func11 rfl ?_
  simp only [Try.ntmps11, List.size_toArray, List.length_cons, List.length_nil, Nat.reduceAdd, Nat.reduceSub, Array.replicate_succ, Array.replicate_zero, List.push_toArray, List.append_toArray, List.nil_append, List.cons_append]
  go_upto_region 1 with fail
  generalize (w.alloc (Obj.cells (d8A (dd7 S.R.d) (.slice az l.length cz) (.slice ac S.R.cs.length cc) (.slice ah S.R.h.length ch)) 30)).alloc (Obj.cells #[.bool false] 4) = w1 at *
  go_wp2_with fail
  refine (pdevP HS1.out.pd).mono ?_
  rintro en w1' ⟨rfl, hww⟩
  subst hww
  go_upto_region 2 with fail
  refine wp_then_only ?_
  refine wp_region_held (S := fun w' => Kept (fun _ => False) w1 w') (by kernel_rfl) ?_
  change wpAnyH _ _ _ _ _ _ _ _ (World.drew _)
  have hS : Kept (fun _ => False) w1 w1.drew := (Kept.refl _ _).drew
  have hB0 : Below w1.heap.size w1 w1.drew := (Below.refl _ _).drew
  refine takeH hS (i := 0) (d := 16) (v := .pointer (some ⟨D, 0, none⟩)) rfl rfl (by kernel_rfl) (by kernel_rfl) (by kernel_rfl) (fun _ _ _ h => h) (Or.inl ⟨by kernel_rfl, fun w' hw' => by kernel_rfl⟩) ?_
  refine takeH hS (i := 2) (d := 18) (v := .pointer (some ⟨w.heap.size, 0, none⟩)) rfl rfl (by kernel_rfl) (by kernel_rfl) (by kernel_rfl) (fun _ _ _ h => h) (Or.inl ⟨by kernel_rfl, fun w' hw' => by kernel_rfl⟩) ?_
  refine takeH hS (i := 3) (d := 19) (v := .pointer (some ⟨w.heap.size, 3, none⟩)) rfl rfl (by kernel_rfl) (by kernel_rfl) (by kernel_rfl) (fun _ _ _ h => h) (Or.inl ⟨by kernel_rfl, fun w' hw' => by kernel_rfl⟩) ?_
  refine takeH hS (i := 4) (d := 20) (v := .int .i64 (S.R.d.count)) rfl rfl (by kernel_rfl) (by kernel_rfl) (by kernel_rfl) (fun _ _ _ h => h) (Or.inl ⟨by kernel_rfl, fun w' hw' => by exact exec_cell _ rfl ⟨w.heap.size, 3, none⟩ rfl _ Try.underlying3 (((HXb.out.kept hw' (fun h => h)).cell 3).trans (rfl))⟩) ?_
  try go_frame
  refine nextH (i := 1) rfl (by kernel_rfl) (by kernel_rfl) (fun K' hK => ?_)
  go_wp2_with fail
  refine (dcount8 (HS1.out.pd.dv.below hB0)).mono ?_
  rintro en w1c1 ⟨rfl, hb⟩
  have hS1 : Kept (fun _ => False) w1 w1c1 := kept_next hS hb
  have hB1 : Below w1.heap.size w1 w1c1 := bel_next hB0 hb
  refine hK.out _ _ ⟨hS1, ?_⟩
  clear hK K' hS hb hB0
  refine takeH hS1 (i := 5) (d := 21) (v := .bool false) rfl rfl (by kernel_rfl) (by kernel_rfl) (by kernel_rfl) (fun _ _ _ h => h) (Or.inl ⟨by kernel_rfl, fun w' hw' => by exact exec_neq _ _ rfl (S.R.d.count) (S.R.d.count) rfl rfl false (by simp) rfl⟩) ?_
  refine takeH hS1 (i := 6) (d := 22) (v := .bool false) rfl rfl (by kernel_rfl) (by kernel_rfl) (by kernel_rfl) (fun _ _ _ h => h) (Or.inl ⟨by kernel_rfl, fun w' hw' => by kernel_rfl⟩) ?_
  refine takeH hS1 (i := 7) (d := 23) (v := .pointer (some ⟨D, 0, none⟩)) rfl rfl (by kernel_rfl) (by kernel_rfl) (by kernel_rfl) (fun _ _ _ h => h) (Or.inl ⟨by kernel_rfl, fun w' hw' => by kernel_rfl⟩) ?_
  refine takeH hS1 (i := 9) (d := 25) (v := .pointer (some ⟨w.heap.size, 0, none⟩)) rfl rfl (by kernel_rfl) (by kernel_rfl) (by kernel_rfl) (fun _ _ _ h => h) (Or.inl ⟨by kernel_rfl, fun w' hw' => by kernel_rfl⟩) ?_
  try go_frame
  refine takeH hS1 (i := 10) (d := 26) (v := .pointer (some ⟨w.heap.size, 4, none⟩)) rfl rfl (by kernel_rfl) (by kernel_rfl) (by kernel_rfl) (fun _ _ _ h => h) (Or.inl ⟨by kernel_rfl, fun w' hw' => by kernel_rfl⟩) ?_
  refine takeH hS1 (i := 11) (d := 27) (v := .bool S.R.d.down) rfl rfl (by kernel_rfl) (by kernel_rfl) (by kernel_rfl) (fun _ _ _ h => h) (Or.inl ⟨by kernel_rfl, fun w' hw' => by exact exec_cellv _ rfl ⟨w.heap.size, 4, none⟩ rfl (.bool S.R.d.down) Try.underlying4 rfl (((HXb.out.kept hw' (fun h => h)).cell 4).trans (rfl))⟩) ?_
  try go_frame
  refine nextH (i := 8) rfl (by kernel_rfl) (by kernel_rfl) (fun K' hK => ?_)
  go_wp2_with fail
  refine (ddown8 S.R.d.down rfl (HS1.out.pd.dv.below hB1)).mono ?_
  rintro en w1c2 ⟨rfl, hb⟩
  have hS2 : Kept (fun _ => False) w1 w1c2 := kept_next hS1 hb
  have hB2 : Below w1.heap.size w1 w1c2 := bel_next hB1 hb
  refine hK.out _ _ ⟨hS2, ?_⟩
  clear hK K' hS1 hb hB1
  refine takeH hS2 (i := 12) (d := 28) (v := .bool false) rfl rfl (by kernel_rfl) (by kernel_rfl) (by kernel_rfl) (fun _ _ _ h => h) (Or.inl ⟨by kernel_rfl, fun w' hw' => by (cases hdd : S.R.d.down <;> kernel_rfl)⟩) ?_
  refine takeH hS2 (i := 13) (d := 29) (v := .bool false) rfl rfl (by kernel_rfl) (by kernel_rfl) (by kernel_rfl) (fun _ _ _ h => h) (Or.inl ⟨by kernel_rfl, fun w' hw' => by kernel_rfl⟩) ?_
  refine takeH hS2 (i := 14) (d := 30) (v := .bool false) rfl rfl (by kernel_rfl) (by kernel_rfl) (by kernel_rfl) (fun _ _ _ h => h) (Or.inl ⟨by kernel_rfl, fun w' hw' => by kernel_rfl⟩) ?_
  refine takeH hS2 (i := 15) (d := 31) (v := .pointer (some ⟨D, 0, none⟩)) rfl rfl (by kernel_rfl) (by kernel_rfl) (by kernel_rfl) (fun _ _ _ h => h) (Or.inl ⟨by kernel_rfl, fun w' hw' => by kernel_rfl⟩) ?_
  try go_frame
  refine takeH hS2 (i := 17) (d := 33) (v := .pointer (some ⟨w.heap.size, 0, none⟩)) rfl rfl (by kernel_rfl) (by kernel_rfl) (by kernel_rfl) (fun _ _ _ h => h) (Or.inl ⟨by kernel_rfl, fun w' hw' => by kernel_rfl⟩) ?_
  refine takeH hS2 (i := 18) (d := 34) (v := .pointer (some ⟨w.heap.size, 0, none⟩)) rfl rfl (by kernel_rfl) (by kernel_rfl) (by kernel_rfl) (fun _ _ _ h => h) (Or.inl ⟨by kernel_rfl, fun w' hw' => by kernel_rfl⟩) ?_
  refine takeH hS2 (i := 19) (d := 35) (v := .slice (az) (l.length) (cz)) rfl rfl (by kernel_rfl) (by kernel_rfl) (by kernel_rfl) (fun _ _ _ h => h) (Or.inl ⟨by kernel_rfl, fun w' hw' => by exact exec_cellv _ rfl ⟨w.heap.size, 0, none⟩ rfl (.slice (az) (l.length) (cz)) Try.underlying25 rfl (((HXb.out.kept hw' (fun h => h)).cell 0).trans (rfl))⟩) ?_
  refine takeH hS2 (i := 20) (d := 36) (v := .int .i64 ((l.length : Nat))) rfl rfl (by kernel_rfl) (by kernel_rfl) (by kernel_rfl) (fun _ _ _ h => h) (Or.inl ⟨by kernel_rfl, fun w' hw' => by exact exec_len _ rfl Try.underlying25 _ _ _ rfl⟩) ?_
  try go_frame
  refine nextH (i := 16) rfl (by kernel_rfl) (by kernel_rfl) (fun K' hK => ?_)
  go_wp2_with fail
  refine (dzones8 (n := l.length) rfl (HS1.out.pd.dv.below hB2)).mono ?_
  rintro en w1c3 ⟨rfl, hb⟩
  have hS3 : Kept (fun _ => False) w1 w1c3 := kept_next hS2 hb
  have hB3 : Below w1.heap.size w1 w1c3 := bel_next hB2 hb
  refine hK.out _ _ ⟨hS3, ?_⟩
  clear hK K' hS2 hb hB2
  refine takeH hS3 (i := 21) (d := 37) (v := .bool false) rfl rfl (by kernel_rfl) (by kernel_rfl) (by kernel_rfl) (fun _ _ _ h => h) (Or.inl ⟨by kernel_rfl, fun w' hw' => by exact exec_neq _ _ rfl ((l.length : Nat)) ((l.length : Nat)) rfl rfl false (by simp) rfl⟩) ?_
  refine takeH hS3 (i := 22) (d := 38) (v := .bool false) rfl rfl (by kernel_rfl) (by kernel_rfl) (by kernel_rfl) (fun _ _ _ h => h) (Or.inl ⟨by kernel_rfl, fun w' hw' => by kernel_rfl⟩) ?_
  refine wpAnyH_done (by kernel_rfl) ?_ _
  try go_frame
  have HS2 := Lib.hid (HS1.out.below hB3)
  clear hS3 hB3 HS1 HXb
  generalize w1c3 = w2 at *
  have c0 : w2.cell? ⟨w.heap.size, 0, none⟩ = some (.slice az l.length cz) := (HS2.out.x.cell 0).trans rfl
  go_wp2_with fail
  clear c0
  refine wp_loop (RelS lo mb n vz ve f X D S l az ac ah cz cc ch w) (fun a' _ => (l.length - (intOf (a'.tmps.getD 43 undef)).toNat)) ?start ?round
  case start =>
    exact RelS.mk 0 rfl ⟨rfl, rfl, rfl, rfl, rfl, rfl, rfl, rfl, rfl, rfl, rfl, rfl, rfl, rfl, rfl, rfl, rfl, rfl, rfl, rfl, rfl, rfl, rfl, rfl, rfl, rfl, rfl, rfl, rfl, rfl, rfl, rfl, rfl, rfl, rfl, rfl, rfl, rfl, rfl, rfl, rfl, rfl, rfl, rfl, rfl, rfl, rfl, rfl, rfl, rfl, rfl, rfl, rfl, rfl, rfl, rfl, rfl, rfl, rfl, rfl, rfl, rfl, rfl, rfl, rfl, rfl, rfl, rfl, rfl, rfl, rfl, rfl, rfl, rfl, rfl, rfl, rfl, rfl, rfl, rfl, rfl, rfl, rfl, rfl, rfl, rfl, rfl, rfl, rfl, rfl, rfl, rfl⟩ (Nat.zero_le _) HS2.out (Marks.nil _ _)
  case round =>
    rintro a' V ⟨k, ds, g, rfl, hfx, hk, hSr, hMr⟩
    rw [frS_lit g]
    simp only [hfx.s0, hfx.s1, hfx.s2, hfx.s3, hfx.s4, hfx.s5, hfx.s10, hfx.s11, hfx.s12, hfx.s13, hfx.s14, hfx.s15, hfx.s16, hfx.s17, hfx.s18, hfx.s19, hfx.s20, hfx.s21, hfx.s22, hfx.s23, hfx.s24, hfx.s25, hfx.s26, hfx.s27, hfx.s28, hfx.s29, hfx.s30, hfx.s31, hfx.s32, hfx.s33, hfx.s34, hfx.s35, hfx.s36, hfx.s37, hfx.s38, hfx.s39, hfx.s40, hfx.s41, hfx.s42, hfx.s43, hfx.s83, hfx.s84, hfx.s85, hfx.s86, hfx.s87, hfx.s88, hfx.s89, hfx.s90, hfx.s91, hfx.s92, hfx.s93, hfx.s94, hfx.s95, hfx.s96, hfx.s97, hfx.s98, hfx.s99, hfx.s100, hfx.s101, hfx.s102, hfx.s103, hfx.s104, hfx.s105, hfx.s106, hfx.s107, hfx.s108, hfx.s109, hfx.s110, hfx.s111, hfx.s112, hfx.s113, hfx.s114, hfx.s115, hfx.s116, hfx.s117, hfx.s118, hfx.s119, hfx.s120, hfx.s121, hfx.s122, hfx.s123, hfx.s124, hfx.s125, hfx.s126, hfx.s127, hfx.s128, hfx.s129, hfx.s130, hfx.s131, hfx.s132, hfx.s133, hfx.s134]
    clear hfx
    have HSr := Lib.hid hSr
    have HMr := Lib.hid hMr
    clear hSr hMr HS2
    by_cases hlt : k < l.length
    · obtain ⟨c, hc⟩ : ∃ c, l[k]? = some c := ⟨_, List.getElem?_eq_getElem hlt⟩
      have hdz : Doc lo V (.slice az l.length cz) (l.map ZcR.z) := by rw [HSr.out.pd.zs]; exact HSr.out.dc.zs
      obtain ⟨l7, r7, m7⟩ := hdz
      obtain ⟨u, hp⟩ := doc_at m7 (zof hc)
      have hll : l7.length = l.length := by have h := doc7_len m7; rwa [List.length_map] at h
      have hu : V.ownsRow lo 33 64 u c.z.ss.length (flat c.z.ss) := r7.each _ (List.mem_of_getElem? hp)
      obtain ⟨b, cu, rfl⟩ := own_slice hu
      obtain ⟨_, u1, u2⟩ := ownK_cap hu
      unfold maxLen at u2
      have hown : V.ownsRow lo 87 4 (.slice az l.length cz) l.length (zrow l7) := by have h := r7.own; rwa [hll] at h
      obtain ⟨g7, rfl, _, _⟩ := ownK_form hown (by omega)
      have HC := Lib.hid (row_range hown hll k _ hp)
      have HU := Lib.hid hu
      have Hc := Lib.hid hc
      have Hok := Lib.hid (HSr.out.pd.dv.ok k c hc)
      have Hst : Hid (stD (l.map ZcR.z) (k : Int) = stS c.z) := Lib.hid (by unfold stD; rw [if_pos (by unfold dhB; simp; omega), zsat_of (zof hc)])
      have Hln : Hid (lnD (l.map ZcR.z) (k : Int) = (c.z.ss.length : Int)) := Lib.hid (by unfold lnD; rw [if_pos (by unfold dhB; simp; omega), zsat_of (zof hc)])
      have hz64 := zero_secF
      clear hc r7 m7 hp hll hu hown
      go_upto_region 7 with (first | (refine wpl_load_z (by rfl) _ _ rfl g7 (k * 4) rfl (rz c.z, .slice b c.z.ss.length cu) _ HC.out Try.underlying87 rfl Try.info7Z ?_; go_frame) | (refine wpl_store_new rfl _ _ rfl (z7A (rz c.z) (.slice b c.z.ss.length cu)) V 87 z7Z rfl rfl rfl Try.info7Z rfl (z7A_one _ _ _ _) ?_; go_frame))
      have hbv := below_alloc V (Obj.cells (z7A (rz c.z) (.slice b c.z.ss.length cu)) 87)
      have HYz := Lib.hid (Blk.new V 87 (z7A (rz c.z) (.slice b c.z.ss.length cu)))
      have HS5 := Lib.hid (HSr.out.below hbv)
      have HU5 := Lib.hid (ownK_below HU.out hbv)
      have HM5 := Lib.hid (HMr.out.mono (KeepsOthers.alloc V (Obj.cells (z7A (rz c.z) (.slice b c.z.ss.length cu)) 87)))
      have HYl := Lib.hid (show w.heap.size + 1 < V.heap.size from HSr.out.T.lt)
      clear hbv HSr HMr HU HC
      generalize V.alloc (Obj.cells (z7A (rz c.z) (.slice b c.z.ss.length cu)) 87) = w5 at *
      generalize V.heap.size = Y at *
      refine wp_then_only ?_
      refine wp_region_held (S := fun w' => Kept (fun _ => False) w5 w') (by kernel_rfl) ?_
      change wpAnyH _ _ _ _ _ _ _ _ (World.drew _)
      have hS : Kept (fun _ => False) w5 w5.drew := (Kept.refl _ _).drew
      have hB0 : Below w5.heap.size w5 w5.drew := (Below.refl _ _).drew
      refine takeH hS (i := 0) (d := 48) (v := .pointer (some ⟨D, 0, none⟩)) rfl rfl (by kernel_rfl) (by kernel_rfl) (by kernel_rfl) (fun _ _ _ h => h) (Or.inl ⟨by kernel_rfl, fun w' hw' => by kernel_rfl⟩) ?_
      refine takeH hS (i := 1) (d := 49) (v := .int .i64 ((k : Nat))) rfl rfl (by kernel_rfl) (by kernel_rfl) (by kernel_rfl) (fun _ _ _ h => h) (Or.inl ⟨by kernel_rfl, fun w' hw' => by kernel_rfl⟩) ?_
      refine takeH hS (i := 3) (d := 51) (v := .pointer (some ⟨Y, 2, none⟩)) rfl rfl (by kernel_rfl) (by kernel_rfl) (by kernel_rfl) (fun _ _ _ h => h) (Or.inl ⟨by kernel_rfl, fun w' hw' => by kernel_rfl⟩) ?_
      refine takeH hS (i := 4) (d := 52) (v := .int .i64 (stS c.z)) rfl rfl (by kernel_rfl) (by kernel_rfl) (by kernel_rfl) (fun _ _ _ h => h) (Or.inl ⟨by kernel_rfl, fun w' hw' => by exact exec_cell _ rfl ⟨Y, 2, none⟩ rfl _ Try.underlying3 (((HYz.out.kept hw' (fun h => h)).cell 2).trans (rfl))⟩) ?_
      try go_frame
      refine nextH (i := 2) rfl (by kernel_rfl) (by kernel_rfl) (fun K' hK => ?_)
      go_wp2_with fail
      refine (cst8 Hst.out (HS5.out.pd.dv.below hB0)).mono ?_
      rintro en w5c1 ⟨rfl, hb⟩
      have hS1 : Kept (fun _ => False) w5 w5c1 := kept_next hS hb
      have hB1 : Below w5.heap.size w5 w5c1 := bel_next hB0 hb
      refine hK.out _ _ ⟨hS1, ?_⟩
      clear hK K' hS hb hB0
      refine takeH hS1 (i := 5) (d := 53) (v := .bool false) rfl rfl (by kernel_rfl) (by kernel_rfl) (by kernel_rfl) (fun _ _ _ h => h) (Or.inl ⟨by kernel_rfl, fun w' hw' => by exact exec_neq _ _ rfl (stS c.z) (stS c.z) rfl rfl false (by simp) rfl⟩) ?_
      refine takeH hS1 (i := 6) (d := 54) (v := .bool false) rfl rfl (by kernel_rfl) (by kernel_rfl) (by kernel_rfl) (fun _ _ _ h => h) (Or.inl ⟨by kernel_rfl, fun w' hw' => by kernel_rfl⟩) ?_
      refine takeH hS1 (i := 7) (d := 55) (v := .pointer (some ⟨D, 0, none⟩)) rfl rfl (by kernel_rfl) (by kernel_rfl) (by kernel_rfl) (fun _ _ _ h => h) (Or.inl ⟨by kernel_rfl, fun w' hw' => by kernel_rfl⟩) ?_
      refine takeH hS1 (i := 8) (d := 56) (v := .int .i64 ((k : Nat))) rfl rfl (by kernel_rfl) (by kernel_rfl) (by kernel_rfl) (fun _ _ _ h => h) (Or.inl ⟨by kernel_rfl, fun w' hw' => by kernel_rfl⟩) ?_
      try go_frame
      refine takeH hS1 (i := 10) (d := 58) (v := .pointer (some ⟨Y, 0, none⟩)) rfl rfl (by kernel_rfl) (by kernel_rfl) (by kernel_rfl) (fun _ _ _ h => h) (Or.inl ⟨by kernel_rfl, fun w' hw' => by kernel_rfl⟩) ?_
      refine takeH hS1 (i := 11) (d := 59) (v := .slice (b) (c.z.ss.length) (cu)) rfl rfl (by kernel_rfl) (by kernel_rfl) (by kernel_rfl) (fun _ _ _ h => h) (Or.inl ⟨by kernel_rfl, fun w' hw' => by exact exec_cellv _ rfl ⟨Y, 0, none⟩ rfl (.slice (b) (c.z.ss.length) (cu)) Try.underlying85 rfl (((HYz.out.kept hw' (fun h => h)).cell 0).trans (rfl))⟩) ?_
      refine takeH hS1 (i := 12) (d := 60) (v := .int .i64 ((c.z.ss.length : Nat))) rfl rfl (by kernel_rfl) (by kernel_rfl) (by kernel_rfl) (fun _ _ _ h => h) (Or.inl ⟨by kernel_rfl, fun w' hw' => by exact exec_len _ rfl Try.underlying85 _ _ _ rfl⟩) ?_
      try go_frame
      refine nextH (i := 9) rfl (by kernel_rfl) (by kernel_rfl) (fun K' hK => ?_)
      go_wp2_with fail
      refine (cln8 Hln.out (HS5.out.pd.dv.below hB1)).mono ?_
      rintro en w5c2 ⟨rfl, hb⟩
      have hS2 : Kept (fun _ => False) w5 w5c2 := kept_next hS1 hb
      have hB2 : Below w5.heap.size w5 w5c2 := bel_next hB1 hb
      refine hK.out _ _ ⟨hS2, ?_⟩
      clear hK K' hS1 hb hB1
      refine takeH hS2 (i := 13) (d := 61) (v := .bool false) rfl rfl (by kernel_rfl) (by kernel_rfl) (by kernel_rfl) (fun _ _ _ h => h) (Or.inl ⟨by kernel_rfl, fun w' hw' => by exact exec_neq _ _ rfl ((c.z.ss.length : Int)) ((c.z.ss.length : Nat)) rfl rfl false (by simp) rfl⟩) ?_
      refine takeH hS2 (i := 14) (d := 62) (v := .bool false) rfl rfl (by kernel_rfl) (by kernel_rfl) (by kernel_rfl) (fun _ _ _ h => h) (Or.inl ⟨by kernel_rfl, fun w' hw' => by kernel_rfl⟩) ?_
      refine wpAnyH_done (by kernel_rfl) ?_ _
      try go_frame
      have HS7 := Lib.hid (HS5.out.below hB2)
      have HU7 := Lib.hid (ownK_below HU5.out hB2)
      have HM7 := Lib.hid (HM5.out.mono (keepsOthers_below hB2))
      have HYz7 := Lib.hid (HYz.out.below hB2 HYz.out.lt)
      clear hS2 hB2 HS5 HU5 HM5 HYz
      generalize w5c2 = w7 at *
      go_wp2_with fail
      refine (dlk_ok HS7.out.pd.dv Hc.out).mono ?_
      rintro e w8 ⟨rfl, rfl⟩
      have hb8 := below_alloc w7 (Obj.cells #[.pointer (some ⟨c.A, 0, none⟩)] 93)
      have hB := Blk.new w7 93 #[.pointer (some ⟨c.A, 0, none⟩)]
      have hS := HS7.out.below hb8
      have hU := ownK_below HU7.out hb8
      have hM := HM7.out.mono (KeepsOthers.alloc w7 (Obj.cells #[.pointer (some ⟨c.A, 0, none⟩)] 93))
      have hYz := HYz7.out.below hb8 HYz7.out.lt
      clear hb8 HS7 HU7 HM7 HYz7
      go_wp2_with fail
      generalize w7.heap.size = bp at *
      generalize w7.alloc (Obj.cells #[.pointer (some ⟨c.A, 0, none⟩)] 93) = V8 at *
      have Hkeep := Lib.hid (hS.pd.dv.each k c Hc.out)
      refine wp_rangeB (N := c.z.ss.length) (w0 := V8) rfl (enters_of Try.func68 (by kernel_rfl) rfl) (allF_gives 7 (by decide) V8 Hkeep.out Hok.out hB) (fun h k => h.trans k) (KpRow.put (fun g hg => Hkeep.out.lt (.inr hg))) (Below.refl _ _) (fun _ => rfl)
        (fun pre W => SmP lo X D mb n S vz ve l f (.slice (some ⟨g7, 0, none⟩) l.length cz) (.slice ac S.R.cs.length cc) (.slice ah S.R.h.length ch) w W ∧ (Blk W Y 87 (z7A (rz c.z) (.slice b c.z.ss.length cu)) ∧ (W.ownsRow lo 33 64 (.slice b c.z.ss.length cu) c.z.ss.length (flat c.z.ss) ∧ (Marks w.heap.size ds W ∧ V8.heap.size ≤ W.heap.size)))) (fun cc pre _ => cc = .ret ∧ ¬ pre <+: numq c.z.ss c.z.ss.length)
        (OwnFrom.and (SmP.ownF hS.B.size) (OwnFrom.and (Own.from (blk_own (β := List (Nat × List Nat)) _ _ (fun _ => _)) _) (OwnFrom.and ownF_rowK (ownFrom_marks hM (Nat.le_refl _))))) (fun cc => ownFrom_pure' (fun pre => cc = .ret ∧ ¬ pre <+: numq c.z.ss c.z.ss.length)) ⟨hS, hYz, hU, hM, Nat.le_refl _⟩ 34 (fun x => bA (nrm x.2)) ?a1
        (fun pre x W hI => fun g' hg' => Below.heap_alloc W (Obj.cells (bA (nrm x.2)) 34) g' (hI.1.pd.dv.lt (.inr (.inr ⟨c, List.mem_of_getElem? Hc.out, .inr hg'⟩)))) ?assign ?body ?done ?stop
      case assign =>
        intro lb pre x W K hI hK
        unfold encQ
        clear hI
        gi_wp2_with (first | (refine wplIn_store_new rfl _ _ rfl (bA (nrm x.2)) W 34 (bA (zeros 64)) rfl rfl rfl (info_sec (nrm_length _)) (by rw [bA_size, bA_size, zeros_length, nrm_length]) (bA_one _) ?_; go_frame))
        generalize W.heap.size = bx at hK ⊢
        exact hK
      case stop =>
        rintro D c pre W hD hp ⟨rfl, hn⟩ _
        exact absurd hp hn
      case body =>
        rintro lb pre ⟨xi, xs0⟩ bx W1 ⟨hI, hYw, hUw, hMw, hWw⟩ hbx hpl
        have Hx64 := Lib.hid (nrm_length xs0)
        have Hpf := Lib.hid (fun hp => fq_iff (x := (xi, xs0)) (pre := pre) Hok.out.w64 hp)
        change Blk W1 bx 34 (bA (nrm xs0)) at hbx
        generalize hxs : nrm xs0 = xs at *
        have hbd : Below W1.heap.size W1 W1.drew := (Below.refl _ _).drew
        have HI2 := Lib.hid (hI.below hbd)
        have HYz1 := Lib.hid (hYw.below hbd hYw.lt)
        have HBx := Lib.hid (hbx.below hbd hbx.lt)
        have HU2 := Lib.hid (ownK_below hUw hbd)
        have HM2 := Lib.hid (hMw.mono (KeepsOthers.drew _))
        have HW2 := Lib.hid (Nat.le_trans hWw hbd.size)
        have HK2 := Lib.hid (KeepsOthers.drew W1)
        have HKr2 : Hid (KpRow c.v W1 W1.drew) := Lib.hid (fun g' hg' => rfl)
        have Hlt3 := Lib.hid hpl
        clear hI hYw hbx hUw hMw hWw hbd hS hU hM hYz hB hxs
        gi_upto_region 12 with fail
        by_cases hxi : xi < c.z.ss.length
        · have Hxi := Lib.hid hxi
          obtain ⟨gb, rfl, _, _⟩ := ownK_form HU2.out (by omega)
          have Hrg := Lib.hid (own_range7 HU2.out rfl Hok.out.w64 xi hxi)
          have Hy64 := Lib.hid (getD_64 Hok.out.w64 xi hxi)
          have Hpf2 : Hid ((pre ++ [(xi, xs0)] <+: numq c.z.ss c.z.ss.length) → xs = c.z.ss.getD xi []) := Lib.hid (fun hp => by
            obtain ⟨h1, h2⟩ := Hpf.out hp
            have h1' : xi = pre.length := h1
            rw [h1']
            exact h2)
          clear hxi hpl Hpf
          generalize c.z.ss.getD xi [] = ys at *
          by_cases hxy : xs = ys
          · have Hxy := Lib.hid hxy
            clear hxy Hpf2
            refine wpIn_region_reads (by kernel_rfl) (fun _ => trivial) ?_
            generalize W1.drew = W2 at *
            change RdAny _ _ _ _ _ _ _ _
            refine takeR (i := 0) (d := 68) (v := .int .i64 (xi : Nat)) rfl rfl (by kernel_rfl) (by kernel_rfl) (by kernel_rfl) (fun c h => by cases h) (.inl ⟨by kernel_rfl, by kernel_rfl⟩) ?_
            refine takeR (i := 1) (d := 69) (v := .pointer (some ⟨Y, 0, none⟩)) rfl rfl (by kernel_rfl) (by kernel_rfl) (by kernel_rfl) (fun c h => by cases h) (.inl ⟨by kernel_rfl, by kernel_rfl⟩) ?_
            refine takeR (i := 2) (d := 70) (v := .slice (some ⟨gb, 0, none⟩) c.z.ss.length cu) rfl rfl (by kernel_rfl) (by kernel_rfl) (by kernel_rfl) (fun c h => by cases h) (.inl ⟨by kernel_rfl, by exact exec_cellv _ rfl ⟨Y, 0, none⟩ rfl (.slice (some ⟨gb, 0, none⟩) c.z.ss.length cu) Try.underlying85 rfl ((HYz1.out.cell 0).trans rfl)⟩) ?_
            refine takeR (i := 3) (d := 71) (v := .int .i64 (c.z.ss.length : Nat)) rfl rfl (by kernel_rfl) (by kernel_rfl) (by kernel_rfl) (fun c h => by cases h) (.inl ⟨by kernel_rfl, by exact exec_len _ rfl Try.underlying85 _ _ _ rfl⟩) ?_
            try go_frame
            refine takeR (i := 4) (d := 72) (v := .bool false) rfl rfl (by kernel_rfl) (by kernel_rfl) (by kernel_rfl) (fun c h => by cases h) (.inl ⟨by kernel_rfl, by exact exec_geq _ _ rfl (xi : Nat) (c.z.ss.length : Nat) rfl rfl false (by have := Hxi.out; simp; omega) rfl⟩) ?_
            refine takeR (i := 5) (d := 73) (v := .bool false) rfl rfl (by kernel_rfl) (by kernel_rfl) (by kernel_rfl) (fun c h => by cases h) (.inl ⟨by kernel_rfl, by kernel_rfl⟩) ?_
            try go_frame
            refine takeR (i := 6) (d := 74) (v := .agg (bA xs)) rfl rfl (by kernel_rfl) (by kernel_rfl) (by kernel_rfl) (fun c h => by cases h) (.inl ⟨by kernel_rfl, by exact exec_load _ rfl bx rfl HBx.out Try.underlying34 rfl (info_sec Hx64.out)⟩) ?_
            refine takeR (i := 7) (d := 75) (v := .pointer (some ⟨Y, 0, none⟩)) rfl rfl (by kernel_rfl) (by kernel_rfl) (by kernel_rfl) (fun c h => by cases h) (.inl ⟨by kernel_rfl, by kernel_rfl⟩) ?_
            refine takeR (i := 8) (d := 76) (v := .slice (some ⟨gb, 0, none⟩) c.z.ss.length cu) rfl rfl (by kernel_rfl) (by kernel_rfl) (by kernel_rfl) (fun c h => by cases h) (.inl ⟨by kernel_rfl, by exact exec_cellv _ rfl ⟨Y, 0, none⟩ rfl (.slice (some ⟨gb, 0, none⟩) c.z.ss.length cu) Try.underlying85 rfl ((HYz1.out.cell 0).trans rfl)⟩) ?_
            try go_frame
            refine takeR (i := 9) (d := 77) (v := .int .i64 (xi : Nat)) rfl rfl (by kernel_rfl) (by kernel_rfl) (by kernel_rfl) (fun c h => by cases h) (.inl ⟨by kernel_rfl, by kernel_rfl⟩) ?_
            refine takeR (i := 10) (d := 78) (v := .pointer (some ⟨gb, xi * 64, none⟩)) rfl rfl (by kernel_rfl) (by kernel_rfl) (by kernel_rfl) (fun c h => by cases h) (.inl ⟨by kernel_rfl, by exact exec_indexK el7S _ _ rfl gb c.z.ss.length cu xi rfl rfl Hxi.out⟩) ?_
            refine takeR (i := 11) (d := 79) (v := .agg (bA ys)) rfl rfl (by kernel_rfl) (by kernel_rfl) (by kernel_rfl) (fun c h => by cases h) (.inl ⟨by kernel_rfl, by exact exec_load_b _ _ rfl gb (xi * 64) rfl ys _ Hrg.out Try.underlying33 rfl (by rw [bvals_length, Hy64.out]; exact Try.info7S)⟩) ?_
            try go_frame
            refine takeR (i := 12) (d := 80) (v := .bool false) rfl rfl (by kernel_rfl) (by kernel_rfl) (by kernel_rfl) (fun c h => by cases h) (.inl ⟨by kernel_rfl, by exact exec_neq_sector ty64 _ _ _ rfl xs ys rfl rfl Hx64.out Hy64.out false (by simp [Hxy.out])⟩) ?_
            refine takeR (i := 13) (d := 81) (v := .bool false) rfl rfl (by kernel_rfl) (by kernel_rfl) (by kernel_rfl) (fun c h => by cases h) (.inl ⟨by kernel_rfl, by kernel_rfl⟩) ?_
            try go_frame
            refine RdAny.done (by kernel_rfl) ?_ _
            try go_frame
            have HKf := Lib.hid (HK2.out.from V8.heap.size)
            gi_wp2
            exact ⟨HKf.out, HKr2.out, HI2.out, HYz1.out, HU2.out, HM2.out, HW2.out⟩
          · have Hxy := Lib.hid hxy
            have HNp := Lib.hid (fun hp => hxy (Hpf2.out hp))
            clear hxy Hpf2
            refine wpIn_region_reads (by kernel_rfl) (fun _ => trivial) ?_
            generalize W1.drew = W2 at *
            change RdAny _ _ _ _ _ _ _ _
            refine takeR (i := 0) (d := 68) (v := .int .i64 (xi : Nat)) rfl rfl (by kernel_rfl) (by kernel_rfl) (by kernel_rfl) (fun c h => by cases h) (.inl ⟨by kernel_rfl, by kernel_rfl⟩) ?_
            refine takeR (i := 1) (d := 69) (v := .pointer (some ⟨Y, 0, none⟩)) rfl rfl (by kernel_rfl) (by kernel_rfl) (by kernel_rfl) (fun c h => by cases h) (.inl ⟨by kernel_rfl, by kernel_rfl⟩) ?_
            refine takeR (i := 2) (d := 70) (v := .slice (some ⟨gb, 0, none⟩) c.z.ss.length cu) rfl rfl (by kernel_rfl) (by kernel_rfl) (by kernel_rfl) (fun c h => by cases h) (.inl ⟨by kernel_rfl, by exact exec_cellv _ rfl ⟨Y, 0, none⟩ rfl (.slice (some ⟨gb, 0, none⟩) c.z.ss.length cu) Try.underlying85 rfl ((HYz1.out.cell 0).trans rfl)⟩) ?_
            refine takeR (i := 3) (d := 71) (v := .int .i64 (c.z.ss.length : Nat)) rfl rfl (by kernel_rfl) (by kernel_rfl) (by kernel_rfl) (fun c h => by cases h) (.inl ⟨by kernel_rfl, by exact exec_len _ rfl Try.underlying85 _ _ _ rfl⟩) ?_
            try go_frame
            refine takeR (i := 4) (d := 72) (v := .bool false) rfl rfl (by kernel_rfl) (by kernel_rfl) (by kernel_rfl) (fun c h => by cases h) (.inl ⟨by kernel_rfl, by exact exec_geq _ _ rfl (xi : Nat) (c.z.ss.length : Nat) rfl rfl false (by have := Hxi.out; simp; omega) rfl⟩) ?_
            refine takeR (i := 5) (d := 73) (v := .bool false) rfl rfl (by kernel_rfl) (by kernel_rfl) (by kernel_rfl) (fun c h => by cases h) (.inl ⟨by kernel_rfl, by kernel_rfl⟩) ?_
            try go_frame
            refine takeR (i := 6) (d := 74) (v := .agg (bA xs)) rfl rfl (by kernel_rfl) (by kernel_rfl) (by kernel_rfl) (fun c h => by cases h) (.inl ⟨by kernel_rfl, by exact exec_load _ rfl bx rfl HBx.out Try.underlying34 rfl (info_sec Hx64.out)⟩) ?_
            refine takeR (i := 7) (d := 75) (v := .pointer (some ⟨Y, 0, none⟩)) rfl rfl (by kernel_rfl) (by kernel_rfl) (by kernel_rfl) (fun c h => by cases h) (.inl ⟨by kernel_rfl, by kernel_rfl⟩) ?_
            refine takeR (i := 8) (d := 76) (v := .slice (some ⟨gb, 0, none⟩) c.z.ss.length cu) rfl rfl (by kernel_rfl) (by kernel_rfl) (by kernel_rfl) (fun c h => by cases h) (.inl ⟨by kernel_rfl, by exact exec_cellv _ rfl ⟨Y, 0, none⟩ rfl (.slice (some ⟨gb, 0, none⟩) c.z.ss.length cu) Try.underlying85 rfl ((HYz1.out.cell 0).trans rfl)⟩) ?_
            try go_frame
            refine takeR (i := 9) (d := 77) (v := .int .i64 (xi : Nat)) rfl rfl (by kernel_rfl) (by kernel_rfl) (by kernel_rfl) (fun c h => by cases h) (.inl ⟨by kernel_rfl, by kernel_rfl⟩) ?_
            refine takeR (i := 10) (d := 78) (v := .pointer (some ⟨gb, xi * 64, none⟩)) rfl rfl (by kernel_rfl) (by kernel_rfl) (by kernel_rfl) (fun c h => by cases h) (.inl ⟨by kernel_rfl, by exact exec_indexK el7S _ _ rfl gb c.z.ss.length cu xi rfl rfl Hxi.out⟩) ?_
            refine takeR (i := 11) (d := 79) (v := .agg (bA ys)) rfl rfl (by kernel_rfl) (by kernel_rfl) (by kernel_rfl) (fun c h => by cases h) (.inl ⟨by kernel_rfl, by exact exec_load_b _ _ rfl gb (xi * 64) rfl ys _ Hrg.out Try.underlying33 rfl (by rw [bvals_length, Hy64.out]; exact Try.info7S)⟩) ?_
            try go_frame
            refine takeR (i := 12) (d := 80) (v := .bool true) rfl rfl (by kernel_rfl) (by kernel_rfl) (by kernel_rfl) (fun c h => by cases h) (.inl ⟨by kernel_rfl, by exact exec_neq_sector ty64 _ _ _ rfl xs ys rfl rfl Hx64.out Hy64.out true (by simp [Hxy.out])⟩) ?_
            refine takeR (i := 13) (d := 81) (v := .bool true) rfl rfl (by kernel_rfl) (by kernel_rfl) (by kernel_rfl) (fun c h => by cases h) (.inl ⟨by kernel_rfl, by kernel_rfl⟩) ?_
            try go_frame
            refine RdAny.done (by kernel_rfl) ?_ _
            try go_frame
            have cT := blk_one HI2.out.T
            have fT := HI2.out.T.frozen 0
            gi_wp2
            exact ⟨(HK2.out.trans (KeepsOthers.setCell _ _ _)).from _, rfl, HNp.out⟩
        · have Hxi : Hid (c.z.ss.length ≤ xi) := Lib.hid (by omega)
          have HNp := Lib.hid (fun hp => hxi (by have h1 : xi = pre.length := (Hpf.out hp).1; omega))
          clear hxi hpl Hpf
          refine wpIn_region_reads (by kernel_rfl) (fun _ => trivial) ?_
          generalize W1.drew = W2 at *
          change RdAny _ _ _ _ _ _ _ _
          refine takeR (i := 0) (d := 68) (v := .int .i64 (xi : Nat)) rfl rfl (by kernel_rfl) (by kernel_rfl) (by kernel_rfl) (fun c h => by cases h) (.inl ⟨by kernel_rfl, by kernel_rfl⟩) ?_
          refine takeR (i := 1) (d := 69) (v := .pointer (some ⟨Y, 0, none⟩)) rfl rfl (by kernel_rfl) (by kernel_rfl) (by kernel_rfl) (fun c h => by cases h) (.inl ⟨by kernel_rfl, by kernel_rfl⟩) ?_
          refine takeR (i := 2) (d := 70) (v := .slice b c.z.ss.length cu) rfl rfl (by kernel_rfl) (by kernel_rfl) (by kernel_rfl) (fun c h => by cases h) (.inl ⟨by kernel_rfl, by exact exec_cellv _ rfl ⟨Y, 0, none⟩ rfl (.slice b c.z.ss.length cu) Try.underlying85 rfl ((HYz1.out.cell 0).trans rfl)⟩) ?_
          refine takeR (i := 3) (d := 71) (v := .int .i64 (c.z.ss.length : Nat)) rfl rfl (by kernel_rfl) (by kernel_rfl) (by kernel_rfl) (fun c h => by cases h) (.inl ⟨by kernel_rfl, by exact exec_len _ rfl Try.underlying85 _ _ _ rfl⟩) ?_
          try go_frame
          refine takeR (i := 4) (d := 72) (v := .bool true) rfl rfl (by kernel_rfl) (by kernel_rfl) (by kernel_rfl) (fun c h => by cases h) (.inl ⟨by kernel_rfl, by exact exec_geq _ _ rfl (xi : Nat) (c.z.ss.length : Nat) rfl rfl true (by have := Hxi.out; simp; omega) rfl⟩) ?_
          refine takeR (i := 5) (d := 73) (v := .bool true) rfl rfl (by kernel_rfl) (by kernel_rfl) (by kernel_rfl) (fun c h => by cases h) (.inl ⟨by kernel_rfl, by kernel_rfl⟩) ?_
          try go_frame
          refine takeR (i := 6) (d := 74) (v := undef) rfl rfl (by kernel_rfl) (by kernel_rfl) (by kernel_rfl) (fun c h => by cases h) (.inr ⟨by kernel_rfl, rfl⟩) ?_
          refine takeR (i := 7) (d := 75) (v := undef) rfl rfl (by kernel_rfl) (by kernel_rfl) (by kernel_rfl) (fun c h => by cases h) (.inr ⟨by kernel_rfl, rfl⟩) ?_
          refine takeR (i := 8) (d := 76) (v := undef) rfl rfl (by kernel_rfl) (by kernel_rfl) (by kernel_rfl) (fun c h => by cases h) (.inr ⟨by kernel_rfl, rfl⟩) ?_
          refine takeR (i := 9) (d := 77) (v := undef) rfl rfl (by kernel_rfl) (by kernel_rfl) (by kernel_rfl) (fun c h => by cases h) (.inr ⟨by kernel_rfl, rfl⟩) ?_
          refine takeR (i := 10) (d := 78) (v := undef) rfl rfl (by kernel_rfl) (by kernel_rfl) (by kernel_rfl) (fun c h => by cases h) (.inr ⟨by kernel_rfl, rfl⟩) ?_
          refine takeR (i := 11) (d := 79) (v := undef) rfl rfl (by kernel_rfl) (by kernel_rfl) (by kernel_rfl) (fun c h => by cases h) (.inr ⟨by kernel_rfl, rfl⟩) ?_
          refine takeR (i := 12) (d := 80) (v := undef) rfl rfl (by kernel_rfl) (by kernel_rfl) (by kernel_rfl) (fun c h => by cases h) (.inr ⟨by kernel_rfl, rfl⟩) ?_
          try go_frame
          refine takeR (i := 13) (d := 81) (v := .bool true) rfl rfl (by kernel_rfl) (by kernel_rfl) (by kernel_rfl) (fun c h => by cases h) (.inl ⟨by kernel_rfl, by kernel_rfl⟩) ?_
          try go_frame
          refine RdAny.done (by kernel_rfl) ?_ _
          try go_frame
          have cT := blk_one HI2.out.T
          have fT := HI2.out.T.frozen 0
          gi_wp2
          exact ⟨(HK2.out.trans (KeepsOthers.setCell _ _ _)).from _, rfl, HNp.out⟩
      case done =>
        rintro Dd yz W1 hD rfl ⟨hS1, hYz1, hU1, hM1, _⟩ hd
        have HS9 := Lib.hid hS1
        have HM9 := Lib.hid (Marks.cons hM hS.B.size hD hd hM1)
        clear hS hU hM hYz hB hS1 hYz1 hU1 hM1 hd
        go_wp2_with fail
        exact ⟨RelS.mk (k + 1) rfl ⟨rfl, rfl, rfl, rfl, rfl, rfl, rfl, rfl, rfl, rfl, rfl, rfl, rfl, rfl, rfl, rfl, rfl, rfl, rfl, rfl, rfl, rfl, rfl, rfl, rfl, rfl, rfl, rfl, rfl, rfl, rfl, rfl, rfl, rfl, rfl, rfl, rfl, rfl, rfl, (show Value.int .i64 ((k : Int) + 1) = .int .i64 ((k + 1 : Nat) : Int) by go_num), rfl, rfl, rfl, rfl, rfl, rfl, rfl, rfl, rfl, rfl, rfl, rfl, rfl, rfl, rfl, rfl, rfl, rfl, rfl, rfl, rfl, rfl, rfl, rfl, rfl, rfl, rfl, rfl, rfl, rfl, rfl, rfl, rfl, rfl, rfl, rfl, rfl, rfl, rfl, rfl, rfl, rfl, rfl, rfl, rfl, rfl, rfl, rfl, rfl, rfl, rfl, rfl⟩ (by omega) HS9.out HM9.out, by simp [intOf]; omega⟩
    · obtain rfl : k = l.length := by omega
      go_upto_region 16 with fail
      have hbn := below_alloc V (Obj.cells #[.int .i64 0] 3)
      have hbm := below_alloc (V.alloc (Obj.cells #[.int .i64 0] 3)) (Obj.cells #[.int .i64 0] 3)
      have HS9 := Lib.hid (HSr.out.below (bthen' hbn hbm))
      have HM9 := Lib.hid (HMr.out.mono (keepsOthers_below (bthen' hbn hbm)))
      have HN9 := Lib.hid ((Blk.new V 3 #[.int .i64 0]).alloc (Obj.cells #[.int .i64 0] 3))
      have hx9 := Blk.new (V.alloc (Obj.cells #[.int .i64 0] 3)) 3 #[.int .i64 0]
      rw [World.size_alloc] at hx9
      have HN29 := Lib.hid hx9
      have Hn12 : Hid (w.heap.size + 1 < V.heap.size ∧ V.heap.size < V.heap.size + 1) := Lib.hid ⟨HSr.out.T.lt, Nat.lt_succ_self _⟩
      clear hbn hbm hx9 HSr HMr
      generalize (V.alloc (Obj.cells #[.int .i64 0] 3)).alloc (Obj.cells #[.int .i64 0] 3) = V1 at *
      generalize V.heap.size + 1 = nbm at *
      generalize V.heap.size = nbn at *
      go_wp2_with fail
      refine (pcom_call (⟨D, vz, ve, l, mb, n, f, HS9.out.pd, rfl⟩ : pdAt lo V1 X S (PdF X D vz ve l mb))).mono ?_
      rintro e w10 ⟨rfl, rfl⟩
      have hb8 := below_alloc V1 (Obj.cells #[.pointer (some ⟨X, 0, none⟩)] 24)
      have hBx := Blk.new V1 24 #[.pointer (some ⟨X, 0, none⟩)]
      have hS := HS9.out.below hb8
      have hM := HM9.out.mono (keepsOthers_below hb8)
      have hN := HN9.out.below hb8 HN9.out.lt
      have hN2 := HN29.out.below hb8 HN29.out.lt
      clear hb8 HS9 HM9 HN9 HN29
      go_wp2_with fail
      generalize V1.heap.size = bp at *
      generalize V1.alloc (Obj.cells #[.pointer (some ⟨X, 0, none⟩)] 24) = V9 at *
      refine wp_rangeB (N := S.R.cs.length) (w0 := V9) rfl (enters_of Try.func47 (by kernel_rfl) rfl) (pcom_gives ⟨D, vz, ve, l, mb, n, f, hS.pd, rfl⟩ hBx Hhn.out) (fun h k => h.trans k) (KpF.put hS.kpF) (Below.refl _ _) (fun _ => rfl)
        (fun pre W => SmP lo X D mb n S vz ve l f (.slice az l.length cz) (.slice ac S.R.cs.length cc) (.slice ah S.R.h.length ch) w W ∧ (Blk W nbn 3 #[.int .i64 (pre.length : Int)] ∧ (Blk W nbm 3 #[.int .i64 0] ∧ (Marks w.heap.size ds W ∧ V9.heap.size ≤ W.heap.size)))) (fun cc pre _ => cc = .ret ∧ ¬ pre <+: S.R.cs)
        (OwnFrom.and (SmP.ownF hS.B.size) (OwnFrom.and (Own.from (blk_own _ _ (fun pre : List EvR => #[.int .i64 (pre.length : Int)])) _) (OwnFrom.and (Own.from (blk_own (β := List EvR) _ _ (fun _ => _)) _) (ownFrom_marks hM (Nat.le_refl _))))) (fun cc => ownFrom_pure' (fun pre => cc = .ret ∧ ¬ pre <+: S.R.cs)) ⟨hS, by simpa using hN, hN2, hM, Nat.le_refl _⟩ 37 (fun x => evA (nrE x))
        ?acs (fun pre x W hI => KpF.alloc (fun i hi => hI.1.kpF i hi) _) ?assigncs ?bodycs ?donecs ?stopcs
      case assigncs =>
        intro lb pre x W K hI hK
        unfold encV
        clear hI
        have hzv := Try.zeroEv
        gi_wp2_with (first | (refine wplIn_store_new rfl _ _ rfl (evA (nrE x)) W 37 (evA ev0) rfl rfl rfl (info_evA (nrE_len x)) (by rw [evA_size (nrE_len x), evA_size (zeros_length 64)]) (evA_one _) ?_; go_frame))
        generalize W.heap.size = bx at hK ⊢
        exact hK
      case stopcs =>
        rintro D c pre W hD hp ⟨rfl, hn⟩ _
        exact absurd hp hn
      case bodycs =>
        rintro lb pre x be W1 ⟨hI, hNw, hN2w, hMw, hWw⟩ hbe hpl
        have HI1 := Lib.hid hI
        have HX1 := Lib.hid hI.x
        have HN1 := Lib.hid hNw
        have HN2 := Lib.hid hN2w
        have HE1 := Lib.hid hbe
        have HM1 := Lib.hid hMw
        have HW1 := Lib.hid hWw
        have Hpl := Lib.hid hpl
        obtain ⟨y, hy⟩ : ∃ y, S.R.cs[pre.length]? = some y := ⟨_, List.getElem?_eq_getElem hpl⟩
        have Hyo := Lib.hid (hI.dc.cs.ok y (List.mem_of_getElem? hy))
        have Hge : Hid (decide (((pre.length : Nat) : Int) ≥ ((S.R.cs.length : Nat) : Int)) = false) := Lib.hid (decide_eq_false (by omega))
        obtain ⟨ge, oe, ce, hve, -, -⟩ := (hI.dc.cs).at_ hy
        obtain ⟨rfl, -, rfl⟩ : ac = some ⟨ge, oe, none⟩ ∧ True ∧ cc = ce := by simpa using hve
        have Hry : Hid (∀ w', Below W1.heap.size W1 w' → w'.rangeAt ge (oe + pre.length * 68) (evL y)) := Lib.hid (fun w' hb => by
          obtain ⟨g', off', cap2, hv2, hr2, _⟩ := ((hI.dc.below hb).cs).at_ hy
          obtain ⟨⟨rfl, rfl⟩, -⟩ : (ge = g' ∧ oe = off') ∧ cc = cap2 := by simpa using hv2
          exact hr2)
        have Hpf : Hid ((pre ++ [x] <+: S.R.cs) → nrE x = y) := Lib.hid (fun hp => by
          obtain ⟨t, ht⟩ := hp
          have h1 : S.R.cs[pre.length]? = some x := by rw [← ht]; simp
          rw [hy] at h1
          injection h1 with h1
          subst h1
          exact nrE_of Hyo.out)
        have Hnl := Lib.hid (show w.heap.size + 1 < nbn by have := Hn12.out; omega)
        have Hnf : Hid (¬ (PdF X D vz ve l mb) nbn) := Lib.hid (fun hi => by have := hI.fresh _ hi; have := Hn12.out; omega)
        clear hI hNw hN2w hbe hMw hWw hpl hy hve
        gi_upto_region 18 with fail
        by_cases hxy : nrE x = y
        · have Hxy := Lib.hid hxy
          clear hxy Hpf
          refine wpIn_region_heldIn (l := lb) (S := fun w' => Kept (fun _ => False) W1 w') (by kernel_rfl) (by kernel_rfl) (by rintro ⟨_, _, h9⟩; exact h9) ?_
          change wpAnyH _ _ _ _ _ _ _ _ (World.drew _)
          have hQ : Kept (fun _ => False) W1 W1.drew := (Kept.refl _ _).drew
          have hB0 : Below W1.heap.size W1 W1.drew := (Below.refl _ _).drew
          refine takeH hQ (i := 0) (d := 86) (v := .int .i64 ((pre.length : Nat))) rfl rfl (by kernel_rfl) (by kernel_rfl) (by kernel_rfl) (fun _ _ _ h => h) (Or.inl ⟨by kernel_rfl, fun w' hw' => by exact exec_cell _ rfl ⟨nbn, 0, none⟩ rfl _ Try.underlying3 (((HN1.out.kept hw' (fun h => h)).cell 0).trans (rfl))⟩) ?_
          refine takeH hQ (i := 1) (d := 87) (v := .pointer (some ⟨w.heap.size, 5, none⟩)) rfl rfl (by kernel_rfl) (by kernel_rfl) (by kernel_rfl) (fun _ _ _ h => h) (Or.inl ⟨by kernel_rfl, fun w' hw' => by kernel_rfl⟩) ?_
          refine takeH hQ (i := 2) (d := 88) (v := .slice (some ⟨ge, oe, none⟩) (S.R.cs.length) (cc)) rfl rfl (by kernel_rfl) (by kernel_rfl) (by kernel_rfl) (fun _ _ _ h => h) (Or.inl ⟨by kernel_rfl, fun w' hw' => by exact exec_cellv _ rfl ⟨w.heap.size, 5, none⟩ rfl (.slice (some ⟨ge, oe, none⟩) (S.R.cs.length) (cc)) Try.underlying28 rfl (((HX1.out.kept hw' (fun h => h)).cell 5).trans (rfl))⟩) ?_
          refine takeH hQ (i := 3) (d := 89) (v := .int .i64 ((S.R.cs.length : Nat))) rfl rfl (by kernel_rfl) (by kernel_rfl) (by kernel_rfl) (fun _ _ _ h => h) (Or.inl ⟨by kernel_rfl, fun w' hw' => by exact exec_len _ rfl Try.underlying28 _ _ _ rfl⟩) ?_
          try go_frame
          refine takeH hQ (i := 4) (d := 90) (v := .bool false) rfl rfl (by kernel_rfl) (by kernel_rfl) (by kernel_rfl) (fun _ _ _ h => h) (Or.inl ⟨by kernel_rfl, fun w' hw' => by exact exec_geq _ _ rfl ((pre.length : Nat)) ((S.R.cs.length : Nat)) rfl rfl false (Hge.out) rfl⟩) ?_
          refine takeH hQ (i := 5) (d := 91) (v := .bool false) rfl rfl (by kernel_rfl) (by kernel_rfl) (by kernel_rfl) (fun _ _ _ h => h) (Or.inl ⟨by kernel_rfl, fun w' hw' => by kernel_rfl⟩) ?_
          refine takeH hQ (i := 6) (d := 92) (v := .agg (evA (nrE x))) rfl rfl (by kernel_rfl) (by kernel_rfl) (by kernel_rfl) (fun _ _ _ h => h) (Or.inl ⟨by kernel_rfl, fun w' hw' => by exact exec_load _ rfl (be) rfl (HE1.out.kept hw' (fun h => h)) Try.underlying37 rfl (info_evA (nrE_len x))⟩) ?_
          refine takeH hQ (i := 8) (d := 94) (v := .pointer (some ⟨w.heap.size, 5, none⟩)) rfl rfl (by kernel_rfl) (by kernel_rfl) (by kernel_rfl) (fun _ _ _ h => h) (Or.inl ⟨by kernel_rfl, fun w' hw' => by kernel_rfl⟩) ?_
          try go_frame
          refine takeH hQ (i := 9) (d := 95) (v := .slice (some ⟨ge, oe, none⟩) (S.R.cs.length) (cc)) rfl rfl (by kernel_rfl) (by kernel_rfl) (by kernel_rfl) (fun _ _ _ h => h) (Or.inl ⟨by kernel_rfl, fun w' hw' => by exact exec_cellv _ rfl ⟨w.heap.size, 5, none⟩ rfl (.slice (some ⟨ge, oe, none⟩) (S.R.cs.length) (cc)) Try.underlying28 rfl (((HX1.out.kept hw' (fun h => h)).cell 5).trans (rfl))⟩) ?_
          refine takeH hQ (i := 10) (d := 96) (v := .int .i64 ((pre.length : Nat))) rfl rfl (by kernel_rfl) (by kernel_rfl) (by kernel_rfl) (fun _ _ _ h => h) (Or.inl ⟨by kernel_rfl, fun w' hw' => by exact exec_cell _ rfl ⟨nbn, 0, none⟩ rfl _ Try.underlying3 (((HN1.out.kept hw' (fun h => h)).cell 0).trans (rfl))⟩) ?_
          refine takeH hQ (i := 11) (d := 97) (v := .pointer (some ⟨ge, oe + pre.length * 68, none⟩)) rfl rfl (by kernel_rfl) (by kernel_rfl) (by kernel_rfl) (fun _ _ _ h => h) (Or.inl ⟨by kernel_rfl, fun w' hw' => by exact exec_indexO elE8 _ _ rfl ge oe S.R.cs.length cc pre.length rfl rfl Hpl.out⟩) ?_
          refine takeH hQ (i := 12) (d := 98) (v := .agg (evA y)) rfl rfl (by kernel_rfl) (by kernel_rfl) (by kernel_rfl) (fun _ _ _ h => h) (Or.inl ⟨by kernel_rfl, fun w' hw' => by exact exec_load_v _ _ rfl ge (oe + pre.length * 68) rfl (evA y) _ (Hry.out w' (hw'.below (Nat.le_refl _) (fun _ _ h => h))) Try.underlying83 rfl (info_e8A Hyo.out.len)⟩) ?_
          try go_frame
          refine nextH (i := 7) rfl (by kernel_rfl) (by kernel_rfl) (fun K' hK => ?_)
          go_wp2_with fail
          refine (of8 (nrE x) W1.drew (nrE_len x)).mono ?_
          rintro en W1c1 ⟨rfl, hb⟩
          have hQ1 : Kept (fun _ => False) W1 W1c1 := kept_next hQ hb
          have hB1 : Below W1.heap.size W1 W1c1 := bel_next hB0 hb
          refine hK.out _ _ ⟨hQ1, ?_⟩
          clear hK K' hQ hb hB0
          refine takeH hQ1 (i := 13) (d := 99) (v := .bool false) rfl rfl (by kernel_rfl) (by kernel_rfl) (by kernel_rfl) (fun _ _ _ h => h) (Or.inl ⟨by kernel_rfl, fun w' hw' => by exact exec_neq_ev tyE8 _ _ _ rfl (nrE x) y rfl rfl (nrE_len x) Hyo.out.len false (by simp [Hxy.out])⟩) ?_
          refine takeH hQ1 (i := 14) (d := 100) (v := .bool false) rfl rfl (by kernel_rfl) (by kernel_rfl) (by kernel_rfl) (fun _ _ _ h => h) (Or.inl ⟨by kernel_rfl, fun w' hw' => by kernel_rfl⟩) ?_
          refine wpAnyH_done (by kernel_rfl) ?_ _
          try go_frame
          have HI2 := Lib.hid (HI1.out.below hB1)
          have HNn := Lib.hid (HN1.out.below hB1 HN1.out.lt)
          have HNo := Lib.hid (HN2.out.below hB1 HN2.out.lt)
          have HK2 := Lib.hid (keepsOthers_below hB1)
          have HM2 := Lib.hid (HM1.out.mono HK2.out)
          have HW2 := Lib.hid (Nat.le_trans HW1.out hB1.size)
          have HKr2 : Hid (KpF (PdF X D vz ve l mb) W1 W1c1) := Lib.hid (fun i hi => hB1.block i (HI1.out.kpF i hi))
          clear hQ1 hB1 HI1 HN1 HN2 HM1 HW1 HX1 HE1
          generalize W1c1 = W2 at *
          have cN : W2.cell? ⟨nbn, 0, none⟩ = some (.int .i64 (pre.length : Int)) := blk_one HNn.out
          have fN := HNn.out.frozen 0
          have hl64 : (pre.length : Int) < 1000000 := by have := Hpl.out; have := Hhn.out; omega
          have hkq := (Kept.refl (· = nbn) W2).setCell (p := ⟨nbn, 0, none⟩) rfl (.int .i64 ((pre.length : Int) + 1))
          have hlen : ((pre ++ [x]).length : Int) = (pre.length : Int) + 1 := by simp
          have HEn := Lib.hid (And.intro (HI2.out.keptB HNn.out Hnl.out (by decide) (by decide) (by decide) hkq) (And.intro (show Blk (W2.setCell ⟨nbn, 0, none⟩ (.int .i64 ((pre.length : Int) + 1))) nbn 3 #[.int .i64 ((pre ++ [x]).length : Int)] by rw [hlen]; exact blk_set1 HNn.out _) (And.intro (HNo.out.kept hkq (by have := Hn12.out; omega)) (And.intro (HM2.out.mono (KeepsOthers.setCell W2 ⟨nbn, 0, none⟩ (.int .i64 ((pre.length : Int) + 1)))) (Nat.le_trans HW2.out hkq.size)))))
          have HKf := Lib.hid ((HK2.out.trans (KeepsOthers.setCell W2 ⟨nbn, 0, none⟩ (.int .i64 ((pre.length : Int) + 1)))).from V9.heap.size)
          have HKrf : Hid (KpF (PdF X D vz ve l mb) W1 (W2.setCell ⟨nbn, 0, none⟩ (.int .i64 ((pre.length : Int) + 1)))) := Lib.hid (HKr2.out.trans (KpF.set _ Hnf.out))
          clear hkq hlen
          gi_wp2
          exact ⟨HKf.out, HKrf.out, HEn.out⟩
        · have Hxy := Lib.hid hxy
          have HNp := Lib.hid (fun hp => hxy (Hpf.out hp))
          clear hxy Hpf
          refine wpIn_region_heldIn (l := lb) (S := fun w' => Kept (fun _ => False) W1 w') (by kernel_rfl) (by kernel_rfl) (by rintro ⟨_, _, h9⟩; exact h9) ?_
          change wpAnyH _ _ _ _ _ _ _ _ (World.drew _)
          have hQ : Kept (fun _ => False) W1 W1.drew := (Kept.refl _ _).drew
          have hB0 : Below W1.heap.size W1 W1.drew := (Below.refl _ _).drew
          refine takeH hQ (i := 0) (d := 86) (v := .int .i64 ((pre.length : Nat))) rfl rfl (by kernel_rfl) (by kernel_rfl) (by kernel_rfl) (fun _ _ _ h => h) (Or.inl ⟨by kernel_rfl, fun w' hw' => by exact exec_cell _ rfl ⟨nbn, 0, none⟩ rfl _ Try.underlying3 (((HN1.out.kept hw' (fun h => h)).cell 0).trans (rfl))⟩) ?_
          refine takeH hQ (i := 1) (d := 87) (v := .pointer (some ⟨w.heap.size, 5, none⟩)) rfl rfl (by kernel_rfl) (by kernel_rfl) (by kernel_rfl) (fun _ _ _ h => h) (Or.inl ⟨by kernel_rfl, fun w' hw' => by kernel_rfl⟩) ?_
          refine takeH hQ (i := 2) (d := 88) (v := .slice (some ⟨ge, oe, none⟩) (S.R.cs.length) (cc)) rfl rfl (by kernel_rfl) (by kernel_rfl) (by kernel_rfl) (fun _ _ _ h => h) (Or.inl ⟨by kernel_rfl, fun w' hw' => by exact exec_cellv _ rfl ⟨w.heap.size, 5, none⟩ rfl (.slice (some ⟨ge, oe, none⟩) (S.R.cs.length) (cc)) Try.underlying28 rfl (((HX1.out.kept hw' (fun h => h)).cell 5).trans (rfl))⟩) ?_
          refine takeH hQ (i := 3) (d := 89) (v := .int .i64 ((S.R.cs.length : Nat))) rfl rfl (by kernel_rfl) (by kernel_rfl) (by kernel_rfl) (fun _ _ _ h => h) (Or.inl ⟨by kernel_rfl, fun w' hw' => by exact exec_len _ rfl Try.underlying28 _ _ _ rfl⟩) ?_
          try go_frame
          refine takeH hQ (i := 4) (d := 90) (v := .bool false) rfl rfl (by kernel_rfl) (by kernel_rfl) (by kernel_rfl) (fun _ _ _ h => h) (Or.inl ⟨by kernel_rfl, fun w' hw' => by exact exec_geq _ _ rfl ((pre.length : Nat)) ((S.R.cs.length : Nat)) rfl rfl false (Hge.out) rfl⟩) ?_
          refine takeH hQ (i := 5) (d := 91) (v := .bool false) rfl rfl (by kernel_rfl) (by kernel_rfl) (by kernel_rfl) (fun _ _ _ h => h) (Or.inl ⟨by kernel_rfl, fun w' hw' => by kernel_rfl⟩) ?_
          refine takeH hQ (i := 6) (d := 92) (v := .agg (evA (nrE x))) rfl rfl (by kernel_rfl) (by kernel_rfl) (by kernel_rfl) (fun _ _ _ h => h) (Or.inl ⟨by kernel_rfl, fun w' hw' => by exact exec_load _ rfl (be) rfl (HE1.out.kept hw' (fun h => h)) Try.underlying37 rfl (info_evA (nrE_len x))⟩) ?_
          refine takeH hQ (i := 8) (d := 94) (v := .pointer (some ⟨w.heap.size, 5, none⟩)) rfl rfl (by kernel_rfl) (by kernel_rfl) (by kernel_rfl) (fun _ _ _ h => h) (Or.inl ⟨by kernel_rfl, fun w' hw' => by kernel_rfl⟩) ?_
          try go_frame
          refine takeH hQ (i := 9) (d := 95) (v := .slice (some ⟨ge, oe, none⟩) (S.R.cs.length) (cc)) rfl rfl (by kernel_rfl) (by kernel_rfl) (by kernel_rfl) (fun _ _ _ h => h) (Or.inl ⟨by kernel_rfl, fun w' hw' => by exact exec_cellv _ rfl ⟨w.heap.size, 5, none⟩ rfl (.slice (some ⟨ge, oe, none⟩) (S.R.cs.length) (cc)) Try.underlying28 rfl (((HX1.out.kept hw' (fun h => h)).cell 5).trans (rfl))⟩) ?_
          refine takeH hQ (i := 10) (d := 96) (v := .int .i64 ((pre.length : Nat))) rfl rfl (by kernel_rfl) (by kernel_rfl) (by kernel_rfl) (fun _ _ _ h => h) (Or.inl ⟨by kernel_rfl, fun w' hw' => by exact exec_cell _ rfl ⟨nbn, 0, none⟩ rfl _ Try.underlying3 (((HN1.out.kept hw' (fun h => h)).cell 0).trans (rfl))⟩) ?_
          refine takeH hQ (i := 11) (d := 97) (v := .pointer (some ⟨ge, oe + pre.length * 68, none⟩)) rfl rfl (by kernel_rfl) (by kernel_rfl) (by kernel_rfl) (fun _ _ _ h => h) (Or.inl ⟨by kernel_rfl, fun w' hw' => by exact exec_indexO elE8 _ _ rfl ge oe S.R.cs.length cc pre.length rfl rfl Hpl.out⟩) ?_
          refine takeH hQ (i := 12) (d := 98) (v := .agg (evA y)) rfl rfl (by kernel_rfl) (by kernel_rfl) (by kernel_rfl) (fun _ _ _ h => h) (Or.inl ⟨by kernel_rfl, fun w' hw' => by exact exec_load_v _ _ rfl ge (oe + pre.length * 68) rfl (evA y) _ (Hry.out w' (hw'.below (Nat.le_refl _) (fun _ _ h => h))) Try.underlying83 rfl (info_e8A Hyo.out.len)⟩) ?_
          try go_frame
          refine nextH (i := 7) rfl (by kernel_rfl) (by kernel_rfl) (fun K' hK => ?_)
          go_wp2_with fail
          refine (of8 (nrE x) W1.drew (nrE_len x)).mono ?_
          rintro en W1c1 ⟨rfl, hb⟩
          have hQ1 : Kept (fun _ => False) W1 W1c1 := kept_next hQ hb
          have hB1 : Below W1.heap.size W1 W1c1 := bel_next hB0 hb
          refine hK.out _ _ ⟨hQ1, ?_⟩
          clear hK K' hQ hb hB0
          refine takeH hQ1 (i := 13) (d := 99) (v := .bool true) rfl rfl (by kernel_rfl) (by kernel_rfl) (by kernel_rfl) (fun _ _ _ h => h) (Or.inl ⟨by kernel_rfl, fun w' hw' => by exact exec_neq_ev tyE8 _ _ _ rfl (nrE x) y rfl rfl (nrE_len x) Hyo.out.len true (by simp [Hxy.out])⟩) ?_
          refine takeH hQ1 (i := 14) (d := 100) (v := .bool true) rfl rfl (by kernel_rfl) (by kernel_rfl) (by kernel_rfl) (fun _ _ _ h => h) (Or.inl ⟨by kernel_rfl, fun w' hw' => by kernel_rfl⟩) ?_
          refine wpAnyH_done (by kernel_rfl) ?_ _
          try go_frame
          have HI2 := Lib.hid (HI1.out.below hB1)
          have HK2 := Lib.hid (keepsOthers_below hB1)
          clear hQ1 hB1 HI1 HN1 HN2 HM1 HW1 HX1 HE1
          generalize W1c1 = W2 at *
          have cT := blk_one HI2.out.T
          have fT := HI2.out.T.frozen 0
          gi_wp2
          exact ⟨(HK2.out.trans (KeepsOthers.setCell _ _ _)).from _, rfl, HNp.out⟩
      case donecs =>
        rintro Dd yz W1 hD rfl ⟨hS1, hN1, hN21, hM1, _⟩ hd
        have HS9 := Lib.hid hS1
        have HM9 := Lib.hid (Marks.cons hM hS.B.size hD hd hM1)
        have HN9 := Lib.hid hN1
        have HN29 := Lib.hid hN21
        clear hS hM hN hN2 hBx hS1 hM1 hN1 hN21 hd
        go_wp2_with fail
        refine (phpd_call (⟨D, vz, ve, l, mb, n, f, HS9.out.pd, rfl⟩ : pdAt lo W1 X S (PdF X D vz ve l mb))).mono ?_
        rintro e w11 ⟨rfl, rfl⟩
        have hb8 := below_alloc W1 (Obj.cells #[.pointer (some ⟨X, 0, none⟩)] 24)
        have hBx := Blk.new W1 24 #[.pointer (some ⟨X, 0, none⟩)]
        have hS := HS9.out.below hb8
        have hM := HM9.out.mono (keepsOthers_below hb8)
        have hN := HN29.out.below hb8 HN29.out.lt
        have hN2 := HN9.out.below hb8 HN9.out.lt
        clear hb8 HS9 HM9 HN9 HN29
        go_wp2_with fail
        generalize W1.heap.size = bq at *
        generalize W1.alloc (Obj.cells #[.pointer (some ⟨X, 0, none⟩)] 24) = V9 at *
        generalize ({ target := .collected Dd, args := #[] } :: ds : List Deferred) = ds at *
        refine wp_rangeB (N := S.R.h.length) (w0 := V9) rfl (enters_of Try.func49 (by kernel_rfl) rfl) (phpd_gives ⟨D, vz, ve, l, mb, n, f, hS.pd, rfl⟩ hBx Hhn.out) (fun h k => h.trans k) (KpF.put hS.kpF) (Below.refl _ _) (fun _ => rfl)
          (fun pre W => SmP lo X D mb n S vz ve l f (.slice az l.length cz) (.slice ac S.R.cs.length cc) (.slice ah S.R.h.length ch) w W ∧ (Blk W nbm 3 #[.int .i64 (pre.length : Int)] ∧ (Blk W nbn 3 #[.int .i64 (S.R.cs.length : Int)] ∧ (Marks w.heap.size ds W ∧ V9.heap.size ≤ W.heap.size)))) (fun cc pre _ => cc = .ret ∧ ¬ pre <+: S.R.h)
          (OwnFrom.and (SmP.ownF hS.B.size) (OwnFrom.and (Own.from (blk_own _ _ (fun pre : List EvR => #[.int .i64 (pre.length : Int)])) _) (OwnFrom.and (Own.from (blk_own (β := List EvR) _ _ (fun _ => _)) _) (ownFrom_marks hM (Nat.le_refl _))))) (fun cc => ownFrom_pure' (fun pre => cc = .ret ∧ ¬ pre <+: S.R.h)) ⟨hS, by simpa using hN, hN2, hM, Nat.le_refl _⟩ 37 (fun x => evA (nrE x))
          ?ah (fun pre x W hI => KpF.alloc (fun i hi => hI.1.kpF i hi) _) ?assignh ?bodyh ?doneh ?stoph
        case assignh =>
          intro lb pre x W K hI hK
          unfold encV
          clear hI
          have hzv := Try.zeroEv
          gi_wp2_with (first | (refine wplIn_store_new rfl _ _ rfl (evA (nrE x)) W 37 (evA ev0) rfl rfl rfl (info_evA (nrE_len x)) (by rw [evA_size (nrE_len x), evA_size (zeros_length 64)]) (evA_one _) ?_; go_frame))
          generalize W.heap.size = bx at hK ⊢
          exact hK
        case stoph =>
          rintro D c pre W hD hp ⟨rfl, hn⟩ _
          exact absurd hp hn
        case bodyh =>
          rintro lb pre x be W1 ⟨hI, hNw, hN2w, hMw, hWw⟩ hbe hpl
          have HI1 := Lib.hid hI
          have HX1 := Lib.hid hI.x
          have HN1 := Lib.hid hNw
          have HN2 := Lib.hid hN2w
          have HE1 := Lib.hid hbe
          have HM1 := Lib.hid hMw
          have HW1 := Lib.hid hWw
          have Hpl := Lib.hid hpl
          obtain ⟨y, hy⟩ : ∃ y, S.R.h[pre.length]? = some y := ⟨_, List.getElem?_eq_getElem hpl⟩
          have Hyo := Lib.hid (hI.dc.h.ok y (List.mem_of_getElem? hy))
          have Hge : Hid (decide (((pre.length : Nat) : Int) ≥ ((S.R.h.length : Nat) : Int)) = false) := Lib.hid (decide_eq_false (by omega))
          obtain ⟨ge, oe, ce, hve, -, -⟩ := (hI.dc.h.rd).at_ hy
          obtain ⟨rfl, -, rfl⟩ : ah = some ⟨ge, oe, none⟩ ∧ True ∧ ch = ce := by simpa using hve
          have Hry : Hid (∀ w', Below W1.heap.size W1 w' → w'.rangeAt ge (oe + pre.length * 68) (evL y)) := Lib.hid (fun w' hb => by
            obtain ⟨g', off', cap2, hv2, hr2, _⟩ := ((hI.dc.below hb).h.rd).at_ hy
            obtain ⟨⟨rfl, rfl⟩, -⟩ : (ge = g' ∧ oe = off') ∧ ch = cap2 := by simpa using hv2
            exact hr2)
          have Hpf : Hid ((pre ++ [x] <+: S.R.h) → nrE x = y) := Lib.hid (fun hp => by
            obtain ⟨t, ht⟩ := hp
            have h1 : S.R.h[pre.length]? = some x := by rw [← ht]; simp
            rw [hy] at h1
            injection h1 with h1
            subst h1
            exact nrE_of Hyo.out)
          have Hnl := Lib.hid (show w.heap.size + 1 < nbm by have := Hn12.out; omega)
          have Hnf : Hid (¬ (PdF X D vz ve l mb) nbm) := Lib.hid (fun hi => by have := hI.fresh _ hi; have := Hn12.out; omega)
          clear hI hNw hN2w hbe hMw hWw hpl hy hve
          gi_upto_region 23 with fail
          by_cases hxy : nrE x = y
          · have Hxy := Lib.hid hxy
            clear hxy Hpf
            refine wpIn_region_heldIn (l := lb) (S := fun w' => Kept (fun _ => False) W1 w') (by kernel_rfl) (by kernel_rfl) (by rintro ⟨_, _, h9⟩; exact h9) ?_
            change wpAnyH _ _ _ _ _ _ _ _ (World.drew _)
            have hQ : Kept (fun _ => False) W1 W1.drew := (Kept.refl _ _).drew
            have hB0 : Below W1.heap.size W1 W1.drew := (Below.refl _ _).drew
            refine takeH hQ (i := 0) (d := 106) (v := .int .i64 ((pre.length : Nat))) rfl rfl (by kernel_rfl) (by kernel_rfl) (by kernel_rfl) (fun _ _ _ h => h) (Or.inl ⟨by kernel_rfl, fun w' hw' => by exact exec_cell _ rfl ⟨nbm, 0, none⟩ rfl _ Try.underlying3 (((HN1.out.kept hw' (fun h => h)).cell 0).trans (rfl))⟩) ?_
            refine takeH hQ (i := 1) (d := 107) (v := .pointer (some ⟨w.heap.size, 6, none⟩)) rfl rfl (by kernel_rfl) (by kernel_rfl) (by kernel_rfl) (fun _ _ _ h => h) (Or.inl ⟨by kernel_rfl, fun w' hw' => by kernel_rfl⟩) ?_
            refine takeH hQ (i := 2) (d := 108) (v := .slice (some ⟨ge, oe, none⟩) (S.R.h.length) (ch)) rfl rfl (by kernel_rfl) (by kernel_rfl) (by kernel_rfl) (fun _ _ _ h => h) (Or.inl ⟨by kernel_rfl, fun w' hw' => by exact exec_cellv _ rfl ⟨w.heap.size, 6, none⟩ rfl (.slice (some ⟨ge, oe, none⟩) (S.R.h.length) (ch)) Try.underlying28 rfl (((HX1.out.kept hw' (fun h => h)).cell 6).trans (rfl))⟩) ?_
            refine takeH hQ (i := 3) (d := 109) (v := .int .i64 ((S.R.h.length : Nat))) rfl rfl (by kernel_rfl) (by kernel_rfl) (by kernel_rfl) (fun _ _ _ h => h) (Or.inl ⟨by kernel_rfl, fun w' hw' => by exact exec_len _ rfl Try.underlying28 _ _ _ rfl⟩) ?_
            try go_frame
            refine takeH hQ (i := 4) (d := 110) (v := .bool false) rfl rfl (by kernel_rfl) (by kernel_rfl) (by kernel_rfl) (fun _ _ _ h => h) (Or.inl ⟨by kernel_rfl, fun w' hw' => by exact exec_geq _ _ rfl ((pre.length : Nat)) ((S.R.h.length : Nat)) rfl rfl false (Hge.out) rfl⟩) ?_
            refine takeH hQ (i := 5) (d := 111) (v := .bool false) rfl rfl (by kernel_rfl) (by kernel_rfl) (by kernel_rfl) (fun _ _ _ h => h) (Or.inl ⟨by kernel_rfl, fun w' hw' => by kernel_rfl⟩) ?_
            refine takeH hQ (i := 6) (d := 112) (v := .agg (evA (nrE x))) rfl rfl (by kernel_rfl) (by kernel_rfl) (by kernel_rfl) (fun _ _ _ h => h) (Or.inl ⟨by kernel_rfl, fun w' hw' => by exact exec_load _ rfl (be) rfl (HE1.out.kept hw' (fun h => h)) Try.underlying37 rfl (info_evA (nrE_len x))⟩) ?_
            refine takeH hQ (i := 8) (d := 114) (v := .pointer (some ⟨w.heap.size, 6, none⟩)) rfl rfl (by kernel_rfl) (by kernel_rfl) (by kernel_rfl) (fun _ _ _ h => h) (Or.inl ⟨by kernel_rfl, fun w' hw' => by kernel_rfl⟩) ?_
            try go_frame
            refine takeH hQ (i := 9) (d := 115) (v := .slice (some ⟨ge, oe, none⟩) (S.R.h.length) (ch)) rfl rfl (by kernel_rfl) (by kernel_rfl) (by kernel_rfl) (fun _ _ _ h => h) (Or.inl ⟨by kernel_rfl, fun w' hw' => by exact exec_cellv _ rfl ⟨w.heap.size, 6, none⟩ rfl (.slice (some ⟨ge, oe, none⟩) (S.R.h.length) (ch)) Try.underlying28 rfl (((HX1.out.kept hw' (fun h => h)).cell 6).trans (rfl))⟩) ?_
            refine takeH hQ (i := 10) (d := 116) (v := .int .i64 ((pre.length : Nat))) rfl rfl (by kernel_rfl) (by kernel_rfl) (by kernel_rfl) (fun _ _ _ h => h) (Or.inl ⟨by kernel_rfl, fun w' hw' => by exact exec_cell _ rfl ⟨nbm, 0, none⟩ rfl _ Try.underlying3 (((HN1.out.kept hw' (fun h => h)).cell 0).trans (rfl))⟩) ?_
            refine takeH hQ (i := 11) (d := 117) (v := .pointer (some ⟨ge, oe + pre.length * 68, none⟩)) rfl rfl (by kernel_rfl) (by kernel_rfl) (by kernel_rfl) (fun _ _ _ h => h) (Or.inl ⟨by kernel_rfl, fun w' hw' => by exact exec_indexO elE8 _ _ rfl ge oe S.R.h.length ch pre.length rfl rfl Hpl.out⟩) ?_
            refine takeH hQ (i := 12) (d := 118) (v := .agg (evA y)) rfl rfl (by kernel_rfl) (by kernel_rfl) (by kernel_rfl) (fun _ _ _ h => h) (Or.inl ⟨by kernel_rfl, fun w' hw' => by exact exec_load_v _ _ rfl ge (oe + pre.length * 68) rfl (evA y) _ (Hry.out w' (hw'.below (Nat.le_refl _) (fun _ _ h => h))) Try.underlying83 rfl (info_e8A Hyo.out.len)⟩) ?_
            try go_frame
            refine nextH (i := 7) rfl (by kernel_rfl) (by kernel_rfl) (fun K' hK => ?_)
            go_wp2_with fail
            refine (of8 (nrE x) W1.drew (nrE_len x)).mono ?_
            rintro en W1c1 ⟨rfl, hb⟩
            have hQ1 : Kept (fun _ => False) W1 W1c1 := kept_next hQ hb
            have hB1 : Below W1.heap.size W1 W1c1 := bel_next hB0 hb
            refine hK.out _ _ ⟨hQ1, ?_⟩
            clear hK K' hQ hb hB0
            refine takeH hQ1 (i := 13) (d := 119) (v := .bool false) rfl rfl (by kernel_rfl) (by kernel_rfl) (by kernel_rfl) (fun _ _ _ h => h) (Or.inl ⟨by kernel_rfl, fun w' hw' => by exact exec_neq_ev tyE8 _ _ _ rfl (nrE x) y rfl rfl (nrE_len x) Hyo.out.len false (by simp [Hxy.out])⟩) ?_
            refine takeH hQ1 (i := 14) (d := 120) (v := .bool false) rfl rfl (by kernel_rfl) (by kernel_rfl) (by kernel_rfl) (fun _ _ _ h => h) (Or.inl ⟨by kernel_rfl, fun w' hw' => by kernel_rfl⟩) ?_
            refine wpAnyH_done (by kernel_rfl) ?_ _
            try go_frame
            have HI2 := Lib.hid (HI1.out.below hB1)
            have HNn := Lib.hid (HN1.out.below hB1 HN1.out.lt)
            have HNo := Lib.hid (HN2.out.below hB1 HN2.out.lt)
            have HK2 := Lib.hid (keepsOthers_below hB1)
            have HM2 := Lib.hid (HM1.out.mono HK2.out)
            have HW2 := Lib.hid (Nat.le_trans HW1.out hB1.size)
            have HKr2 : Hid (KpF (PdF X D vz ve l mb) W1 W1c1) := Lib.hid (fun i hi => hB1.block i (HI1.out.kpF i hi))
            clear hQ1 hB1 HI1 HN1 HN2 HM1 HW1 HX1 HE1
            generalize W1c1 = W2 at *
            have cN : W2.cell? ⟨nbm, 0, none⟩ = some (.int .i64 (pre.length : Int)) := blk_one HNn.out
            have fN := HNn.out.frozen 0
            have hl64 : (pre.length : Int) < 1000000 := by have := Hpl.out; have := Hhn.out; omega
            have hkq := (Kept.refl (· = nbm) W2).setCell (p := ⟨nbm, 0, none⟩) rfl (.int .i64 ((pre.length : Int) + 1))
            have hlen : ((pre ++ [x]).length : Int) = (pre.length : Int) + 1 := by simp
            have HEn := Lib.hid (And.intro (HI2.out.keptB HNn.out Hnl.out (by decide) (by decide) (by decide) hkq) (And.intro (show Blk (W2.setCell ⟨nbm, 0, none⟩ (.int .i64 ((pre.length : Int) + 1))) nbm 3 #[.int .i64 ((pre ++ [x]).length : Int)] by rw [hlen]; exact blk_set1 HNn.out _) (And.intro (HNo.out.kept hkq (by have := Hn12.out; omega)) (And.intro (HM2.out.mono (KeepsOthers.setCell W2 ⟨nbm, 0, none⟩ (.int .i64 ((pre.length : Int) + 1)))) (Nat.le_trans HW2.out hkq.size)))))
            have HKf := Lib.hid ((HK2.out.trans (KeepsOthers.setCell W2 ⟨nbm, 0, none⟩ (.int .i64 ((pre.length : Int) + 1)))).from V9.heap.size)
            have HKrf : Hid (KpF (PdF X D vz ve l mb) W1 (W2.setCell ⟨nbm, 0, none⟩ (.int .i64 ((pre.length : Int) + 1)))) := Lib.hid (HKr2.out.trans (KpF.set _ Hnf.out))
            clear hkq hlen
            gi_wp2
            exact ⟨HKf.out, HKrf.out, HEn.out⟩
          · have Hxy := Lib.hid hxy
            have HNp := Lib.hid (fun hp => hxy (Hpf.out hp))
            clear hxy Hpf
            refine wpIn_region_heldIn (l := lb) (S := fun w' => Kept (fun _ => False) W1 w') (by kernel_rfl) (by kernel_rfl) (by rintro ⟨_, _, h9⟩; exact h9) ?_
            change wpAnyH _ _ _ _ _ _ _ _ (World.drew _)
            have hQ : Kept (fun _ => False) W1 W1.drew := (Kept.refl _ _).drew
            have hB0 : Below W1.heap.size W1 W1.drew := (Below.refl _ _).drew
            refine takeH hQ (i := 0) (d := 106) (v := .int .i64 ((pre.length : Nat))) rfl rfl (by kernel_rfl) (by kernel_rfl) (by kernel_rfl) (fun _ _ _ h => h) (Or.inl ⟨by kernel_rfl, fun w' hw' => by exact exec_cell _ rfl ⟨nbm, 0, none⟩ rfl _ Try.underlying3 (((HN1.out.kept hw' (fun h => h)).cell 0).trans (rfl))⟩) ?_
            refine takeH hQ (i := 1) (d := 107) (v := .pointer (some ⟨w.heap.size, 6, none⟩)) rfl rfl (by kernel_rfl) (by kernel_rfl) (by kernel_rfl) (fun _ _ _ h => h) (Or.inl ⟨by kernel_rfl, fun w' hw' => by kernel_rfl⟩) ?_
            refine takeH hQ (i := 2) (d := 108) (v := .slice (some ⟨ge, oe, none⟩) (S.R.h.length) (ch)) rfl rfl (by kernel_rfl) (by kernel_rfl) (by kernel_rfl) (fun _ _ _ h => h) (Or.inl ⟨by kernel_rfl, fun w' hw' => by exact exec_cellv _ rfl ⟨w.heap.size, 6, none⟩ rfl (.slice (some ⟨ge, oe, none⟩) (S.R.h.length) (ch)) Try.underlying28 rfl (((HX1.out.kept hw' (fun h => h)).cell 6).trans (rfl))⟩) ?_
            refine takeH hQ (i := 3) (d := 109) (v := .int .i64 ((S.R.h.length : Nat))) rfl rfl (by kernel_rfl) (by kernel_rfl) (by kernel_rfl) (fun _ _ _ h => h) (Or.inl ⟨by kernel_rfl, fun w' hw' => by exact exec_len _ rfl Try.underlying28 _ _ _ rfl⟩) ?_
            try go_frame
            refine takeH hQ (i := 4) (d := 110) (v := .bool false) rfl rfl (by kernel_rfl) (by kernel_rfl) (by kernel_rfl) (fun _ _ _ h => h) (Or.inl ⟨by kernel_rfl, fun w' hw' => by exact exec_geq _ _ rfl ((pre.length : Nat)) ((S.R.h.length : Nat)) rfl rfl false (Hge.out) rfl⟩) ?_
            refine takeH hQ (i := 5) (d := 111) (v := .bool false) rfl rfl (by kernel_rfl) (by kernel_rfl) (by kernel_rfl) (fun _ _ _ h => h) (Or.inl ⟨by kernel_rfl, fun w' hw' => by kernel_rfl⟩) ?_
            refine takeH hQ (i := 6) (d := 112) (v := .agg (evA (nrE x))) rfl rfl (by kernel_rfl) (by kernel_rfl) (by kernel_rfl) (fun _ _ _ h => h) (Or.inl ⟨by kernel_rfl, fun w' hw' => by exact exec_load _ rfl (be) rfl (HE1.out.kept hw' (fun h => h)) Try.underlying37 rfl (info_evA (nrE_len x))⟩) ?_
            refine takeH hQ (i := 8) (d := 114) (v := .pointer (some ⟨w.heap.size, 6, none⟩)) rfl rfl (by kernel_rfl) (by kernel_rfl) (by kernel_rfl) (fun _ _ _ h => h) (Or.inl ⟨by kernel_rfl, fun w' hw' => by kernel_rfl⟩) ?_
            try go_frame
            refine takeH hQ (i := 9) (d := 115) (v := .slice (some ⟨ge, oe, none⟩) (S.R.h.length) (ch)) rfl rfl (by kernel_rfl) (by kernel_rfl) (by kernel_rfl) (fun _ _ _ h => h) (Or.inl ⟨by kernel_rfl, fun w' hw' => by exact exec_cellv _ rfl ⟨w.heap.size, 6, none⟩ rfl (.slice (some ⟨ge, oe, none⟩) (S.R.h.length) (ch)) Try.underlying28 rfl (((HX1.out.kept hw' (fun h => h)).cell 6).trans (rfl))⟩) ?_
            refine takeH hQ (i := 10) (d := 116) (v := .int .i64 ((pre.length : Nat))) rfl rfl (by kernel_rfl) (by kernel_rfl) (by kernel_rfl) (fun _ _ _ h => h) (Or.inl ⟨by kernel_rfl, fun w' hw' => by exact exec_cell _ rfl ⟨nbm, 0, none⟩ rfl _ Try.underlying3 (((HN1.out.kept hw' (fun h => h)).cell 0).trans (rfl))⟩) ?_
            refine takeH hQ (i := 11) (d := 117) (v := .pointer (some ⟨ge, oe + pre.length * 68, none⟩)) rfl rfl (by kernel_rfl) (by kernel_rfl) (by kernel_rfl) (fun _ _ _ h => h) (Or.inl ⟨by kernel_rfl, fun w' hw' => by exact exec_indexO elE8 _ _ rfl ge oe S.R.h.length ch pre.length rfl rfl Hpl.out⟩) ?_
            refine takeH hQ (i := 12) (d := 118) (v := .agg (evA y)) rfl rfl (by kernel_rfl) (by kernel_rfl) (by kernel_rfl) (fun _ _ _ h => h) (Or.inl ⟨by kernel_rfl, fun w' hw' => by exact exec_load_v _ _ rfl ge (oe + pre.length * 68) rfl (evA y) _ (Hry.out w' (hw'.below (Nat.le_refl _) (fun _ _ h => h))) Try.underlying83 rfl (info_e8A Hyo.out.len)⟩) ?_
            try go_frame
            refine nextH (i := 7) rfl (by kernel_rfl) (by kernel_rfl) (fun K' hK => ?_)
            go_wp2_with fail
            refine (of8 (nrE x) W1.drew (nrE_len x)).mono ?_
            rintro en W1c1 ⟨rfl, hb⟩
            have hQ1 : Kept (fun _ => False) W1 W1c1 := kept_next hQ hb
            have hB1 : Below W1.heap.size W1 W1c1 := bel_next hB0 hb
            refine hK.out _ _ ⟨hQ1, ?_⟩
            clear hK K' hQ hb hB0
            refine takeH hQ1 (i := 13) (d := 119) (v := .bool true) rfl rfl (by kernel_rfl) (by kernel_rfl) (by kernel_rfl) (fun _ _ _ h => h) (Or.inl ⟨by kernel_rfl, fun w' hw' => by exact exec_neq_ev tyE8 _ _ _ rfl (nrE x) y rfl rfl (nrE_len x) Hyo.out.len true (by simp [Hxy.out])⟩) ?_
            refine takeH hQ1 (i := 14) (d := 120) (v := .bool true) rfl rfl (by kernel_rfl) (by kernel_rfl) (by kernel_rfl) (fun _ _ _ h => h) (Or.inl ⟨by kernel_rfl, fun w' hw' => by kernel_rfl⟩) ?_
            refine wpAnyH_done (by kernel_rfl) ?_ _
            try go_frame
            have HI2 := Lib.hid (HI1.out.below hB1)
            have HK2 := Lib.hid (keepsOthers_below hB1)
            clear hQ1 hB1 HI1 HN1 HN2 HM1 HW1 HX1 HE1
            generalize W1c1 = W2 at *
            have cT := blk_one HI2.out.T
            have fT := HI2.out.T.frozen 0
            gi_wp2
            exact ⟨(HK2.out.trans (KeepsOthers.setCell _ _ _)).from _, rfl, HNp.out⟩
        case doneh =>
          rintro Dd yz W2 hD rfl ⟨hS1, hN1, hN21, hM1, _⟩ hd
          have HS9 := Lib.hid hS1
          have HM9 := Lib.hid (Marks.cons hM hS.B.size hD hd hM1)
          have cN : W2.cell? ⟨nbn, 0, none⟩ = some (.int .i64 (S.R.cs.length : Nat)) := blk_one hN21
          have cM : W2.cell? ⟨nbm, 0, none⟩ = some (.int .i64 (S.R.h.length : Nat)) := blk_one hN1
          have c5 : W2.cell? ⟨w.heap.size, 5, none⟩ = some (.slice ac S.R.cs.length cc) := (hS1.x.cell 5).trans rfl
          have c6 : W2.cell? ⟨w.heap.size, 6, none⟩ = some (.slice ah S.R.h.length ch) := (hS1.x.cell 6).trans rfl
          have cT := blk_one HS9.out.T
          have fT := HS9.out.T.frozen 0
          clear hS hM hN hN2 hBx hS1 hM1 hN1 hN21 hd
          go_wp2_with fail
          exact leave_marks (HM9.out.mono (KeepsOthers.setCell _ _ _)) (fun w' hw' => ⟨_, results_cell1 Try.results11 _ _ ⟨w.heap.size + 1, 0, none⟩ (.bool true) rfl (agg_bool _) (blk_one (hw'.same _ _ _ (blk_set1 HS9.out.T (.bool true)))), rfl, (HS9.out.B.setCell (p := ⟨w.heap.size + 1, 0, none⟩) (Nat.le_succ _) _).trans hw'.bel⟩)
theorem sameOk : SameOk theDrv := fun lo X W S F az ac ah nz cz cc ch hA hD hf hlo => by
  obtain ⟨D, vz, ve, l, mb, n, f, h, rfl⟩ := hA
  exact same8 az ac ah nz cz cc ch h hD hf
end Go.Proofs.Ytajkajgnjcnolaa

