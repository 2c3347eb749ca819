import Derived.Test.YtajkajgnjcnolaaMp19
namespace Go.Proofs.Ytajkajgnjcnolaa
open Go.RowKit
set_option linter.unusedVariables false
set_option linter.unnecessarySimpa false
set_option linter.unusedSimpArgs false
def hapSp (d : DvR) (zs : List ZsR) (e : EvR) : OutR := if e.kind = 1 then spSp d zs e.zone e.off e.p else if e.kind = 2 then faSp d zs e.zone 3 else if e.kind = 3 then faSp d zs e.zone 4 else if e.kind = 4 then crSp d zs else ⟨0, 0, d, zs⟩
theorem RowE.mono {T : TypeId} {lo lo' : Nat} {w : World} {v : Value} {es : List EvR} (h : RowE T lo w v es) (hl : lo' ≤ lo) : RowE T lo' w v es := ⟨h.ok, own_base h.own (fun g hg => Nat.le_trans hl (own_lov h.own hg))⟩
theorem Trio7.inx {T T' U : TypeId} {w0 w w' : World} {c c' q x : Array Value} (h : Trio7 T T' U w0 c c' q w) (hx : Blk w' w0.heap.size T x) (hk : Kept (· = w0.heap.size) w w') : Trio7 T T' U w0 x c' q w' :=
  ⟨hx, h.y.kept hk (by simp), h.g.kept hk (by simp), bkept h.b (Nat.le_refl _) hk (fun i hi e => by omega)⟩
theorem Doc.kept {S : Nat → Prop} {lo : Nat} {w w' : World} {v : Value} {zs : List ZsR} (h : Doc lo w v zs) (k : Kept S w w') (hs : ∀ g, S g → ∃ t cs, Blk w g t cs ∧ 87 ≠ t ∧ 33 ≠ t) : Doc lo w' v zs := by
  obtain ⟨l, hr, hm⟩ := h
  refine ⟨l, ⟨own_kept hr.own k (fun g hg hS => ?_), fun p hp => own_kept (hr.each p hp) k (fun g hg hS => ?_)⟩, hm⟩
  · obtain ⟨t, cs, hb, h1, h2⟩ := hs g hS
    exact own_unlike hr.own hb h1 hg.symm
  · obtain ⟨t, cs, hb, h1, h2⟩ := hs g hS
    exact own_unlike (hr.each p hp) hb h2 hg.symm
theorem Doc.slice {lo : Nat} {w : World} {v : Value} {zs : List ZsR} (h : Doc lo w v zs) : ∃ a n c, v = .slice a n c := by
  obtain ⟨l, hr, _⟩ := h
  obtain ⟨a, c, e⟩ := own_slice hr.own
  exact ⟨a, _, c, e⟩
theorem infoA64 : (Try.prog.info? 33).map (·.size) = some 64 := by kernel_rfl
set_option maxRecDepth 100000 in
set_option maxHeartbeats 4000000 in
theorem g8hap_1 {lo : Nat} {w : World} {d : DvR} {zs : List ZsR} {h : List EvR} (at_ zone off : Int) (p : List Nat) (az : Option Addr) (nz cz : Nat) (ac : Option Addr) (nc cc : Nat) (ah : Option Addr) (ch : Nat) (hd : Doc lo w (.slice az nz cz) zs) (sn : Sane d zs) (hh : RowE 83 lo w (.slice ah h.length ch) h) (he : EvOk (⟨at_, 1, zone, off, p⟩ : EvR)) (hn : h.length ≤ 100000) (hlo : lo ≤ w.heap.size) : Calls Try.prog 56 #[.agg (d8A (dd7 d) (.slice az nz cz) (.slice ac nc cc) (.slice ah h.length ch)), .agg (evA (⟨at_, 1, zone, off, p⟩ : EvR))] w fun en w' => ∃ az' nz' cz' ah' ch', en = .returned (.agg (d8A (dd7 (spSp d zs zone off p).d) (.slice az' nz' cz') (.slice ac nc cc) (.slice ah' (h.length + 1) ch'))) ∧ Doc lo w' (.slice az' nz' cz') (spSp d zs zone off p).zs ∧ RowE 83 lo w' (.slice ah' (h.length + 1) ch') (h ++ [(⟨at_, 1, zone, off, p⟩ : EvR)]) ∧ Below w.heap.size w w' := by
  have HS : Hid (Trio7 30 83 30 w (d8A (dd7 d) (.slice az nz cz) (.slice ac nc cc) (.slice ah h.length ch)) (evA (⟨at_, 1, zone, off, p⟩ : EvR)) d8Z (((w.alloc (Obj.cells (d8A (dd7 d) (.slice az nz cz) (.slice ac nc cc) (.slice ah h.length ch)) 30)).alloc (Obj.cells (evA (⟨at_, 1, zone, off, p⟩ : EvR)) 83)).alloc (Obj.cells #[.slice none 0 0, .int .i64 0, .int .i64 0, .int .i64 0, .bool false, .slice none 0 0, .slice none 0 0] 30))) := Lib.hid Trio7.start
  have HD := Lib.hid hd
  have Hsn := Lib.hid sn
  have HH := Lib.hid hh
  have He := Lib.hid he
  have Hlo := Lib.hid hlo
  clear hd sn hh he hlo
  go_enter Try.func56, Try.ntmps56
  go_upto_region 1 with fail
  generalize (((w.alloc (Obj.cells (d8A (dd7 d) (.slice az nz cz) (.slice ac nc cc) (.slice ah h.length ch)) 30)).alloc (Obj.cells (evA (⟨at_, 1, zone, off, p⟩ : EvR)) 83)).alloc (Obj.cells #[.slice none 0 0, .int .i64 0, .int .i64 0, .int .i64 0, .bool false, .slice none 0 0, .slice none 0 0] 30)) = w0 at *
  have c6 := (HS.out.x.cell 6).trans (show (d8A (dd7 d) (.slice az nz cz) (.slice ac nc cc) (.slice ah h.length ch))[6]? = some (.slice ah h.length ch) from rfl)
  have HH0 := Lib.hid (HH.out.below HS.out.b)
  have hlw : w.heap.size + 3 ≤ w0.heap.size := HS.out.g.lt
  go_upto_region 3 with (first | (refine wpl_appendK elE8 rfl _ _ rfl (w.heap.size + 3) (.slice none 0 0) 0 [] rfl (ownK_nil _ _ _ _) ah h.length ch (erow h) rfl (erow_length HH0.out.ok) (ownK_src HH0.out.own).1 (ownK_src HH0.out.own).2 (erow_one h) (by omega) hlw ?_; intro v1 w1 hown1 hgr1 _; rw [Nat.zero_add, List.nil_append] at hown1; obtain ⟨a1, c1, rfl⟩ := own_slice hown1; have HS1 := Lib.hid (HS.out.grown hgr1 (fun g hg => by simp [Value.ownBlock] at hg)); have HR1 : Hid (RowE 83 (w.heap.size + 3) w1 (.slice a1 h.length c1) h) := Lib.hid ⟨HH0.out.ok, hown1⟩; clear hown1 hgr1; go_frame))
  clear HH HH0 c6 hlw
  go_upto_region 4 with (first | (refine wpl_load rfl _ rfl (w.heap.size + 1) rfl _ _ _ (HS1.out.y) Try.underlying83 rfl (info_e8A He.out.len) ?_; go_frame) | (refine wpl_buildK elE8 (by decide) rfl _ rfl (evA (⟨at_, 1, zone, off, p⟩ : EvR)) rfl (evA_size He.out.len) ?_; go_frame) | (refine wpl_appendE elE8 rfl _ _ rfl (w.heap.size + 3) (.slice a1 h.length c1) h rfl (HR1.out.below (below_alloc w1 (Obj.cells (evA (⟨at_, 1, zone, off, p⟩ : EvR)) 83))) w1.heap.size (⟨at_, 1, zone, off, p⟩ : EvR) rfl (Blk.new w1 83 (evA (⟨at_, 1, zone, off, p⟩ : EvR))) He.out (by omega) (by have := HS1.out.g.lt; have := (below_alloc w1 (Obj.cells (evA (⟨at_, 1, zone, off, p⟩ : EvR)) 83)).size; omega) ?_; intro an cn w4 hrow hgr; have HS4 := Lib.hid ((HS1.out.below (below_alloc w1 (Obj.cells (evA (⟨at_, 1, zone, off, p⟩ : EvR)) 83))).grown hgr (fun G0 hg => by have := own_lov HR1.out.own hg; omega)); have HR4 := Lib.hid hrow; have c6 := (HS4.out.x.cell 6).trans (show (d8A (dd7 d) (.slice az nz cz) (.slice ac nc cc) (.slice ah h.length ch))[6]? = some (.slice ah h.length ch) from rfl); have f6 := HS4.out.x.frozen 6; clear hrow hgr; go_frame))
  have HS5 : Hid (Trio7 30 83 30 w (d8A (dd7 d) (.slice az nz cz) (.slice ac nc cc) (.slice an (h.length + 1) cn)) (evA (⟨at_, 1, zone, off, p⟩ : EvR)) d8Z (w4.setCell ⟨w.heap.size, 6, none⟩ (.slice an (h.length + 1) cn))) := Lib.hid (HS4.out.set 6 _)
  have HR5 := Lib.hid (HR4.out.kept ((Kept.refl (· = w.heap.size) w4).setCell (p := ⟨w.heap.size, 6, none⟩) rfl (.slice an (h.length + 1) cn)) (fun G0 hg e9 => by have := own_lov HR4.out.own hg; omega))
  have HD5 := Lib.hid (HD.out.below HS5.out.b)
  clear c6 f6 HS HS1 HR1 HS4 HR4 HD
  generalize w4.setCell ⟨w.heap.size, 6, none⟩ (.slice an (h.length + 1) cn) = w5 at *
  have k1 : w5.cell? ⟨w.heap.size + 1, 1, none⟩ = some (.int .i64 1) := (HS5.out.y.cell 1).trans (evA_at1 (⟨at_, 1, zone, off, p⟩ : EvR))
  have k2 : w5.cell? ⟨w.heap.size + 1, 2, none⟩ = some (.int .i64 zone) := (HS5.out.y.cell 2).trans (evA_at2 (⟨at_, 1, zone, off, p⟩ : EvR))
  have k3 : w5.cell? ⟨w.heap.size + 1, 3, none⟩ = some (.int .i64 off) := (HS5.out.y.cell 3).trans (evA_at3 (⟨at_, 1, zone, off, p⟩ : EvR))
  go_wp2_with (first | (refine wpl_load_at (by rfl) 27 _ rfl (w.heap.size) 0 rfl (d7A (dd7 d) (.slice az nz cz)) _ (d8_dev HS5.out.x) Try.underlying27 rfl Try.info7D ?_; go_frame) | (refine wpl_load_mid (by rfl) 33 _ rfl (w.heap.size + 1) 4 rfl p _ (ev_range HS5.out.y) Try.underlying33 rfl (by rw [bvals_length, He.out.len]; exact infoA64) ?_; go_frame))
  refine (gsp7 zone off p He.out.len He.out.lt HD5.out Hsn.out (by have := HS5.out.b.size; have := Hlo.out; omega)).mono ?_
  rintro en w6 ⟨vz', rfl, hdoc, hb⟩
  obtain ⟨az2, nz2, cz2, rfl⟩ := hdoc.slice
  have HS6 := Lib.hid (HS5.out.below hb)
  have HR6 := Lib.hid (HR5.out.below hb)
  have HD6 := Lib.hid hdoc
  clear hdoc hb HS5 HR5 HD5 k1 k2 k3
  go_upto_region 6 with (first | (refine wpl_store_at rfl 27 _ _ rfl (w.heap.size) 0 (d7A (dd7 (spSp d zs zone off p).d) (.slice az2 nz2 cz2)) rfl rfl 30 (d8L (dd7 d) (.slice az nz cz) (.slice ac nc cc) (.slice an (h.length + 1) cn)) HS6.out.x (show 0 + 5 ≤ 7 by decide) Try.info7D (d7A_one _ _ _ _) ?_; intro w7 hB7 hk7; have HS9 : Hid (Trio7 30 83 30 w (d8A (dd7 (spSp d zs zone off p).d) (.slice az2 nz2 cz2) (.slice ac nc cc) (.slice an (h.length + 1) cn)) (evA (⟨at_, 1, zone, off, p⟩ : EvR)) d8Z w7) := Lib.hid (HS6.out.inx hB7 hk7); have HR9 := Lib.hid (HR6.out.kept hk7 (fun G0 hg e9 => by have := own_lov HR6.out.own hg; omega)); have HD9 := Lib.hid (HD6.out.kept hk7 (fun g hg => ⟨_, _, hg ▸ HS6.out.x, by decide, by decide⟩)); clear hB7 hk7; go_frame))
  have k1 : w7.cell? ⟨w.heap.size + 1, 1, none⟩ = some (.int .i64 1) := (HS9.out.y.cell 1).trans (evA_at1 (⟨at_, 1, zone, off, p⟩ : EvR))
  clear HS6 HR6 HD6
  go_wp2_with (first | (refine wpl_load rfl _ rfl (w.heap.size) rfl _ _ _ (HS9.out.x) Try.underlying30 rfl Try.info8D ?_; go_frame) | (refine wpl_store rfl _ _ rfl (w.heap.size + 2) (d8A (dd7 (spSp d zs zone off p).d) (.slice az2 nz2 cz2) (.slice ac nc cc) (.slice an (h.length + 1) cn)) rfl rfl _ _ HS9.out.g Try.info8D rfl (d8A_one _ _ _ _ _ _ _ _ _ _) ?_; intro w9 hSg hKg; have HSg := Lib.hid hSg; have HKg := Lib.hid hKg; clear hSg hKg; go_frame))
  have HF := Lib.hid (HS9.out.out HSg.out HKg.out)
  exact bodyPost_ret (v := .agg (d8A (dd7 (spSp d zs zone off p).d) (.slice az2 nz2 cz2) (.slice ac nc cc) (.slice an (h.length + 1) cn))) (results_cell_row Try.results56 _ _ (w.heap.size + 2) 30 _ (0, 0) _ rfl HF.out.g Try.underlying30 rfl Try.info8D) rfl ⟨_, _, _, _, _, rfl, HD9.out.kept HKg.out (fun g hg => ⟨_, _, hg ▸ HS9.out.g, by decide, by decide⟩), (HR9.out.kept HKg.out (fun g hg e9 => by have := own_lov HR9.out.own hg; omega)).mono (by have := Hlo.out; omega), HF.out.b⟩
set_option maxRecDepth 100000 in
set_option maxHeartbeats 4000000 in
theorem g8hap_2 {lo : Nat} {w : World} {d : DvR} {zs : List ZsR} {h : List EvR} (at_ zone off : Int) (p : List Nat) (az : Option Addr) (nz cz : Nat) (ac : Option Addr) (nc cc : Nat) (ah : Option Addr) (ch : Nat) (hd : Doc lo w (.slice az nz cz) zs) (sn : Sane d zs) (hh : RowE 83 lo w (.slice ah h.length ch) h) (he : EvOk (⟨at_, 2, zone, off, p⟩ : EvR)) (hn : h.length ≤ 100000) (hlo : lo ≤ w.heap.size) : Calls Try.prog 56 #[.agg (d8A (dd7 d) (.slice az nz cz) (.slice ac nc cc) (.slice ah h.length ch)), .agg (evA (⟨at_, 2, zone, off, p⟩ : EvR))] w fun en w' => ∃ az' nz' cz' ah' ch', en = .returned (.agg (d8A (dd7 (faSp d zs zone 3).d) (.slice az' nz' cz') (.slice ac nc cc) (.slice ah' (h.length + 1) ch'))) ∧ Doc lo w' (.slice az' nz' cz') (faSp d zs zone 3).zs ∧ RowE 83 lo w' (.slice ah' (h.length + 1) ch') (h ++ [(⟨at_, 2, zone, off, p⟩ : EvR)]) ∧ Below w.heap.size w w' := by
  have HS : Hid (Trio7 30 83 30 w (d8A (dd7 d) (.slice az nz cz) (.slice ac nc cc) (.slice ah h.length ch)) (evA (⟨at_, 2, zone, off, p⟩ : EvR)) d8Z (((w.alloc (Obj.cells (d8A (dd7 d) (.slice az nz cz) (.slice ac nc cc) (.slice ah h.length ch)) 30)).alloc (Obj.cells (evA (⟨at_, 2, zone, off, p⟩ : EvR)) 83)).alloc (Obj.cells #[.slice none 0 0, .int .i64 0, .int .i64 0, .int .i64 0, .bool false, .slice none 0 0, .slice none 0 0] 30))) := Lib.hid Trio7.start
  have HD := Lib.hid hd
  have Hsn := Lib.hid sn
  have HH := Lib.hid hh
  have He := Lib.hid he
  have Hlo := Lib.hid hlo
  clear hd sn hh he hlo
  go_enter Try.func56, Try.ntmps56
  go_upto_region 1 with fail
  generalize (((w.alloc (Obj.cells (d8A (dd7 d) (.slice az nz cz) (.slice ac nc cc) (.slice ah h.length ch)) 30)).alloc (Obj.cells (evA (⟨at_, 2, zone, off, p⟩ : EvR)) 83)).alloc (Obj.cells #[.slice none 0 0, .int .i64 0, .int .i64 0, .int .i64 0, .bool false, .slice none 0 0, .slice none 0 0] 30)) = w0 at *
  have c6 := (HS.out.x.cell 6).trans (show (d8A (dd7 d) (.slice az nz cz) (.slice ac nc cc) (.slice ah h.length ch))[6]? = some (.slice ah h.length ch) from rfl)
  have HH0 := Lib.hid (HH.out.below HS.out.b)
  have hlw : w.heap.size + 3 ≤ w0.heap.size := HS.out.g.lt
  go_upto_region 3 with (first | (refine wpl_appendK elE8 rfl _ _ rfl (w.heap.size + 3) (.slice none 0 0) 0 [] rfl (ownK_nil _ _ _ _) ah h.length ch (erow h) rfl (erow_length HH0.out.ok) (ownK_src HH0.out.own).1 (ownK_src HH0.out.own).2 (erow_one h) (by omega) hlw ?_; intro v1 w1 hown1 hgr1 _; rw [Nat.zero_add, List.nil_append] at hown1; obtain ⟨a1, c1, rfl⟩ := own_slice hown1; have HS1 := Lib.hid (HS.out.grown hgr1 (fun g hg => by simp [Value.ownBlock] at hg)); have HR1 : Hid (RowE 83 (w.heap.size + 3) w1 (.slice a1 h.length c1) h) := Lib.hid ⟨HH0.out.ok, hown1⟩; clear hown1 hgr1; go_frame))
  clear HH HH0 c6 hlw
  go_upto_region 4 with (first | (refine wpl_load rfl _ rfl (w.heap.size + 1) rfl _ _ _ (HS1.out.y) Try.underlying83 rfl (info_e8A He.out.len) ?_; go_frame) | (refine wpl_buildK elE8 (by decide) rfl _ rfl (evA (⟨at_, 2, zone, off, p⟩ : EvR)) rfl (evA_size He.out.len) ?_; go_frame) | (refine wpl_appendE elE8 rfl _ _ rfl (w.heap.size + 3) (.slice a1 h.length c1) h rfl (HR1.out.below (below_alloc w1 (Obj.cells (evA (⟨at_, 2, zone, off, p⟩ : EvR)) 83))) w1.heap.size (⟨at_, 2, zone, off, p⟩ : EvR) rfl (Blk.new w1 83 (evA (⟨at_, 2, zone, off, p⟩ : EvR))) He.out (by omega) (by have := HS1.out.g.lt; have := (below_alloc w1 (Obj.cells (evA (⟨at_, 2, zone, off, p⟩ : EvR)) 83)).size; omega) ?_; intro an cn w4 hrow hgr; have HS4 := Lib.hid ((HS1.out.below (below_alloc w1 (Obj.cells (evA (⟨at_, 2, zone, off, p⟩ : EvR)) 83))).grown hgr (fun G0 hg => by have := own_lov HR1.out.own hg; omega)); have HR4 := Lib.hid hrow; have c6 := (HS4.out.x.cell 6).trans (show (d8A (dd7 d) (.slice az nz cz) (.slice ac nc cc) (.slice ah h.length ch))[6]? = some (.slice ah h.length ch) from rfl); have f6 := HS4.out.x.frozen 6; clear hrow hgr; go_frame))
  have HS5 : Hid (Trio7 30 83 30 w (d8A (dd7 d) (.slice az nz cz) (.slice ac nc cc) (.slice an (h.length + 1) cn)) (evA (⟨at_, 2, zone, off, p⟩ : EvR)) d8Z (w4.setCell ⟨w.heap.size, 6, none⟩ (.slice an (h.length + 1) cn))) := Lib.hid (HS4.out.set 6 _)
  have HR5 := Lib.hid (HR4.out.kept ((Kept.refl (· = w.heap.size) w4).setCell (p := ⟨w.heap.size, 6, none⟩) rfl (.slice an (h.length + 1) cn)) (fun G0 hg e9 => by have := own_lov HR4.out.own hg; omega))
  have HD5 := Lib.hid (HD.out.below HS5.out.b)
  clear c6 f6 HS HS1 HR1 HS4 HR4 HD
  generalize w4.setCell ⟨w.heap.size, 6, none⟩ (.slice an (h.length + 1) cn) = w5 at *
  have k1 : w5.cell? ⟨w.heap.size + 1, 1, none⟩ = some (.int .i64 2) := (HS5.out.y.cell 1).trans (evA_at1 (⟨at_, 2, zone, off, p⟩ : EvR))
  have k2 : w5.cell? ⟨w.heap.size + 1, 2, none⟩ = some (.int .i64 zone) := (HS5.out.y.cell 2).trans (evA_at2 (⟨at_, 2, zone, off, p⟩ : EvR))
  go_wp2_with (first | (refine wpl_load_at (by rfl) 27 _ rfl (w.heap.size) 0 rfl (d7A (dd7 d) (.slice az nz cz)) _ (d8_dev HS5.out.x) Try.underlying27 rfl Try.info7D ?_; go_frame))
  refine (gfa7 zone 3 HD5.out Hsn.out (by have := HS5.out.b.size; have := Hlo.out; omega)).mono ?_
  rintro en w6 ⟨vz', rfl, hdoc, hb⟩
  obtain ⟨az2, nz2, cz2, rfl⟩ := hdoc.slice
  have HS6 := Lib.hid (HS5.out.below hb)
  have HR6 := Lib.hid (HR5.out.below hb)
  have HD6 := Lib.hid hdoc
  clear hdoc hb HS5 HR5 HD5 k1 k2
  go_upto_region 8 with (first | (refine wpl_store_at rfl 27 _ _ rfl (w.heap.size) 0 (d7A (dd7 (faSp d zs zone 3).d) (.slice az2 nz2 cz2)) rfl rfl 30 (d8L (dd7 d) (.slice az nz cz) (.slice ac nc cc) (.slice an (h.length + 1) cn)) HS6.out.x (show 0 + 5 ≤ 7 by decide) Try.info7D (d7A_one _ _ _ _) ?_; intro w7 hB7 hk7; have HS9 : Hid (Trio7 30 83 30 w (d8A (dd7 (faSp d zs zone 3).d) (.slice az2 nz2 cz2) (.slice ac nc cc) (.slice an (h.length + 1) cn)) (evA (⟨at_, 2, zone, off, p⟩ : EvR)) d8Z w7) := Lib.hid (HS6.out.inx hB7 hk7); have HR9 := Lib.hid (HR6.out.kept hk7 (fun G0 hg e9 => by have := own_lov HR6.out.own hg; omega)); have HD9 := Lib.hid (HD6.out.kept hk7 (fun g hg => ⟨_, _, hg ▸ HS6.out.x, by decide, by decide⟩)); clear hB7 hk7; go_frame))
  have k1 : w7.cell? ⟨w.heap.size + 1, 1, none⟩ = some (.int .i64 2) := (HS9.out.y.cell 1).trans (evA_at1 (⟨at_, 2, zone, off, p⟩ : EvR))
  clear HS6 HR6 HD6
  go_wp2_with (first | (refine wpl_load rfl _ rfl (w.heap.size) rfl _ _ _ (HS9.out.x) Try.underlying30 rfl Try.info8D ?_; go_frame) | (refine wpl_store rfl _ _ rfl (w.heap.size + 2) (d8A (dd7 (faSp d zs zone 3).d) (.slice az2 nz2 cz2) (.slice ac nc cc) (.slice an (h.length + 1) cn)) rfl rfl _ _ HS9.out.g Try.info8D rfl (d8A_one _ _ _ _ _ _ _ _ _ _) ?_; intro w9 hSg hKg; have HSg := Lib.hid hSg; have HKg := Lib.hid hKg; clear hSg hKg; go_frame))
  have HF := Lib.hid (HS9.out.out HSg.out HKg.out)
  exact bodyPost_ret (v := .agg (d8A (dd7 (faSp d zs zone 3).d) (.slice az2 nz2 cz2) (.slice ac nc cc) (.slice an (h.length + 1) cn))) (results_cell_row Try.results56 _ _ (w.heap.size + 2) 30 _ (0, 0) _ rfl HF.out.g Try.underlying30 rfl Try.info8D) rfl ⟨_, _, _, _, _, rfl, HD9.out.kept HKg.out (fun g hg => ⟨_, _, hg ▸ HS9.out.g, by decide, by decide⟩), (HR9.out.kept HKg.out (fun g hg e9 => by have := own_lov HR9.out.own hg; omega)).mono (by have := Hlo.out; omega), HF.out.b⟩
set_option maxRecDepth 100000 in
set_option maxHeartbeats 4000000 in
theorem g8hap_3 {lo : Nat} {w : World} {d : DvR} {zs : List ZsR} {h : List EvR} (at_ zone off : Int) (p : List Nat) (az : Option Addr) (nz cz : Nat) (ac : Option Addr) (nc cc : Nat) (ah : Option Addr) (ch : Nat) (hd : Doc lo w (.slice az nz cz) zs) (sn : Sane d zs) (hh : RowE 83 lo w (.slice ah h.length ch) h) (he : EvOk (⟨at_, 3, zone, off, p⟩ : EvR)) (hn : h.length ≤ 100000) (hlo : lo ≤ w.heap.size) : Calls Try.prog 56 #[.agg (d8A (dd7 d) (.slice az nz cz) (.slice ac nc cc) (.slice ah h.length ch)), .agg (evA (⟨at_, 3, zone, off, p⟩ : EvR))] w fun en w' => ∃ az' nz' cz' ah' ch', en = .returned (.agg (d8A (dd7 (faSp d zs zone 4).d) (.slice az' nz' cz') (.slice ac nc cc) (.slice ah' (h.length + 1) ch'))) ∧ Doc lo w' (.slice az' nz' cz') (faSp d zs zone 4).zs ∧ RowE 83 lo w' (.slice ah' (h.length + 1) ch') (h ++ [(⟨at_, 3, zone, off, p⟩ : EvR)]) ∧ Below w.heap.size w w' := by
  have HS : Hid (Trio7 30 83 30 w (d8A (dd7 d) (.slice az nz cz) (.slice ac nc cc) (.slice ah h.length ch)) (evA (⟨at_, 3, zone, off, p⟩ : EvR)) d8Z (((w.alloc (Obj.cells (d8A (dd7 d) (.slice az nz cz) (.slice ac nc cc) (.slice ah h.length ch)) 30)).alloc (Obj.cells (evA (⟨at_, 3, zone, off, p⟩ : EvR)) 83)).alloc (Obj.cells #[.slice none 0 0, .int .i64 0, .int .i64 0, .int .i64 0, .bool false, .slice none 0 0, .slice none 0 0] 30))) := Lib.hid Trio7.start
  have HD := Lib.hid hd
  have Hsn := Lib.hid sn
  have HH := Lib.hid hh
  have He := Lib.hid he
  have Hlo := Lib.hid hlo
  clear hd sn hh he hlo
  go_enter Try.func56, Try.ntmps56
  go_upto_region 1 with fail
  generalize (((w.alloc (Obj.cells (d8A (dd7 d) (.slice az nz cz) (.slice ac nc cc) (.slice ah h.length ch)) 30)).alloc (Obj.cells (evA (⟨at_, 3, zone, off, p⟩ : EvR)) 83)).alloc (Obj.cells #[.slice none 0 0, .int .i64 0, .int .i64 0, .int .i64 0, .bool false, .slice none 0 0, .slice none 0 0] 30)) = w0 at *
  have c6 := (HS.out.x.cell 6).trans (show (d8A (dd7 d) (.slice az nz cz) (.slice ac nc cc) (.slice ah h.length ch))[6]? = some (.slice ah h.length ch) from rfl)
  have HH0 := Lib.hid (HH.out.below HS.out.b)
  have hlw : w.heap.size + 3 ≤ w0.heap.size := HS.out.g.lt
  go_upto_region 3 with (first | (refine wpl_appendK elE8 rfl _ _ rfl (w.heap.size + 3) (.slice none 0 0) 0 [] rfl (ownK_nil _ _ _ _) ah h.length ch (erow h) rfl (erow_length HH0.out.ok) (ownK_src HH0.out.own).1 (ownK_src HH0.out.own).2 (erow_one h) (by omega) hlw ?_; intro v1 w1 hown1 hgr1 _; rw [Nat.zero_add, List.nil_append] at hown1; obtain ⟨a1, c1, rfl⟩ := own_slice hown1; have HS1 := Lib.hid (HS.out.grown hgr1 (fun g hg => by simp [Value.ownBlock] at hg)); have HR1 : Hid (RowE 83 (w.heap.size + 3) w1 (.slice a1 h.length c1) h) := Lib.hid ⟨HH0.out.ok, hown1⟩; clear hown1 hgr1; go_frame))
  clear HH HH0 c6 hlw
  go_upto_region 4 with (first | (refine wpl_load rfl _ rfl (w.heap.size + 1) rfl _ _ _ (HS1.out.y) Try.underlying83 rfl (info_e8A He.out.len) ?_; go_frame) | (refine wpl_buildK elE8 (by decide) rfl _ rfl (evA (⟨at_, 3, zone, off, p⟩ : EvR)) rfl (evA_size He.out.len) ?_; go_frame) | (refine wpl_appendE elE8 rfl _ _ rfl (w.heap.size + 3) (.slice a1 h.length c1) h rfl (HR1.out.below (below_alloc w1 (Obj.cells (evA (⟨at_, 3, zone, off, p⟩ : EvR)) 83))) w1.heap.size (⟨at_, 3, zone, off, p⟩ : EvR) rfl (Blk.new w1 83 (evA (⟨at_, 3, zone, off, p⟩ : EvR))) He.out (by omega) (by have := HS1.out.g.lt; have := (below_alloc w1 (Obj.cells (evA (⟨at_, 3, zone, off, p⟩ : EvR)) 83)).size; omega) ?_; intro an cn w4 hrow hgr; have HS4 := Lib.hid ((HS1.out.below (below_alloc w1 (Obj.cells (evA (⟨at_, 3, zone, off, p⟩ : EvR)) 83))).grown hgr (fun G0 hg => by have := own_lov HR1.out.own hg; omega)); have HR4 := Lib.hid hrow; have c6 := (HS4.out.x.cell 6).trans (show (d8A (dd7 d) (.slice az nz cz) (.slice ac nc cc) (.slice ah h.length ch))[6]? = some (.slice ah h.length ch) from rfl); have f6 := HS4.out.x.frozen 6; clear hrow hgr; go_frame))
  have HS5 : Hid (Trio7 30 83 30 w (d8A (dd7 d) (.slice az nz cz) (.slice ac nc cc) (.slice an (h.length + 1) cn)) (evA (⟨at_, 3, zone, off, p⟩ : EvR)) d8Z (w4.setCell ⟨w.heap.size, 6, none⟩ (.slice an (h.length + 1) cn))) := Lib.hid (HS4.out.set 6 _)
  have HR5 := Lib.hid (HR4.out.kept ((Kept.refl (· = w.heap.size) w4).setCell (p := ⟨w.heap.size, 6, none⟩) rfl (.slice an (h.length + 1) cn)) (fun G0 hg e9 => by have := own_lov HR4.out.own hg; omega))
  have HD5 := Lib.hid (HD.out.below HS5.out.b)
  clear c6 f6 HS HS1 HR1 HS4 HR4 HD
  generalize w4.setCell ⟨w.heap.size, 6, none⟩ (.slice an (h.length + 1) cn) = w5 at *
  have k1 : w5.cell? ⟨w.heap.size + 1, 1, none⟩ = some (.int .i64 3) := (HS5.out.y.cell 1).trans (evA_at1 (⟨at_, 3, zone, off, p⟩ : EvR))
  have k2 : w5.cell? ⟨w.heap.size + 1, 2, none⟩ = some (.int .i64 zone) := (HS5.out.y.cell 2).trans (evA_at2 (⟨at_, 3, zone, off, p⟩ : EvR))
  go_wp2_with (first | (refine wpl_load_at (by rfl) 27 _ rfl (w.heap.size) 0 rfl (d7A (dd7 d) (.slice az nz cz)) _ (d8_dev HS5.out.x) Try.underlying27 rfl Try.info7D ?_; go_frame))
  refine (gfa7 zone 4 HD5.out Hsn.out (by have := HS5.out.b.size; have := Hlo.out; omega)).mono ?_
  rintro en w6 ⟨vz', rfl, hdoc, hb⟩
  obtain ⟨az2, nz2, cz2, rfl⟩ := hdoc.slice
  have HS6 := Lib.hid (HS5.out.below hb)
  have HR6 := Lib.hid (HR5.out.below hb)
  have HD6 := Lib.hid hdoc
  clear hdoc hb HS5 HR5 HD5 k1 k2
  go_upto_region 10 with (first | (refine wpl_store_at rfl 27 _ _ rfl (w.heap.size) 0 (d7A (dd7 (faSp d zs zone 4).d) (.slice az2 nz2 cz2)) rfl rfl 30 (d8L (dd7 d) (.slice az nz cz) (.slice ac nc cc) (.slice an (h.length + 1) cn)) HS6.out.x (show 0 + 5 ≤ 7 by decide) Try.info7D (d7A_one _ _ _ _) ?_; intro w7 hB7 hk7; have HS9 : Hid (Trio7 30 83 30 w (d8A (dd7 (faSp d zs zone 4).d) (.slice az2 nz2 cz2) (.slice ac nc cc) (.slice an (h.length + 1) cn)) (evA (⟨at_, 3, zone, off, p⟩ : EvR)) d8Z w7) := Lib.hid (HS6.out.inx hB7 hk7); have HR9 := Lib.hid (HR6.out.kept hk7 (fun G0 hg e9 => by have := own_lov HR6.out.own hg; omega)); have HD9 := Lib.hid (HD6.out.kept hk7 (fun g hg => ⟨_, _, hg ▸ HS6.out.x, by decide, by decide⟩)); clear hB7 hk7; go_frame))
  have k1 : w7.cell? ⟨w.heap.size + 1, 1, none⟩ = some (.int .i64 3) := (HS9.out.y.cell 1).trans (evA_at1 (⟨at_, 3, zone, off, p⟩ : EvR))
  clear HS6 HR6 HD6
  go_wp2_with (first | (refine wpl_load rfl _ rfl (w.heap.size) rfl _ _ _ (HS9.out.x) Try.underlying30 rfl Try.info8D ?_; go_frame) | (refine wpl_store rfl _ _ rfl (w.heap.size + 2) (d8A (dd7 (faSp d zs zone 4).d) (.slice az2 nz2 cz2) (.slice ac nc cc) (.slice an (h.length + 1) cn)) rfl rfl _ _ HS9.out.g Try.info8D rfl (d8A_one _ _ _ _ _ _ _ _ _ _) ?_; intro w9 hSg hKg; have HSg := Lib.hid hSg; have HKg := Lib.hid hKg; clear hSg hKg; go_frame))
  have HF := Lib.hid (HS9.out.out HSg.out HKg.out)
  exact bodyPost_ret (v := .agg (d8A (dd7 (faSp d zs zone 4).d) (.slice az2 nz2 cz2) (.slice ac nc cc) (.slice an (h.length + 1) cn))) (results_cell_row Try.results56 _ _ (w.heap.size + 2) 30 _ (0, 0) _ rfl HF.out.g Try.underlying30 rfl Try.info8D) rfl ⟨_, _, _, _, _, rfl, HD9.out.kept HKg.out (fun g hg => ⟨_, _, hg ▸ HS9.out.g, by decide, by decide⟩), (HR9.out.kept HKg.out (fun g hg e9 => by have := own_lov HR9.out.own hg; omega)).mono (by have := Hlo.out; omega), HF.out.b⟩
set_option maxRecDepth 100000 in
set_option maxHeartbeats 4000000 in
theorem g8hap_4 {lo : Nat} {w : World} {d : DvR} {zs : List ZsR} {h : List EvR} (at_ zone off : Int) (p : List Nat) (az : Option Addr) (nz cz : Nat) (ac : Option Addr) (nc cc : Nat) (ah : Option Addr) (ch : Nat) (hd : Doc lo w (.slice az nz cz) zs) (sn : Sane d zs) (hh : RowE 83 lo w (.slice ah h.length ch) h) (he : EvOk (⟨at_, 4, zone, off, p⟩ : EvR)) (hn : h.length ≤ 100000) (hlo : lo ≤ w.heap.size) : Calls Try.prog 56 #[.agg (d8A (dd7 d) (.slice az nz cz) (.slice ac nc cc) (.slice ah h.length ch)), .agg (evA (⟨at_, 4, zone, off, p⟩ : EvR))] w fun en w' => ∃ az' nz' cz' ah' ch', en = .returned (.agg (d8A (dd7 (crSp d zs).d) (.slice az' nz' cz') (.slice ac nc cc) (.slice ah' (h.length + 1) ch'))) ∧ Doc lo w' (.slice az' nz' cz') (crSp d zs).zs ∧ RowE 83 lo w' (.slice ah' (h.length + 1) ch') (h ++ [(⟨at_, 4, zone, off, p⟩ : EvR)]) ∧ Below w.heap.size w w' := by
  have HS : Hid (Trio7 30 83 30 w (d8A (dd7 d) (.slice az nz cz) (.slice ac nc cc) (.slice ah h.length ch)) (evA (⟨at_, 4, zone, off, p⟩ : EvR)) d8Z (((w.alloc (Obj.cells (d8A (dd7 d) (.slice az nz cz) (.slice ac nc cc) (.slice ah h.length ch)) 30)).alloc (Obj.cells (evA (⟨at_, 4, zone, off, p⟩ : EvR)) 83)).alloc (Obj.cells #[.slice none 0 0, .int .i64 0, .int .i64 0, .int .i64 0, .bool false, .slice none 0 0, .slice none 0 0] 30))) := Lib.hid Trio7.start
  have HD := Lib.hid hd
  have Hsn := Lib.hid sn
  have HH := Lib.hid hh
  have He := Lib.hid he
  have Hlo := Lib.hid hlo
  clear hd sn hh he hlo
  go_enter Try.func56, Try.ntmps56
  go_upto_region 1 with fail
  generalize (((w.alloc (Obj.cells (d8A (dd7 d) (.slice az nz cz) (.slice ac nc cc) (.slice ah h.length ch)) 30)).alloc (Obj.cells (evA (⟨at_, 4, zone, off, p⟩ : EvR)) 83)).alloc (Obj.cells #[.slice none 0 0, .int .i64 0, .int .i64 0, .int .i64 0, .bool false, .slice none 0 0, .slice none 0 0] 30)) = w0 at *
  have c6 := (HS.out.x.cell 6).trans (show (d8A (dd7 d) (.slice az nz cz) (.slice ac nc cc) (.slice ah h.length ch))[6]? = some (.slice ah h.length ch) from rfl)
  have HH0 := Lib.hid (HH.out.below HS.out.b)
  have hlw : w.heap.size + 3 ≤ w0.heap.size := HS.out.g.lt
  go_upto_region 3 with (first | (refine wpl_appendK elE8 rfl _ _ rfl (w.heap.size + 3) (.slice none 0 0) 0 [] rfl (ownK_nil _ _ _ _) ah h.length ch (erow h) rfl (erow_length HH0.out.ok) (ownK_src HH0.out.own).1 (ownK_src HH0.out.own).2 (erow_one h) (by omega) hlw ?_; intro v1 w1 hown1 hgr1 _; rw [Nat.zero_add, List.nil_append] at hown1; obtain ⟨a1, c1, rfl⟩ := own_slice hown1; have HS1 := Lib.hid (HS.out.grown hgr1 (fun g hg => by simp [Value.ownBlock] at hg)); have HR1 : Hid (RowE 83 (w.heap.size + 3) w1 (.slice a1 h.length c1) h) := Lib.hid ⟨HH0.out.ok, hown1⟩; clear hown1 hgr1; go_frame))
  clear HH HH0 c6 hlw
  go_upto_region 4 with (first | (refine wpl_load rfl _ rfl (w.heap.size + 1) rfl _ _ _ (HS1.out.y) Try.underlying83 rfl (info_e8A He.out.len) ?_; go_frame) | (refine wpl_buildK elE8 (by decide) rfl _ rfl (evA (⟨at_, 4, zone, off, p⟩ : EvR)) rfl (evA_size He.out.len) ?_; go_frame) | (refine wpl_appendE elE8 rfl _ _ rfl (w.heap.size + 3) (.slice a1 h.length c1) h rfl (HR1.out.below (below_alloc w1 (Obj.cells (evA (⟨at_, 4, zone, off, p⟩ : EvR)) 83))) w1.heap.size (⟨at_, 4, zone, off, p⟩ : EvR) rfl (Blk.new w1 83 (evA (⟨at_, 4, zone, off, p⟩ : EvR))) He.out (by omega) (by have := HS1.out.g.lt; have := (below_alloc w1 (Obj.cells (evA (⟨at_, 4, zone, off, p⟩ : EvR)) 83)).size; omega) ?_; intro an cn w4 hrow hgr; have HS4 := Lib.hid ((HS1.out.below (below_alloc w1 (Obj.cells (evA (⟨at_, 4, zone, off, p⟩ : EvR)) 83))).grown hgr (fun G0 hg => by have := own_lov HR1.out.own hg; omega)); have HR4 := Lib.hid hrow; have c6 := (HS4.out.x.cell 6).trans (show (d8A (dd7 d) (.slice az nz cz) (.slice ac nc cc) (.slice ah h.length ch))[6]? = some (.slice ah h.length ch) from rfl); have f6 := HS4.out.x.frozen 6; clear hrow hgr; go_frame))
  have HS5 : Hid (Trio7 30 83 30 w (d8A (dd7 d) (.slice az nz cz) (.slice ac nc cc) (.slice an (h.length + 1) cn)) (evA (⟨at_, 4, zone, off, p⟩ : EvR)) d8Z (w4.setCell ⟨w.heap.size, 6, none⟩ (.slice an (h.length + 1) cn))) := Lib.hid (HS4.out.set 6 _)
  have HR5 := Lib.hid (HR4.out.kept ((Kept.refl (· = w.heap.size) w4).setCell (p := ⟨w.heap.size, 6, none⟩) rfl (.slice an (h.length + 1) cn)) (fun G0 hg e9 => by have := own_lov HR4.out.own hg; omega))
  have HD5 := Lib.hid (HD.out.below HS5.out.b)
  clear c6 f6 HS HS1 HR1 HS4 HR4 HD
  generalize w4.setCell ⟨w.heap.size, 6, none⟩ (.slice an (h.length + 1) cn) = w5 at *
  have k1 : w5.cell? ⟨w.heap.size + 1, 1, none⟩ = some (.int .i64 4) := (HS5.out.y.cell 1).trans (evA_at1 (⟨at_, 4, zone, off, p⟩ : EvR))
  have c4 := (HS5.out.x.cell 4).trans (show (d8A (dd7 d) (.slice az nz cz) (.slice ac nc cc) (.slice an (h.length + 1) cn))[4]? = some (.bool d.down) from rfl)
  have f4 := HS5.out.x.frozen 4
  go_upto_region 12 with fail
  have HS9 : Hid (Trio7 30 83 30 w (d8A (dd7 { d with down := true }) (.slice az nz cz) (.slice ac nc cc) (.slice an (h.length + 1) cn)) (evA (⟨at_, 4, zone, off, p⟩ : EvR)) d8Z (w5.setCell ⟨w.heap.size, 4, none⟩ (.bool true))) := Lib.hid (HS5.out.set 4 _)
  have hk9 := (Kept.refl (· = w.heap.size) w5).setCell (p := ⟨w.heap.size, 4, none⟩) rfl (.bool true)
  have HR9 := Lib.hid (HR5.out.kept hk9 (fun G0 hg e9 => by have := own_lov HR5.out.own hg; omega))
  have HD9 := Lib.hid (HD5.out.kept hk9 (fun g hg => ⟨_, _, hg ▸ HS5.out.x, by decide, by decide⟩))
  clear HS5 HR5 HD5 k1 c4 f4 hk9
  generalize w5.setCell ⟨w.heap.size, 4, none⟩ (.bool true) = w7 at *
  go_wp2_with (first | (refine wpl_load rfl _ rfl (w.heap.size) rfl _ _ _ (HS9.out.x) Try.underlying30 rfl Try.info8D ?_; go_frame) | (refine wpl_store rfl _ _ rfl (w.heap.size + 2) (d8A (dd7 { d with down := true }) (.slice az nz cz) (.slice ac nc cc) (.slice an (h.length + 1) cn)) rfl rfl _ _ HS9.out.g Try.info8D rfl (d8A_one _ _ _ _ _ _ _ _ _ _) ?_; intro w9 hSg hKg; have HSg := Lib.hid hSg; have HKg := Lib.hid hKg; clear hSg hKg; go_frame))
  have HF := Lib.hid (HS9.out.out HSg.out HKg.out)
  exact bodyPost_ret (v := .agg (d8A (dd7 { d with down := true }) (.slice az nz cz) (.slice ac nc cc) (.slice an (h.length + 1) cn))) (results_cell_row Try.results56 _ _ (w.heap.size + 2) 30 _ (0, 0) _ rfl HF.out.g Try.underlying30 rfl Try.info8D) rfl ⟨_, _, _, _, _, rfl, HD9.out.kept HKg.out (fun g hg => ⟨_, _, hg ▸ HS9.out.g, by decide, by decide⟩), (HR9.out.kept HKg.out (fun g hg e9 => by have := own_lov HR9.out.own hg; omega)).mono (by have := Hlo.out; omega), HF.out.b⟩
set_option maxRecDepth 100000 in
set_option maxHeartbeats 4000000 in
theorem g8hap_0 {lo : Nat} {w : World} {d : DvR} {zs : List ZsR} {h : List EvR} (at_ kd zone off : Int) (p : List Nat) (az : Option Addr) (nz cz : Nat) (ac : Option Addr) (nc cc : Nat) (ah : Option Addr) (ch : Nat) (hd : Doc lo w (.slice az nz cz) zs) (sn : Sane d zs) (hh : RowE 83 lo w (.slice ah h.length ch) h) (he : EvOk (⟨at_, kd, zone, off, p⟩ : EvR)) (hn : h.length ≤ 100000) (k1 : kd ≠ 1) (k2 : kd ≠ 2) (k3 : kd ≠ 3) (k4 : kd ≠ 4) (hlo : lo ≤ w.heap.size) : Calls Try.prog 56 #[.agg (d8A (dd7 d) (.slice az nz cz) (.slice ac nc cc) (.slice ah h.length ch)), .agg (evA (⟨at_, kd, zone, off, p⟩ : EvR))] w fun en w' => ∃ az' nz' cz' ah' ch', en = .returned (.agg (d8A (dd7 (⟨0, 0, d, zs⟩ : OutR).d) (.slice az' nz' cz') (.slice ac nc cc) (.slice ah' (h.length + 1) ch'))) ∧ Doc lo w' (.slice az' nz' cz') (⟨0, 0, d, zs⟩ : OutR).zs ∧ RowE 83 lo w' (.slice ah' (h.length + 1) ch') (h ++ [(⟨at_, kd, zone, off, p⟩ : EvR)]) ∧ Below w.heap.size w w' := by
  have e1 : (kd == 1) = false := by simpa using k1
  have e2 : (kd == 2) = false := by simpa using k2
  have e3 : (kd == 3) = false := by simpa using k3
  have e4 : (kd == 4) = false := by simpa using k4
  clear k1 k2 k3 k4
  have HS : Hid (Trio7 30 83 30 w (d8A (dd7 d) (.slice az nz cz) (.slice ac nc cc) (.slice ah h.length ch)) (evA (⟨at_, kd, zone, off, p⟩ : EvR)) d8Z (((w.alloc (Obj.cells (d8A (dd7 d) (.slice az nz cz) (.slice ac nc cc) (.slice ah h.length ch)) 30)).alloc (Obj.cells (evA (⟨at_, kd, zone, off, p⟩ : EvR)) 83)).alloc (Obj.cells #[.slice none 0 0, .int .i64 0, .int .i64 0, .int .i64 0, .bool false, .slice none 0 0, .slice none 0 0] 30))) := Lib.hid Trio7.start
  have HD := Lib.hid hd
  have Hsn := Lib.hid sn
  have HH := Lib.hid hh
  have He := Lib.hid he
  have Hlo := Lib.hid hlo
  clear hd sn hh he hlo
  go_enter Try.func56, Try.ntmps56
  go_upto_region 1 with fail
  generalize (((w.alloc (Obj.cells (d8A (dd7 d) (.slice az nz cz) (.slice ac nc cc) (.slice ah h.length ch)) 30)).alloc (Obj.cells (evA (⟨at_, kd, zone, off, p⟩ : EvR)) 83)).alloc (Obj.cells #[.slice none 0 0, .int .i64 0, .int .i64 0, .int .i64 0, .bool false, .slice none 0 0, .slice none 0 0] 30)) = w0 at *
  have c6 := (HS.out.x.cell 6).trans (show (d8A (dd7 d) (.slice az nz cz) (.slice ac nc cc) (.slice ah h.length ch))[6]? = some (.slice ah h.length ch) from rfl)
  have HH0 := Lib.hid (HH.out.below HS.out.b)
  have hlw : w.heap.size + 3 ≤ w0.heap.size := HS.out.g.lt
  go_upto_region 3 with (first | (refine wpl_appendK elE8 rfl _ _ rfl (w.heap.size + 3) (.slice none 0 0) 0 [] rfl (ownK_nil _ _ _ _) ah h.length ch (erow h) rfl (erow_length HH0.out.ok) (ownK_src HH0.out.own).1 (ownK_src HH0.out.own).2 (erow_one h) (by omega) hlw ?_; intro v1 w1 hown1 hgr1 _; rw [Nat.zero_add, List.nil_append] at hown1; obtain ⟨a1, c1, rfl⟩ := own_slice hown1; have HS1 := Lib.hid (HS.out.grown hgr1 (fun g hg => by simp [Value.ownBlock] at hg)); have HR1 : Hid (RowE 83 (w.heap.size + 3) w1 (.slice a1 h.length c1) h) := Lib.hid ⟨HH0.out.ok, hown1⟩; clear hown1 hgr1; go_frame))
  clear HH HH0 c6 hlw
  go_upto_region 4 with (first | (refine wpl_load rfl _ rfl (w.heap.size + 1) rfl _ _ _ (HS1.out.y) Try.underlying83 rfl (info_e8A He.out.len) ?_; go_frame) | (refine wpl_buildK elE8 (by decide) rfl _ rfl (evA (⟨at_, kd, zone, off, p⟩ : EvR)) rfl (evA_size He.out.len) ?_; go_frame) | (refine wpl_appendE elE8 rfl _ _ rfl (w.heap.size + 3) (.slice a1 h.length c1) h rfl (HR1.out.below (below_alloc w1 (Obj.cells (evA (⟨at_, kd, zone, off, p⟩ : EvR)) 83))) w1.heap.size (⟨at_, kd, zone, off, p⟩ : EvR) rfl (Blk.new w1 83 (evA (⟨at_, kd, zone, off, p⟩ : EvR))) He.out (by omega) (by have := HS1.out.g.lt; have := (below_alloc w1 (Obj.cells (evA (⟨at_, kd, zone, off, p⟩ : EvR)) 83)).size; omega) ?_; intro an cn w4 hrow hgr; have HS4 := Lib.hid ((HS1.out.below (below_alloc w1 (Obj.cells (evA (⟨at_, kd, zone, off, p⟩ : EvR)) 83))).grown hgr (fun G0 hg => by have := own_lov HR1.out.own hg; omega)); have HR4 := Lib.hid hrow; have c6 := (HS4.out.x.cell 6).trans (show (d8A (dd7 d) (.slice az nz cz) (.slice ac nc cc) (.slice ah h.length ch))[6]? = some (.slice ah h.length ch) from rfl); have f6 := HS4.out.x.frozen 6; clear hrow hgr; go_frame))
  have HS5 : Hid (Trio7 30 83 30 w (d8A (dd7 d) (.slice az nz cz) (.slice ac nc cc) (.slice an (h.length + 1) cn)) (evA (⟨at_, kd, zone, off, p⟩ : EvR)) d8Z (w4.setCell ⟨w.heap.size, 6, none⟩ (.slice an (h.length + 1) cn))) := Lib.hid (HS4.out.set 6 _)
  have HR5 := Lib.hid (HR4.out.kept ((Kept.refl (· = w.heap.size) w4).setCell (p := ⟨w.heap.size, 6, none⟩) rfl (.slice an (h.length + 1) cn)) (fun G0 hg e9 => by have := own_lov HR4.out.own hg; omega))
  have HD5 := Lib.hid (HD.out.below HS5.out.b)
  clear c6 f6 HS HS1 HR1 HS4 HR4 HD
  generalize w4.setCell ⟨w.heap.size, 6, none⟩ (.slice an (h.length + 1) cn) = w5 at *
  have k1 : w5.cell? ⟨w.heap.size + 1, 1, none⟩ = some (.int .i64 kd) := (HS5.out.y.cell 1).trans (evA_at1 (⟨at_, kd, zone, off, p⟩ : EvR))
  go_wp2_with (first | (refine wpl_load rfl _ rfl (w.heap.size) rfl _ _ _ (HS5.out.x) Try.underlying30 rfl Try.info8D ?_; go_frame) | (refine wpl_store rfl _ _ rfl (w.heap.size + 2) (d8A (dd7 d) (.slice az nz cz) (.slice ac nc cc) (.slice an (h.length + 1) cn)) rfl rfl _ _ HS5.out.g Try.info8D rfl (d8A_one _ _ _ _ _ _ _ _ _ _) ?_; intro w9 hSg hKg; have HSg := Lib.hid hSg; have HKg := Lib.hid hKg; clear hSg hKg; go_frame))
  have HF := Lib.hid (HS5.out.out HSg.out HKg.out)
  exact bodyPost_ret (v := .agg (d8A (dd7 d) (.slice az nz cz) (.slice ac nc cc) (.slice an (h.length + 1) cn))) (results_cell_row Try.results56 _ _ (w.heap.size + 2) 30 _ (0, 0) _ rfl HF.out.g Try.underlying30 rfl Try.info8D) rfl ⟨_, _, _, _, _, rfl, HD5.out.kept HKg.out (fun g hg => ⟨_, _, hg ▸ HS5.out.g, by decide, by decide⟩), (HR5.out.kept HKg.out (fun g hg e9 => by have := own_lov HR5.out.own hg; omega)).mono (by have := Hlo.out; omega), HF.out.b⟩
theorem g8hap {lo : Nat} {w : World} {d : DvR} {zs : List ZsR} {h : List EvR} (e : EvR) (az : Option Addr) (nz cz : Nat) (ac : Option Addr) (nc cc : Nat) (ah : Option Addr) (ch : Nat) (hd : Doc lo w (.slice az nz cz) zs) (sn : Sane d zs) (hh : RowE 83 lo w (.slice ah h.length ch) h) (he : EvOk e) (hn : h.length ≤ 100000) (hlo : lo ≤ w.heap.size) :
    Calls Try.prog 56 #[.agg (d8A (dd7 d) (.slice az nz cz) (.slice ac nc cc) (.slice ah h.length ch)), .agg (evA e)] w fun en w' => ∃ az' nz' cz' ah' ch', en = .returned (.agg (d8A (dd7 (hapSp d zs e).d) (.slice az' nz' cz') (.slice ac nc cc) (.slice ah' (h.length + 1) ch'))) ∧ Doc lo w' (.slice az' nz' cz') (hapSp d zs e).zs ∧ RowE 83 lo w' (.slice ah' (h.length + 1) ch') (h ++ [e]) ∧ Below w.heap.size w w' := by
  obtain ⟨at_, kd, zone, off, p⟩ := e
  by_cases k1 : kd = 1
  · subst k1
    exact g8hap_1 at_ zone off p az nz cz ac nc cc ah ch hd sn hh he hn hlo
  · by_cases k2 : kd = 2
    · subst k2
      exact g8hap_2 at_ zone off p az nz cz ac nc cc ah ch hd sn hh he hn hlo
    · by_cases k3 : kd = 3
      · subst k3
        exact g8hap_3 at_ zone off p az nz cz ac nc cc ah ch hd sn hh he hn hlo
      · by_cases k4 : kd = 4
        · subst k4
          exact g8hap_4 at_ zone off p az nz cz ac nc cc ah ch hd sn hh he hn hlo
        · have hR : hapSp d zs ⟨at_, kd, zone, off, p⟩ = ⟨0, 0, d, zs⟩ := by unfold hapSp; rw [if_neg k1, if_neg k2, if_neg k3, if_neg k4]
          rw [hR]
          exact g8hap_0 at_ kd zone off p az nz cz ac nc cc ah ch hd sn hh he hn k1 k2 k3 k4 hlo
end Go.Proofs.Ytajkajgnjcnolaa

