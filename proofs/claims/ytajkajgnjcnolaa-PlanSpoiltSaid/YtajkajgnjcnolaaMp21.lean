import Derived.Test.YtajkajgnjcnolaaMp20
import Derived.Test.YtajkajgnjcnolaaMp06
import Derived.Deep.LoopGhost
namespace Go.Proofs.Ytajkajgnjcnolaa
open Go.RowKit
set_option linter.unusedVariables false
set_option linter.unnecessarySimpa false
set_option linter.unusedSimpArgs false
structure DuR where
  d : DvR
  zs : List ZsR
  cs : List EvR
  h : List EvR
def dueF : DvR → List ZsR → List EvR → List EvR → DuR
  | d, zs, [], h => ⟨d, zs, [], h⟩
  | d, zs, e :: cs, h => if d.down = false ∧ e.at_ ≤ d.count then dueF (hapSp d zs e).d (hapSp d zs e).zs cs (h ++ [e]) else ⟨d, zs, e :: cs, h⟩
def dueD (d : DvR) (zs : List ZsR) (cs h : List EvR) (zone : Int) (fl : Bool) : DuR := if fl = true ∨ dhB zs.length zone = true then dueF d zs cs h else ⟨d, zs, cs, h⟩
theorem dueF_down {d : DvR} {zs : List ZsR} {cs h : List EvR} (hd : d.down = true) : dueF d zs cs h = ⟨d, zs, cs, h⟩ := by
  cases cs with
  | nil => rfl
  | cons e cs => unfold dueF; rw [if_neg (by rw [hd]; simp)]
theorem dueF_late {d : DvR} {zs : List ZsR} {e : EvR} {cs h : List EvR} (hd : ¬ e.at_ ≤ d.count) : dueF d zs (e :: cs) h = ⟨d, zs, e :: cs, h⟩ := by
  unfold dueF; rw [if_neg (fun h => hd h.2)]
theorem dueF_go {d : DvR} {zs : List ZsR} {e : EvR} {cs h : List EvR} (hd : d.down = false) (hl : e.at_ ≤ d.count) : dueF d zs (e :: cs) h = dueF (hapSp d zs e).d (hapSp d zs e).zs cs (h ++ [e]) := by
  rw [dueF, if_pos ⟨hd, hl⟩]
theorem sane_set {d : DvR} {zs : List ZsR} (sn : Sane d zs) (k : Nat) {z : ZsR} (h : ZsOk z ∧ z.size = d.size) : Sane d (zs.set k z) :=
  ⟨fun y hy => by
    rcases List.mem_or_eq_of_mem_set hy with h1 | rfl
    · exact sn.ok y h1
    · exact h, by rw [List.length_set]; exact sn.len⟩
theorem hapSp_sane {d : DvR} {zs : List ZsR} {e : EvR} (sn : Sane d zs) (he : EvOk e) : Sane (hapSp d zs e).d (hapSp d zs e).zs := by
  have hz : ∀ i, dhB zs.length i = true → ZsOk (zsat zs i) ∧ (zsat zs i).size = d.size := fun i hi => by
    obtain ⟨i0, i1⟩ := dhB_in hi
    obtain ⟨k, rfl⟩ := Int.eq_ofNat_of_zero_le i0
    obtain ⟨z, hz⟩ : ∃ z, zs[k]? = some z := ⟨_, List.getElem?_eq_getElem (by omega)⟩
    rw [zsat_of hz]
    exact sane_at sn hz
  have fa : ∀ i st, Sane (faSp d zs i st).d (faSp d zs i st).zs := fun i st => by
    unfold faSp
    by_cases h1 : dhB zs.length i = true
    · rw [if_pos h1]
      obtain ⟨h2, h3⟩ := hz i h1
      exact sane_set sn _ ⟨faS_ok h2 st, (faS_size _ _).trans h3⟩
    · rw [if_neg h1]; exact sn
  unfold hapSp
  split
  · unfold spSp
    by_cases h1 : dhB zs.length e.zone = true
    · rw [if_pos h1]
      obtain ⟨h2, h3⟩ := hz _ h1
      exact sane_set sn _ ⟨chS7_ok h2 _ he.lt, (chS7_size _ _ _).trans h3⟩
    · rw [if_neg h1]; exact sn
  · split
    · exact fa _ _
    · split
      · exact fa _ _
      · split
        · exact ⟨sn.ok, sn.len⟩
        · exact sn
def DuTo (lo : Nat) (w : World) (R : DuR) (en : Ending) (w' : World) : Prop :=
  ∃ az nz cz ac cc ah ch, en = .returned (.agg (d8A (dd7 R.d) (.slice az nz cz) (.slice ac R.cs.length cc) (.slice ah R.h.length ch))) ∧ Doc lo w' (.slice az nz cz) R.zs ∧ RdE 83 lo w' (.slice ac R.cs.length cc) R.cs ∧ RowE 83 lo w' (.slice ah R.h.length ch) R.h ∧ Below w.heap.size w w'
theorem Doc.slice2 {lo : Nat} {w : World} {a : Option Addr} {n c : Nat} {zs : List ZsR} (h : Doc lo w (.slice a n c) zs) : n = zs.length := by
  obtain ⟨l, hr, hm⟩ := h
  obtain ⟨a', c', e⟩ := own_slice hr.own
  have h1 : n = l.length := by simp at e; exact e.2.1
  rw [h1]
  exact doc7_len hm
theorem RowE.slice {T : TypeId} {lo : Nat} {w : World} {v : Value} {es : List EvR} (h : RowE T lo w v es) : ∃ a c, v = .slice a es.length c := own_slice h.own
theorem Try.zero_e8 (w : World) : (zeroValue 83).run Try.prog w = .ok (.agg (evA ev0)) w := by kernel_rfl
set_option maxRecDepth 100000 in
set_option maxHeartbeats 4000000 in
theorem g8due_a {lo : Nat} {w : World} {d : DvR} {zs : List ZsR} {cs h : List EvR} (zone : Int) (az : Option Addr) (nz cz : Nat) (ac : Option Addr) (cc : Nat) (ah : Option Addr) (ch : Nat) (hd : Doc lo w (.slice az nz cz) zs) (sn : Sane d zs) (hc : RdE 83 lo w (.slice ac cs.length cc) cs) (hh : RowE 83 lo w (.slice ah h.length ch) h) (hn : h.length + cs.length ≤ 100000) (hlo : lo ≤ w.heap.size) (h1 : zone < 0) : Calls Try.prog 27 #[.agg (d8A (dd7 d) (.slice az nz cz) (.slice ac cs.length cc) (.slice ah h.length ch)), .int .i64 zone, .bool false] w (DuTo lo w (dueD d zs cs h zone false)) := by
  have hnz := hd.slice2
  subst hnz
  have HS : Hid (Duo7 30 30 w (d8A (dd7 d) (.slice az zs.length cz) (.slice ac cs.length cc) (.slice ah h.length ch)) d8Z ((w.alloc (Obj.cells (d8A (dd7 d) (.slice az zs.length cz) (.slice ac cs.length cc) (.slice ah h.length ch)) 30)).alloc (Obj.cells #[.slice none 0 0, .int .i64 0, .int .i64 0, .int .i64 0, .bool false, .slice none 0 0, .slice none 0 0] 30))) := Lib.hid Duo7.start
  have HD := Lib.hid hd
  have Hsn := Lib.hid sn
  have HC := Lib.hid hc
  have HH := Lib.hid hh
  have Hn := Lib.hid hn
  have Hlo := Lib.hid hlo
  clear hd sn hc hh hn hlo
  have hE : dueD d zs cs h zone false = ⟨d, zs, cs, h⟩ := by unfold dueD; rw [if_neg (by unfold dhB; simp; omega)]
  have HE := Lib.hid hE
  clear hE
  have da : decide (zone < 0) = true := decide_eq_true (by omega)
  go_enter Try.func27, Try.ntmps27
  go_upto_region 1 with fail
  generalize ((w.alloc (Obj.cells (d8A (dd7 d) (.slice az zs.length cz) (.slice ac cs.length cc) (.slice ah h.length ch)) 30)).alloc (Obj.cells #[.slice none 0 0, .int .i64 0, .int .i64 0, .int .i64 0, .bool false, .slice none 0 0, .slice none 0 0] 30)) = w0 at *
  have c0 := (HS.out.x.cell 0).trans (show (d8A (dd7 d) (.slice az zs.length cz) (.slice ac cs.length cc) (.slice ah h.length ch))[0]? = some (.slice az zs.length cz) from rfl)
  have HD0 := Lib.hid (HD.out.below HS.out.b)
  have HC0 := Lib.hid (HC.out.below HS.out.b)
  have HH0 := Lib.hid (HH.out.below HS.out.b)
  go_wp2_with (first | (refine wpl_load rfl _ rfl (w.heap.size) rfl _ _ _ (HS.out.x) Try.underlying30 rfl Try.info8D ?_; go_frame) | (refine wpl_store rfl _ _ rfl (w.heap.size + 1) (d8A (dd7 d) (.slice az zs.length cz) (.slice ac cs.length cc) (.slice ah h.length ch)) rfl rfl _ _ HS.out.g Try.info8D rfl (d8A_one _ _ _ _ _ _ _ _ _ _) ?_; intro w9 hSg hKg; have HSg := Lib.hid hSg; have HKg := Lib.hid hKg; clear hSg hKg; go_frame))
  have HF := Lib.hid (HS.out.out HSg.out HKg.out)
  exact bodyPost_ret (v := .agg (d8A (dd7 d) (.slice az zs.length cz) (.slice ac cs.length cc) (.slice ah h.length ch))) (results_cell_row Try.results27 _ _ (w.heap.size + 1) 30 _ (0, 0) _ rfl HF.out.g Try.underlying30 rfl Try.info8D) rfl (by rw [HE.out]; exact ⟨_, _, _, _, _, _, _, rfl, HD0.out.kept HKg.out (fun g hg => ⟨_, _, hg ▸ HS.out.g, by decide, by decide⟩), HC0.out.kept HKg.out (fun g hg e9 => by obtain ⟨cur, hb⟩ := HC0.out.blk hg; exact Blk.unlike hb HS.out.g (by decide) e9), HH0.out.kept HKg.out (fun g hg e9 => own_unlike HH0.out.own HS.out.g (by decide) (by rw [hg, e9])), HF.out.b⟩)
set_option maxRecDepth 100000 in
set_option maxHeartbeats 4000000 in
theorem g8due_b {lo : Nat} {w : World} {d : DvR} {zs : List ZsR} {cs h : List EvR} (zone : Int) (az : Option Addr) (nz cz : Nat) (ac : Option Addr) (cc : Nat) (ah : Option Addr) (ch : Nat) (hd : Doc lo w (.slice az nz cz) zs) (sn : Sane d zs) (hc : RdE 83 lo w (.slice ac cs.length cc) cs) (hh : RowE 83 lo w (.slice ah h.length ch) h) (hn : h.length + cs.length ≤ 100000) (hlo : lo ≤ w.heap.size) (h1 : 0 ≤ zone) (h2 : (zs.length : Int) ≤ zone) : Calls Try.prog 27 #[.agg (d8A (dd7 d) (.slice az nz cz) (.slice ac cs.length cc) (.slice ah h.length ch)), .int .i64 zone, .bool false] w (DuTo lo w (dueD d zs cs h zone false)) := by
  have hnz := hd.slice2
  subst hnz
  have HS : Hid (Duo7 30 30 w (d8A (dd7 d) (.slice az zs.length cz) (.slice ac cs.length cc) (.slice ah h.length ch)) d8Z ((w.alloc (Obj.cells (d8A (dd7 d) (.slice az zs.length cz) (.slice ac cs.length cc) (.slice ah h.length ch)) 30)).alloc (Obj.cells #[.slice none 0 0, .int .i64 0, .int .i64 0, .int .i64 0, .bool false, .slice none 0 0, .slice none 0 0] 30))) := Lib.hid Duo7.start
  have HD := Lib.hid hd
  have Hsn := Lib.hid sn
  have HC := Lib.hid hc
  have HH := Lib.hid hh
  have Hn := Lib.hid hn
  have Hlo := Lib.hid hlo
  clear hd sn hc hh hn hlo
  have hE : dueD d zs cs h zone false = ⟨d, zs, cs, h⟩ := by unfold dueD; rw [if_neg (by unfold dhB; simp; omega)]
  have HE := Lib.hid hE
  clear hE
  have da : decide (zone < 0) = false := decide_eq_false (by omega)
  have db : decide ((zs.length : Int) ≤ zone) = true := decide_eq_true (by omega)
  go_enter Try.func27, Try.ntmps27
  go_upto_region 1 with fail
  generalize ((w.alloc (Obj.cells (d8A (dd7 d) (.slice az zs.length cz) (.slice ac cs.length cc) (.slice ah h.length ch)) 30)).alloc (Obj.cells #[.slice none 0 0, .int .i64 0, .int .i64 0, .int .i64 0, .bool false, .slice none 0 0, .slice none 0 0] 30)) = w0 at *
  have c0 := (HS.out.x.cell 0).trans (show (d8A (dd7 d) (.slice az zs.length cz) (.slice ac cs.length cc) (.slice ah h.length ch))[0]? = some (.slice az zs.length cz) from rfl)
  have HD0 := Lib.hid (HD.out.below HS.out.b)
  have HC0 := Lib.hid (HC.out.below HS.out.b)
  have HH0 := Lib.hid (HH.out.below HS.out.b)
  go_wp2_with (first | (refine wpl_load rfl _ rfl (w.heap.size) rfl _ _ _ (HS.out.x) Try.underlying30 rfl Try.info8D ?_; go_frame) | (refine wpl_store rfl _ _ rfl (w.heap.size + 1) (d8A (dd7 d) (.slice az zs.length cz) (.slice ac cs.length cc) (.slice ah h.length ch)) rfl rfl _ _ HS.out.g Try.info8D rfl (d8A_one _ _ _ _ _ _ _ _ _ _) ?_; intro w9 hSg hKg; have HSg := Lib.hid hSg; have HKg := Lib.hid hKg; clear hSg hKg; go_frame))
  have HF := Lib.hid (HS.out.out HSg.out HKg.out)
  exact bodyPost_ret (v := .agg (d8A (dd7 d) (.slice az zs.length cz) (.slice ac cs.length cc) (.slice ah h.length ch))) (results_cell_row Try.results27 _ _ (w.heap.size + 1) 30 _ (0, 0) _ rfl HF.out.g Try.underlying30 rfl Try.info8D) rfl (by rw [HE.out]; exact ⟨_, _, _, _, _, _, _, rfl, HD0.out.kept HKg.out (fun g hg => ⟨_, _, hg ▸ HS.out.g, by decide, by decide⟩), HC0.out.kept HKg.out (fun g hg e9 => by obtain ⟨cur, hb⟩ := HC0.out.blk hg; exact Blk.unlike hb HS.out.g (by decide) e9), HH0.out.kept HKg.out (fun g hg e9 => own_unlike HH0.out.own HS.out.g (by decide) (by rw [hg, e9])), HF.out.b⟩)
set_option maxRecDepth 100000 in
set_option maxHeartbeats 4000000 in
theorem g8due_l {lo : Nat} {w : World} {d : DvR} {zs : List ZsR} {cs h : List EvR} (zone : Int) (az : Option Addr) (nz cz : Nat) (ac : Option Addr) (cc : Nat) (ah : Option Addr) (ch : Nat) (fl : Bool) (hd : Doc lo w (.slice az nz cz) zs) (sn : Sane d zs) (hc : RdE 83 lo w (.slice ac cs.length cc) cs) (hh : RowE 83 lo w (.slice ah h.length ch) h) (hn : h.length + cs.length ≤ 100000) (hlo : lo ≤ w.heap.size) (hgo0 : fl = true ∨ (0 ≤ zone ∧ zone < (zs.length : Int))) : Calls Try.prog 27 #[.agg (d8A (dd7 d) (.slice az nz cz) (.slice ac cs.length cc) (.slice ah h.length ch)), .int .i64 zone, .bool fl] w (DuTo lo w (dueF d zs cs h)) := by
  have hnz := hd.slice2
  subst hnz
  have HS : Hid (Duo7 30 30 w (d8A (dd7 d) (.slice az zs.length cz) (.slice ac cs.length cc) (.slice ah h.length ch)) d8Z ((w.alloc (Obj.cells (d8A (dd7 d) (.slice az zs.length cz) (.slice ac cs.length cc) (.slice ah h.length ch)) 30)).alloc (Obj.cells #[.slice none 0 0, .int .i64 0, .int .i64 0, .int .i64 0, .bool false, .slice none 0 0, .slice none 0 0] 30))) := Lib.hid Duo7.start
  have HD := Lib.hid hd
  have Hsn := Lib.hid sn
  have HC := Lib.hid hc
  have HH := Lib.hid hh
  have Hn := Lib.hid hn
  have Hlo := Lib.hid hlo
  clear hd sn hc hh hn hlo
  have hstart : ∀ (K : Prop), True := fun _ => trivial
  clear hstart
  have HD0 := Lib.hid (HD.out.below HS.out.b)
  have HC0 := Lib.hid (HC.out.below HS.out.b)
  have HH0 := Lib.hid (HH.out.below HS.out.b)
  obtain ⟨R, hR⟩ : ∃ R, dueF d zs cs h = R := ⟨_, rfl⟩
  have HR0 := Lib.hid hR
  rw [hR]
  clear hR HD HC HH
  have hcond : (fl = true) ∨ (fl = false ∧ decide (zone < 0) = false ∧ decide ((zs.length : Int) ≤ zone) = false) := by
    rcases hgo0 with h | ⟨h1, h2⟩
    · exact .inl h
    · cases fl with
      | true => exact .inl rfl
      | false => exact .inr ⟨rfl, decide_eq_false (by omega), decide_eq_false (by omega)⟩
  clear hgo0
  go_enter Try.func27, Try.ntmps27
  go_upto_region 1 with fail
  generalize ((w.alloc (Obj.cells (d8A (dd7 d) (.slice az zs.length cz) (.slice ac cs.length cc) (.slice ah h.length ch)) 30)).alloc (Obj.cells #[.slice none 0 0, .int .i64 0, .int .i64 0, .int .i64 0, .bool false, .slice none 0 0, .slice none 0 0] 30)) = w0 at *
  have c0 := (HS.out.x.cell 0).trans (show (d8A (dd7 d) (.slice az zs.length cz) (.slice ac cs.length cc) (.slice ah h.length ch))[0]? = some (.slice az zs.length cz) from rfl)
  rcases hcond with rfl | ⟨rfl, da, db⟩
  all_goals go_wp2_with fail
  all_goals try clear da db
  all_goals clear c0
  all_goals go_loopg [7] cs.length (fun k p wr => ∃ d1 zs1 cs1 h1 az1 nz1 cz1 ac1 nc cc1 ah1 ch1, nc = List.length cs1 ∧ k = List.length cs1 ∧ Duo7 30 30 w (d8A (dd7 d1) (.slice az1 nz1 cz1) (.slice ac1 nc cc1) (.slice ah1 h1.length ch1)) d8Z wr ∧ Doc lo wr (.slice az1 nz1 cz1) zs1 ∧ Sane d1 zs1 ∧ RdE 83 lo wr (.slice ac1 nc cc1) cs1 ∧ RowE 83 lo wr (.slice ah1 h1.length ch1) h1 ∧ h1.length + cs1.length ≤ 100000 ∧ dueF d1 zs1 cs1 h1 = R)
  all_goals try (exact ⟨d, zs, cs, h, az, zs.length, cz, ac, cs.length, cc, ah, ch, rfl, rfl, HS.out, HD0.out, Hsn.out, HC0.out, HH0.out, Hn.out, HR0.out⟩)
  all_goals
    obtain ⟨d1, zs1, cs1, h1, az1, nz1, cz1, ac1, nc, cc1, ah1, ch1, hnc, hk, hT, hD, hsn, hC, hH, hn, hR⟩ := hrel
    have HT := Lib.hid hT
    have HDr := Lib.hid hD
    have Hsn1 := Lib.hid hsn
    have HCr := Lib.hid hC
    have HHr := Lib.hid hH
    have Hn1 := Lib.hid hn
    have HR := Lib.hid hR
    have HX : Hid (Blk wr w.heap.size 30 (d8A (dd7 d1) (.slice az1 nz1 cz1) (.slice ac1 nc cc1) (.slice ah1 h1.length ch1))) := Lib.hid hT.x
    obtain ⟨a8, c8, hv8, hcl, hcm⟩ := hC.slice
    obtain ⟨-, -, rfl⟩ : ac1 = a8 ∧ nc = cs1.length ∧ cc1 = c8 := by simpa using hv8
    clear hT hD hsn hC hH hn hR HS HD0 HC0 HH0 HR0 Hsn Hn hv8
    cases hdn : d1.down with
    | true =>
      have Hdn := Lib.hid hdn
      have Hdn4 : Hid ((d8A (dd7 d1) (.slice az1 nz1 cz1) (.slice ac1 nc cc1) (.slice ah1 h1.length ch1))[4]? = some (.bool true)) := Lib.hid (by show some (Value.bool d1.down) = _; rw [hdn])
      subst hnc
      clear hdn hk
      go_upto_region 3 with fail
      refine wp_region_held (S := fun w' => Below wr.heap.size wr w') (by kernel_rfl) ?_
      change wpAnyH _ _ _ _ _ _ _ _ (World.drew _)
      have hS : Below wr.heap.size wr wr.drew := (Below.refl _ _).drew
      refine takeH hS (i := 0) (d := 23) (v := .pointer (some ⟨w.heap.size, 0, none⟩)) rfl rfl (by kernel_rfl) (by kernel_rfl) (by kernel_rfl) (fun _ _ _ h => h) (Or.inl ⟨by kernel_rfl, fun w' hw' => by kernel_rfl⟩) ?_
      refine takeH hS (i := 1) (d := 24) (v := .pointer (some ⟨w.heap.size, 4, none⟩)) rfl rfl (by kernel_rfl) (by kernel_rfl) (by kernel_rfl) (fun _ _ _ h => h) (Or.inl ⟨by kernel_rfl, fun w' hw' => by kernel_rfl⟩) ?_
      refine takeH hS (i := 2) (d := 25) (v := .bool true) rfl rfl (by kernel_rfl) (by kernel_rfl) (by kernel_rfl) (fun _ _ _ h => h) (Or.inl ⟨by kernel_rfl, fun w' hw' => by exact exec_cellv _ rfl ⟨w.heap.size, 4, none⟩ rfl (.bool true) Try.underlying4 rfl (((HX.out.below hw' HX.out.lt).cell 4).trans (Hdn4.out))⟩) ?_
      refine takeH hS (i := 3) (d := 26) (v := .bool false) rfl rfl (by kernel_rfl) (by kernel_rfl) (by kernel_rfl) (fun _ _ _ h => h) (Or.inl ⟨by kernel_rfl, fun w' hw' => by kernel_rfl⟩) ?_
      try go_frame
      refine takeH hS (i := 4) (d := 27) (v := .bool false) rfl rfl (by kernel_rfl) (by kernel_rfl) (by kernel_rfl) (fun _ _ _ h => h) (Or.inl ⟨by kernel_rfl, fun w' hw' => by kernel_rfl⟩) ?_
      refine takeH hS (i := 5) (d := 28) (v := undef) rfl rfl (by kernel_rfl) (by kernel_rfl) (by kernel_rfl) (fun _ _ _ h => h) (Or.inr ⟨by kernel_rfl, rfl⟩) ?_
      refine takeH hS (i := 6) (d := 29) (v := undef) rfl rfl (by kernel_rfl) (by kernel_rfl) (by kernel_rfl) (fun _ _ _ h => h) (Or.inr ⟨by kernel_rfl, rfl⟩) ?_
      refine takeH hS (i := 7) (d := 30) (v := undef) rfl rfl (by kernel_rfl) (by kernel_rfl) (by kernel_rfl) (fun _ _ _ h => h) (Or.inr ⟨by kernel_rfl, rfl⟩) ?_
      try go_frame
      refine takeH hS (i := 8) (d := 31) (v := undef) rfl rfl (by kernel_rfl) (by kernel_rfl) (by kernel_rfl) (fun _ _ _ h => h) (Or.inr ⟨by kernel_rfl, rfl⟩) ?_
      refine takeH hS (i := 9) (d := 32) (v := .bool false) rfl rfl (by kernel_rfl) (by kernel_rfl) (by kernel_rfl) (fun _ _ _ h => h) (Or.inl ⟨by kernel_rfl, fun w' hw' => by kernel_rfl⟩) ?_
      refine takeH hS (i := 10) (d := 33) (v := .bool false) rfl rfl (by kernel_rfl) (by kernel_rfl) (by kernel_rfl) (fun _ _ _ h => h) (Or.inl ⟨by kernel_rfl, fun w' hw' => by kernel_rfl⟩) ?_
      refine takeH hS (i := 11) (d := 34) (v := undef) rfl rfl (by kernel_rfl) (by kernel_rfl) (by kernel_rfl) (fun _ _ _ h => h) (Or.inr ⟨by kernel_rfl, rfl⟩) ?_
      try go_frame
      refine takeH hS (i := 12) (d := 35) (v := undef) rfl rfl (by kernel_rfl) (by kernel_rfl) (by kernel_rfl) (fun _ _ _ h => h) (Or.inr ⟨by kernel_rfl, rfl⟩) ?_
      refine takeH hS (i := 13) (d := 36) (v := undef) rfl rfl (by kernel_rfl) (by kernel_rfl) (by kernel_rfl) (fun _ _ _ h => h) (Or.inr ⟨by kernel_rfl, rfl⟩) ?_
      refine takeH hS (i := 14) (d := 37) (v := undef) rfl rfl (by kernel_rfl) (by kernel_rfl) (by kernel_rfl) (fun _ _ _ h => h) (Or.inr ⟨by kernel_rfl, rfl⟩) ?_
      refine takeH hS (i := 15) (d := 38) (v := undef) rfl rfl (by kernel_rfl) (by kernel_rfl) (by kernel_rfl) (fun _ _ _ h => h) (Or.inr ⟨by kernel_rfl, rfl⟩) ?_
      try go_frame
      refine takeH hS (i := 16) (d := 39) (v := undef) rfl rfl (by kernel_rfl) (by kernel_rfl) (by kernel_rfl) (fun _ _ _ h => h) (Or.inr ⟨by kernel_rfl, rfl⟩) ?_
      refine takeH hS (i := 17) (d := 40) (v := undef) rfl rfl (by kernel_rfl) (by kernel_rfl) (by kernel_rfl) (fun _ _ _ h => h) (Or.inr ⟨by kernel_rfl, rfl⟩) ?_
      refine takeH hS (i := 18) (d := 41) (v := undef) rfl rfl (by kernel_rfl) (by kernel_rfl) (by kernel_rfl) (fun _ _ _ h => h) (Or.inr ⟨by kernel_rfl, rfl⟩) ?_
      refine takeH hS (i := 19) (d := 42) (v := undef) rfl rfl (by kernel_rfl) (by kernel_rfl) (by kernel_rfl) (fun _ _ _ h => h) (Or.inr ⟨by kernel_rfl, rfl⟩) ?_
      try go_frame
      refine takeH hS (i := 20) (d := 43) (v := .bool false) rfl rfl (by kernel_rfl) (by kernel_rfl) (by kernel_rfl) (fun _ _ _ h => h) (Or.inl ⟨by kernel_rfl, fun w' hw' => by kernel_rfl⟩) ?_
      refine wpAnyH_done (by kernel_rfl) ?_ _
      try go_frame
      have HT1 := Lib.hid (HT.out.below hS)
      have HD1 := Lib.hid (HDr.out.below hS)
      have HC1 := Lib.hid (HCr.out.below hS)
      have HH1 := Lib.hid (HHr.out.below hS)
      have Hw1 := Lib.hid hS
      clear hS HT HDr HCr HHr HX
      generalize wr.drew = w1 at *
      go_wp2_with (first | (refine wpl_load rfl _ rfl (w.heap.size) rfl _ _ _ (HT1.out.x) Try.underlying30 rfl Try.info8D ?_; go_frame) | (refine wpl_store rfl _ _ rfl (w.heap.size + 1) (d8A (dd7 d1) (.slice az1 nz1 cz1) (.slice ac1 cs1.length cc1) (.slice ah1 h1.length ch1)) rfl rfl _ _ HT1.out.g Try.info8D rfl (d8A_one _ _ _ _ _ _ _ _ _ _) ?_; intro w9 hSg hKg; have HSg := Lib.hid hSg; have HKg := Lib.hid hKg; clear hSg hKg; go_frame))
      have HF := Lib.hid (HT1.out.out HSg.out HKg.out)
      exact bodyPost_ret (v := .agg (d8A (dd7 d1) (.slice az1 nz1 cz1) (.slice ac1 cs1.length cc1) (.slice ah1 h1.length ch1))) (results_cell_row Try.results27 _ _ (w.heap.size + 1) 30 _ (0, 0) _ rfl HF.out.g Try.underlying30 rfl Try.info8D) rfl (by rw [HR.out.symm.trans (dueF_down Hdn.out)]; exact ⟨_, _, _, _, _, _, _, rfl, HD1.out.kept HKg.out (fun g hg => ⟨_, _, hg ▸ HT1.out.g, by decide, by decide⟩), HC1.out.kept HKg.out (fun g hg e9 => by obtain ⟨cur, hb⟩ := HC1.out.blk hg; exact Blk.unlike hb HT1.out.g (by decide) e9), HH1.out.kept HKg.out (fun g hg e9 => own_unlike HH1.out.own HT1.out.g (by decide) (by rw [hg, e9])), HF.out.b⟩)
    | false =>
      have Hdn := Lib.hid hdn
      have Hdn4 : Hid ((d8A (dd7 d1) (.slice az1 nz1 cz1) (.slice ac1 nc cc1) (.slice ah1 h1.length ch1))[4]? = some (.bool false)) := Lib.hid (by show some (Value.bool d1.down) = _; rw [hdn])
      clear hdn
      cases cs1 with
      | nil =>
        have hnc0 : nc = 0 := hnc
        subst hnc0
        have dl : decide ((((0 : Nat)) : Int) > 0) = false := by decide
        clear hnc hk
        go_upto_region 3 with fail
        refine wp_region_held (S := fun w' => Below wr.heap.size wr w') (by kernel_rfl) ?_
        change wpAnyH _ _ _ _ _ _ _ _ (World.drew _)
        have hS : Below wr.heap.size wr wr.drew := (Below.refl _ _).drew
        refine takeH hS (i := 0) (d := 23) (v := .pointer (some ⟨w.heap.size, 0, none⟩)) rfl rfl (by kernel_rfl) (by kernel_rfl) (by kernel_rfl) (fun _ _ _ h => h) (Or.inl ⟨by kernel_rfl, fun w' hw' => by kernel_rfl⟩) ?_
        refine takeH hS (i := 1) (d := 24) (v := .pointer (some ⟨w.heap.size, 4, none⟩)) rfl rfl (by kernel_rfl) (by kernel_rfl) (by kernel_rfl) (fun _ _ _ h => h) (Or.inl ⟨by kernel_rfl, fun w' hw' => by kernel_rfl⟩) ?_
        refine takeH hS (i := 2) (d := 25) (v := .bool false) rfl rfl (by kernel_rfl) (by kernel_rfl) (by kernel_rfl) (fun _ _ _ h => h) (Or.inl ⟨by kernel_rfl, fun w' hw' => by exact exec_cellv _ rfl ⟨w.heap.size, 4, none⟩ rfl (.bool false) Try.underlying4 rfl (((HX.out.below hw' HX.out.lt).cell 4).trans (Hdn4.out))⟩) ?_
        refine takeH hS (i := 3) (d := 26) (v := .bool true) rfl rfl (by kernel_rfl) (by kernel_rfl) (by kernel_rfl) (fun _ _ _ h => h) (Or.inl ⟨by kernel_rfl, fun w' hw' => by kernel_rfl⟩) ?_
        try go_frame
        refine takeH hS (i := 4) (d := 27) (v := .bool true) rfl rfl (by kernel_rfl) (by kernel_rfl) (by kernel_rfl) (fun _ _ _ h => h) (Or.inl ⟨by kernel_rfl, fun w' hw' => by kernel_rfl⟩) ?_
        refine takeH hS (i := 5) (d := 28) (v := .pointer (some ⟨w.heap.size, 5, none⟩)) rfl rfl (by kernel_rfl) (by kernel_rfl) (by kernel_rfl) (fun _ _ _ h => h) (Or.inl ⟨by kernel_rfl, fun w' hw' => by kernel_rfl⟩) ?_
        refine takeH hS (i := 6) (d := 29) (v := .slice (ac1) (0) (cc1)) rfl rfl (by kernel_rfl) (by kernel_rfl) (by kernel_rfl) (fun _ _ _ h => h) (Or.inl ⟨by kernel_rfl, fun w' hw' => by exact exec_cellv _ rfl ⟨w.heap.size, 5, none⟩ rfl (.slice (ac1) (0) (cc1)) Try.underlying28 rfl (((HX.out.below hw' HX.out.lt).cell 5).trans (rfl))⟩) ?_
        refine takeH hS (i := 7) (d := 30) (v := .int .i64 ((0 : Nat))) rfl rfl (by kernel_rfl) (by kernel_rfl) (by kernel_rfl) (fun _ _ _ h => h) (Or.inl ⟨by kernel_rfl, fun w' hw' => by exact exec_len _ rfl Try.underlying28 _ _ _ rfl⟩) ?_
        try go_frame
        refine takeH hS (i := 8) (d := 31) (v := .bool false) rfl rfl (by kernel_rfl) (by kernel_rfl) (by kernel_rfl) (fun _ _ _ h => h) (Or.inl ⟨by kernel_rfl, fun w' hw' => by exact exec_gtr _ _ rfl ((0 : Nat)) (0) rfl rfl false (dl) rfl⟩) ?_
        refine takeH hS (i := 9) (d := 32) (v := .bool false) rfl rfl (by kernel_rfl) (by kernel_rfl) (by kernel_rfl) (fun _ _ _ h => h) (Or.inl ⟨by kernel_rfl, fun w' hw' => by kernel_rfl⟩) ?_
        refine takeH hS (i := 10) (d := 33) (v := .bool false) rfl rfl (by kernel_rfl) (by kernel_rfl) (by kernel_rfl) (fun _ _ _ h => h) (Or.inl ⟨by kernel_rfl, fun w' hw' => by kernel_rfl⟩) ?_
        refine takeH hS (i := 11) (d := 34) (v := undef) rfl rfl (by kernel_rfl) (by kernel_rfl) (by kernel_rfl) (fun _ _ _ h => h) (Or.inr ⟨by kernel_rfl, rfl⟩) ?_
        try go_frame
        refine takeH hS (i := 12) (d := 35) (v := undef) rfl rfl (by kernel_rfl) (by kernel_rfl) (by kernel_rfl) (fun _ _ _ h => h) (Or.inr ⟨by kernel_rfl, rfl⟩) ?_
        refine takeH hS (i := 13) (d := 36) (v := undef) rfl rfl (by kernel_rfl) (by kernel_rfl) (by kernel_rfl) (fun _ _ _ h => h) (Or.inr ⟨by kernel_rfl, rfl⟩) ?_
        refine takeH hS (i := 14) (d := 37) (v := undef) rfl rfl (by kernel_rfl) (by kernel_rfl) (by kernel_rfl) (fun _ _ _ h => h) (Or.inr ⟨by kernel_rfl, rfl⟩) ?_
        refine takeH hS (i := 15) (d := 38) (v := undef) rfl rfl (by kernel_rfl) (by kernel_rfl) (by kernel_rfl) (fun _ _ _ h => h) (Or.inr ⟨by kernel_rfl, rfl⟩) ?_
        try go_frame
        refine takeH hS (i := 16) (d := 39) (v := undef) rfl rfl (by kernel_rfl) (by kernel_rfl) (by kernel_rfl) (fun _ _ _ h => h) (Or.inr ⟨by kernel_rfl, rfl⟩) ?_
        refine takeH hS (i := 17) (d := 40) (v := undef) rfl rfl (by kernel_rfl) (by kernel_rfl) (by kernel_rfl) (fun _ _ _ h => h) (Or.inr ⟨by kernel_rfl, rfl⟩) ?_
        refine takeH hS (i := 18) (d := 41) (v := undef) rfl rfl (by kernel_rfl) (by kernel_rfl) (by kernel_rfl) (fun _ _ _ h => h) (Or.inr ⟨by kernel_rfl, rfl⟩) ?_
        refine takeH hS (i := 19) (d := 42) (v := undef) rfl rfl (by kernel_rfl) (by kernel_rfl) (by kernel_rfl) (fun _ _ _ h => h) (Or.inr ⟨by kernel_rfl, rfl⟩) ?_
        try go_frame
        refine takeH hS (i := 20) (d := 43) (v := .bool false) rfl rfl (by kernel_rfl) (by kernel_rfl) (by kernel_rfl) (fun _ _ _ h => h) (Or.inl ⟨by kernel_rfl, fun w' hw' => by kernel_rfl⟩) ?_
        refine wpAnyH_done (by kernel_rfl) ?_ _
        try go_frame
        have HT1 := Lib.hid (HT.out.below hS)
        have HD1 := Lib.hid (HDr.out.below hS)
        have HC1 := Lib.hid (HCr.out.below hS)
        have HH1 := Lib.hid (HHr.out.below hS)
        have Hw1 := Lib.hid hS
        clear hS HT HDr HCr HHr HX
        generalize wr.drew = w1 at *
        go_wp2_with (first | (refine wpl_load rfl _ rfl (w.heap.size) rfl _ _ _ (HT1.out.x) Try.underlying30 rfl Try.info8D ?_; go_frame) | (refine wpl_store rfl _ _ rfl (w.heap.size + 1) (d8A (dd7 d1) (.slice az1 nz1 cz1) (.slice ac1 0 cc1) (.slice ah1 h1.length ch1)) rfl rfl _ _ HT1.out.g Try.info8D rfl (d8A_one _ _ _ _ _ _ _ _ _ _) ?_; intro w9 hSg hKg; have HSg := Lib.hid hSg; have HKg := Lib.hid hKg; clear hSg hKg; go_frame))
        have HF := Lib.hid (HT1.out.out HSg.out HKg.out)
        exact bodyPost_ret (v := .agg (d8A (dd7 d1) (.slice az1 nz1 cz1) (.slice ac1 0 cc1) (.slice ah1 h1.length ch1))) (results_cell_row Try.results27 _ _ (w.heap.size + 1) 30 _ (0, 0) _ rfl HF.out.g Try.underlying30 rfl Try.info8D) rfl (by rw [HR.out.symm.trans (show dueF d1 zs1 [] h1 = _ from rfl)]; exact ⟨_, _, _, _, _, _, _, rfl, HD1.out.kept HKg.out (fun g hg => ⟨_, _, hg ▸ HT1.out.g, by decide, by decide⟩), HC1.out.kept HKg.out (fun g hg e9 => by obtain ⟨cur, hb⟩ := HC1.out.blk hg; exact Blk.unlike hb HT1.out.g (by decide) e9), HH1.out.kept HKg.out (fun g hg e9 => own_unlike HH1.out.own HT1.out.g (by decide) (by rw [hg, e9])), HF.out.b⟩)
      | cons e cs1 =>
        have hnc1 : nc = cs1.length + 1 := hnc
        subst hnc1
        have hk1 : gk = cs1.length + 1 := hk
        have Hn1 : Hid (h1.length + (cs1.length + 1) ≤ 100000) := Lib.hid Hn1.out
        have He := Lib.hid (HCr.out.ok e (by simp))
        obtain ⟨g, off, cap', hv9, _, _⟩ := HCr.out.at_ (i := 0) (e := e) rfl
        obtain ⟨rfl, -⟩ : ac1 = some ⟨g, off, none⟩ ∧ cc1 = cap' := by simpa using hv9
        have Hrx : Hid (∀ W, Below wr.heap.size wr W → W.rangeAt g off (evL e)) := Lib.hid (fun W hb => by
          obtain ⟨g', off', cap2, hv2, hr2, _⟩ := (HCr.out.below hb).at_ (i := 0) (e := e) rfl
          obtain ⟨⟨rfl, rfl⟩, -⟩ : (g = g' ∧ off = off') ∧ cc1 = cap2 := by simpa using hv2
          rwa [Nat.zero_mul, Nat.add_zero] at hr2)
        have Hcx : Hid (∀ w', Below wr.heap.size wr w' → w'.cell? ⟨g, off + 0 * 68, none⟩ = some (.int .i64 e.at_)) := Lib.hid (fun w' hw' => by
          have h6 := Hrx.out w' hw' 0 _ (evL_at0 e)
          rwa [Nat.zero_mul])
        have hcl : cs1.length + 1 ≤ cc1 := hcl
        clear hnc hk hv9
        have dl : decide (((cs1.length + 1 : Nat) : Int) > 0) = true := decide_eq_true (by omega)
        by_cases hgo : e.at_ ≤ d1.count
        · have dg : decide (e.at_ ≤ d1.count) = true := decide_eq_true hgo
          have Hgo := Lib.hid hgo
          clear hgo
          go_upto_region 3 with fail
          refine wp_region_held (S := fun w' => Below wr.heap.size wr w') (by kernel_rfl) ?_
          change wpAnyH _ _ _ _ _ _ _ _ (World.drew _)
          have hS : Below wr.heap.size wr wr.drew := (Below.refl _ _).drew
          refine takeH hS (i := 0) (d := 23) (v := .pointer (some ⟨w.heap.size, 0, none⟩)) rfl rfl (by kernel_rfl) (by kernel_rfl) (by kernel_rfl) (fun _ _ _ h => h) (Or.inl ⟨by kernel_rfl, fun w' hw' => by kernel_rfl⟩) ?_
          refine takeH hS (i := 1) (d := 24) (v := .pointer (some ⟨w.heap.size, 4, none⟩)) rfl rfl (by kernel_rfl) (by kernel_rfl) (by kernel_rfl) (fun _ _ _ h => h) (Or.inl ⟨by kernel_rfl, fun w' hw' => by kernel_rfl⟩) ?_
          refine takeH hS (i := 2) (d := 25) (v := .bool false) rfl rfl (by kernel_rfl) (by kernel_rfl) (by kernel_rfl) (fun _ _ _ h => h) (Or.inl ⟨by kernel_rfl, fun w' hw' => by exact exec_cellv _ rfl ⟨w.heap.size, 4, none⟩ rfl (.bool false) Try.underlying4 rfl (((HX.out.below hw' HX.out.lt).cell 4).trans (Hdn4.out))⟩) ?_
          refine takeH hS (i := 3) (d := 26) (v := .bool true) rfl rfl (by kernel_rfl) (by kernel_rfl) (by kernel_rfl) (fun _ _ _ h => h) (Or.inl ⟨by kernel_rfl, fun w' hw' => by kernel_rfl⟩) ?_
          try go_frame
          refine takeH hS (i := 4) (d := 27) (v := .bool true) rfl rfl (by kernel_rfl) (by kernel_rfl) (by kernel_rfl) (fun _ _ _ h => h) (Or.inl ⟨by kernel_rfl, fun w' hw' => by kernel_rfl⟩) ?_
          refine takeH hS (i := 5) (d := 28) (v := .pointer (some ⟨w.heap.size, 5, none⟩)) rfl rfl (by kernel_rfl) (by kernel_rfl) (by kernel_rfl) (fun _ _ _ h => h) (Or.inl ⟨by kernel_rfl, fun w' hw' => by kernel_rfl⟩) ?_
          refine takeH hS (i := 6) (d := 29) (v := .slice (some ⟨g, off, none⟩) (cs1.length + 1) (cc1)) rfl rfl (by kernel_rfl) (by kernel_rfl) (by kernel_rfl) (fun _ _ _ h => h) (Or.inl ⟨by kernel_rfl, fun w' hw' => by exact exec_cellv _ rfl ⟨w.heap.size, 5, none⟩ rfl (.slice (some ⟨g, off, none⟩) (cs1.length + 1) (cc1)) Try.underlying28 rfl (((HX.out.below hw' HX.out.lt).cell 5).trans (rfl))⟩) ?_
          refine takeH hS (i := 7) (d := 30) (v := .int .i64 ((cs1.length + 1 : Nat))) rfl rfl (by kernel_rfl) (by kernel_rfl) (by kernel_rfl) (fun _ _ _ h => h) (Or.inl ⟨by kernel_rfl, fun w' hw' => by exact exec_len _ rfl Try.underlying28 _ _ _ rfl⟩) ?_
          try go_frame
          refine takeH hS (i := 8) (d := 31) (v := .bool true) rfl rfl (by kernel_rfl) (by kernel_rfl) (by kernel_rfl) (fun _ _ _ h => h) (Or.inl ⟨by kernel_rfl, fun w' hw' => by exact exec_gtr _ _ rfl ((cs1.length + 1 : Nat)) (0) rfl rfl true (dl) rfl⟩) ?_
          refine takeH hS (i := 9) (d := 32) (v := .bool true) rfl rfl (by kernel_rfl) (by kernel_rfl) (by kernel_rfl) (fun _ _ _ h => h) (Or.inl ⟨by kernel_rfl, fun w' hw' => by kernel_rfl⟩) ?_
          refine takeH hS (i := 10) (d := 33) (v := .bool true) rfl rfl (by kernel_rfl) (by kernel_rfl) (by kernel_rfl) (fun _ _ _ h => h) (Or.inl ⟨by kernel_rfl, fun w' hw' => by kernel_rfl⟩) ?_
          refine takeH hS (i := 11) (d := 34) (v := .pointer (some ⟨w.heap.size, 5, none⟩)) rfl rfl (by kernel_rfl) (by kernel_rfl) (by kernel_rfl) (fun _ _ _ h => h) (Or.inl ⟨by kernel_rfl, fun w' hw' => by kernel_rfl⟩) ?_
          try go_frame
          refine takeH hS (i := 12) (d := 35) (v := .slice (some ⟨g, off, none⟩) (cs1.length + 1) (cc1)) rfl rfl (by kernel_rfl) (by kernel_rfl) (by kernel_rfl) (fun _ _ _ h => h) (Or.inl ⟨by kernel_rfl, fun w' hw' => by exact exec_cellv _ rfl ⟨w.heap.size, 5, none⟩ rfl (.slice (some ⟨g, off, none⟩) (cs1.length + 1) (cc1)) Try.underlying28 rfl (((HX.out.below hw' HX.out.lt).cell 5).trans (rfl))⟩) ?_
          refine takeH hS (i := 13) (d := 36) (v := .pointer (some ⟨g, off + 0 * 68, none⟩)) rfl rfl (by kernel_rfl) (by kernel_rfl) (by kernel_rfl) (fun _ _ _ h => h) (Or.inl ⟨by kernel_rfl, fun w' hw' => by exact exec_indexO elE8 _ _ rfl g off (cs1.length + 1) cc1 0 rfl rfl (by omega)⟩) ?_
          refine takeH hS (i := 14) (d := 37) (v := .pointer (some ⟨g, off + 0 * 68, none⟩)) rfl rfl (by kernel_rfl) (by kernel_rfl) (by kernel_rfl) (fun _ _ _ h => h) (Or.inl ⟨by kernel_rfl, fun w' hw' => by kernel_rfl⟩) ?_
          refine takeH hS (i := 15) (d := 38) (v := .int .i64 (e.at_)) rfl rfl (by kernel_rfl) (by kernel_rfl) (by kernel_rfl) (fun _ _ _ h => h) (Or.inl ⟨by kernel_rfl, fun w' hw' => by exact exec_cell _ rfl ⟨g, off + 0 * 68, none⟩ rfl _ Try.underlying3 (Hcx.out w' hw')⟩) ?_
          try go_frame
          refine takeH hS (i := 16) (d := 39) (v := .pointer (some ⟨w.heap.size, 0, none⟩)) rfl rfl (by kernel_rfl) (by kernel_rfl) (by kernel_rfl) (fun _ _ _ h => h) (Or.inl ⟨by kernel_rfl, fun w' hw' => by kernel_rfl⟩) ?_
          refine takeH hS (i := 17) (d := 40) (v := .pointer (some ⟨w.heap.size, 3, none⟩)) rfl rfl (by kernel_rfl) (by kernel_rfl) (by kernel_rfl) (fun _ _ _ h => h) (Or.inl ⟨by kernel_rfl, fun w' hw' => by kernel_rfl⟩) ?_
          refine takeH hS (i := 18) (d := 41) (v := .int .i64 (d1.count)) rfl rfl (by kernel_rfl) (by kernel_rfl) (by kernel_rfl) (fun _ _ _ h => h) (Or.inl ⟨by kernel_rfl, fun w' hw' => by exact exec_cell _ rfl ⟨w.heap.size, 3, none⟩ rfl _ Try.underlying3 (((HX.out.below hw' HX.out.lt).cell 3).trans (rfl))⟩) ?_
          refine takeH hS (i := 19) (d := 42) (v := .bool true) rfl rfl (by kernel_rfl) (by kernel_rfl) (by kernel_rfl) (fun _ _ _ h => h) (Or.inl ⟨by kernel_rfl, fun w' hw' => by exact exec_leq _ _ rfl (e.at_) (d1.count) rfl rfl true (dg) rfl⟩) ?_
          try go_frame
          refine takeH hS (i := 20) (d := 43) (v := .bool true) rfl rfl (by kernel_rfl) (by kernel_rfl) (by kernel_rfl) (fun _ _ _ h => h) (Or.inl ⟨by kernel_rfl, fun w' hw' => by kernel_rfl⟩) ?_
          refine wpAnyH_done (by kernel_rfl) ?_ _
          try go_frame
          have HT1 := Lib.hid (HT.out.below hS)
          have HD1 := Lib.hid (HDr.out.below hS)
          have HC1 := Lib.hid (HCr.out.below hS)
          have HH1 := Lib.hid (HHr.out.below hS)
          have Hw1 := Lib.hid hS
          clear hS HT HDr HCr HHr HX
          generalize wr.drew = w1 at *
          have Hrx1 := Lib.hid (Hrx.out w1 Hw1.out)
          have c5 := (HT1.out.x.cell 5).trans (show (d8A (dd7 d1) (.slice az1 nz1 cz1) (.slice (some ⟨g, off, none⟩) (cs1.length + 1) cc1) (.slice ah1 h1.length ch1))[5]? = some (.slice (some ⟨g, off, none⟩) (cs1.length + 1) cc1) from rfl)
          have hz8 := Try.zero_e8
          go_upto_region 5 with (first | (refine wpl_load_ev (by rfl) _ _ rfl g off rfl e _ Hrx1.out Try.underlying83 rfl (info_e8L He.out.len) ?_; go_frame) | (refine wpl_store_new rfl _ _ rfl (evA e) w1 83 (evA ev0) rfl rfl rfl (info_e8A He.out.len) (by rw [evA_size He.out.len, evA_size (zeros_length 64)]) (evA_one _) ?_; go_frame))
          have hby := below_alloc w1 (Obj.cells (evA e) 83)
          have HT2 := Lib.hid (HT1.out.below hby)
          have HD2 := Lib.hid (HD1.out.below hby)
          have HC2 := Lib.hid (HC1.out.below hby)
          have HH2 := Lib.hid (HH1.out.below hby)
          have HY2 := Lib.hid (Blk.new w1 83 (evA e))
          have Hyl : Hid (w.heap.size + 1 < w1.heap.size) := Lib.hid HT1.out.g.lt
          clear hby hz8 c5 HT1 HD1 HC1 HH1 Hrx1
          generalize w1.alloc (Obj.cells (evA e) 83) = w2 at *
          generalize w1.heap.size = Y at *
          have c5 := (HT2.out.x.cell 5).trans (show (d8A (dd7 d1) (.slice az1 nz1 cz1) (.slice (some ⟨g, off, none⟩) (cs1.length + 1) cc1) (.slice ah1 h1.length ch1))[5]? = some (.slice (some ⟨g, off, none⟩) (cs1.length + 1) cc1) from rfl)
          have f5 := HT2.out.x.frozen 5
          obtain ⟨a2, c2, hcv⟩ : ∃ a2 c2, Value.slice (if cc1 = 1 then some ⟨g, off, none⟩ else (some (⟨g, off, none⟩ : Addr)).map (·.add 68)) (cs1.length + 1 - 1) (cc1 - 1) = .slice a2 cs1.length c2 := ⟨_, _, rfl⟩
          have Hcut : Hid (RdE 83 lo w2 (.slice a2 cs1.length c2) cs1) := Lib.hid (by have h8 := HC2.out.cut; unfold cutV at h8; rwa [hcv] at h8)
          have Hcv := Lib.hid hcv
          clear hcv
          go_upto_region 6 with (first | (refine wpl_run (by rfl) (.slice a2 cs1.length c2) ((exec_slice1 elE8 _ _ rfl (some ⟨g, off, none⟩) (cs1.length + 1) cc1 rfl rfl (by omega) hcl).trans (by rw [Hcv.out])) ?_; go_frame))
          have hk3 := (Kept.refl (· = w.heap.size) w2).setCell (p := ⟨w.heap.size, 5, none⟩) rfl (.slice a2 cs1.length c2)
          have HT3 : Hid (Duo7 30 30 w (d8A (dd7 d1) (.slice az1 nz1 cz1) (.slice a2 cs1.length c2) (.slice ah1 h1.length ch1)) d8Z (w2.setCell ⟨w.heap.size, 5, none⟩ (.slice a2 cs1.length c2))) := Lib.hid (HT2.out.set 5 _)
          have HD3 := Lib.hid (HD2.out.kept hk3 (fun q hq => ⟨_, _, hq ▸ HT2.out.x, by decide, by decide⟩))
          have HC3 := Lib.hid (Hcut.out.kept hk3 (fun q hq e9 => by obtain ⟨cur, hb⟩ := Hcut.out.blk hq; exact Blk.unlike hb HT2.out.x (by decide) e9))
          have HH3 := Lib.hid (HH2.out.kept hk3 (fun q hq e9 => own_unlike HH2.out.own HT2.out.x (by decide) (by rw [hq, e9])))
          have HY3 := Lib.hid (HY2.out.kept hk3 (fun e9 => by have := Hyl.out; omega))
          clear c5 f5 hk3 HT2 HD2 HC2 HH2 HY2 Hcut Hcv
          generalize w2.setCell ⟨w.heap.size, 5, none⟩ (.slice a2 cs1.length c2) = w3 at *
          go_wp2_with (first | (refine wpl_load rfl _ rfl (w.heap.size) rfl _ _ _ (HT3.out.x) Try.underlying30 rfl Try.info8D ?_; go_frame) | (refine wpl_load rfl _ rfl Y rfl _ _ _ (HY3.out) Try.underlying83 rfl (info_e8A He.out.len) ?_; go_frame))
          refine (g8hap (lo := lo) e az1 nz1 cz1 a2 cs1.length c2 ah1 ch1 HD3.out Hsn1.out HH3.out He.out (by have := Hn1.out; omega) (by have := HT3.out.b.size; have := Hlo.out; omega)).mono ?_
          rintro en w4 ⟨az4, nz4, cz4, ah4, ch4, rfl, hD4, hH4, hb4⟩
          have HT4 := Lib.hid (HT3.out.below hb4)
          have HC4 := Lib.hid (HC3.out.below hb4)
          have HD4 := Lib.hid hD4
          have HH4 := Lib.hid hH4
          clear hD4 hH4 hb4 HT3 HD3 HC3 HH3 HY3 Hyl
          have Hsn4 := Lib.hid (hapSp_sane Hsn1.out He.out)
          have HR4 : Hid (dueF (hapSp d1 zs1 e).d (hapSp d1 zs1 e).zs cs1 (h1 ++ [e]) = R) := Lib.hid ((dueF_go Hdn.out Hgo.out).symm.trans HR.out)
          have Hl4 : Hid ((h1 ++ [e]).length = h1.length + 1) := Lib.hid (by simp)
          have Hn4 : Hid ((h1 ++ [e]).length + cs1.length ≤ 100000) := Lib.hid (by rw [Hl4.out]; have := Hn1.out; omega)
          generalize h1 ++ [e] = h4 at *
          generalize (hapSp d1 zs1 e).d = d4 at *
          generalize (hapSp d1 zs1 e).zs = zs4 at *
          go_wp2_with (first | (refine wpl_store rfl _ _ rfl (w.heap.size) (d8A (dd7 d4) (.slice az4 nz4 cz4) (.slice a2 cs1.length c2) (.slice ah4 (h1.length + 1) ch4)) rfl rfl _ _ HT4.out.x Try.info8D rfl (d8A_one _ _ _ _ _ _ _ _ _ _) ?_; intro w5 hX5 hk5; have HT5 := Lib.hid (HT4.out.newx hX5 hk5); have HD5 := Lib.hid (HD4.out.kept hk5 (fun q hq => ⟨_, _, hq ▸ HT4.out.x, by decide, by decide⟩)); have HC5 := Lib.hid (HC4.out.kept hk5 (fun q hq e9 => by obtain ⟨cur, hb⟩ := HC4.out.blk hq; exact Blk.unlike hb HT4.out.x (by decide) e9)); have HH5 := Lib.hid (HH4.out.kept hk5 (fun q hq e9 => own_unlike HH4.out.own HT4.out.x (by decide) (by rw [hq, e9]))); clear hX5 hk5; go_frame))
          go_roundg cs1.length
          case measure => omega
          case rel => exact ⟨d4, zs4, cs1, h4, az4, nz4, cz4, a2, cs1.length, c2, ah4, ch4, rfl, rfl, by rw [Hl4.out]; exact HT5.out, HD5.out, Hsn4.out, HC5.out, by rw [Hl4.out]; exact HH5.out, Hn4.out, HR4.out⟩
        · have dg : decide (e.at_ ≤ d1.count) = false := decide_eq_false hgo
          have Hgo := Lib.hid hgo
          clear hgo
          go_upto_region 3 with fail
          refine wp_region_held (S := fun w' => Below wr.heap.size wr w') (by kernel_rfl) ?_
          change wpAnyH _ _ _ _ _ _ _ _ (World.drew _)
          have hS : Below wr.heap.size wr wr.drew := (Below.refl _ _).drew
          refine takeH hS (i := 0) (d := 23) (v := .pointer (some ⟨w.heap.size, 0, none⟩)) rfl rfl (by kernel_rfl) (by kernel_rfl) (by kernel_rfl) (fun _ _ _ h => h) (Or.inl ⟨by kernel_rfl, fun w' hw' => by kernel_rfl⟩) ?_
          refine takeH hS (i := 1) (d := 24) (v := .pointer (some ⟨w.heap.size, 4, none⟩)) rfl rfl (by kernel_rfl) (by kernel_rfl) (by kernel_rfl) (fun _ _ _ h => h) (Or.inl ⟨by kernel_rfl, fun w' hw' => by kernel_rfl⟩) ?_
          refine takeH hS (i := 2) (d := 25) (v := .bool false) rfl rfl (by kernel_rfl) (by kernel_rfl) (by kernel_rfl) (fun _ _ _ h => h) (Or.inl ⟨by kernel_rfl, fun w' hw' => by exact exec_cellv _ rfl ⟨w.heap.size, 4, none⟩ rfl (.bool false) Try.underlying4 rfl (((HX.out.below hw' HX.out.lt).cell 4).trans (Hdn4.out))⟩) ?_
          refine takeH hS (i := 3) (d := 26) (v := .bool true) rfl rfl (by kernel_rfl) (by kernel_rfl) (by kernel_rfl) (fun _ _ _ h => h) (Or.inl ⟨by kernel_rfl, fun w' hw' => by kernel_rfl⟩) ?_
          try go_frame
          refine takeH hS (i := 4) (d := 27) (v := .bool true) rfl rfl (by kernel_rfl) (by kernel_rfl) (by kernel_rfl) (fun _ _ _ h => h) (Or.inl ⟨by kernel_rfl, fun w' hw' => by kernel_rfl⟩) ?_
          refine takeH hS (i := 5) (d := 28) (v := .pointer (some ⟨w.heap.size, 5, none⟩)) rfl rfl (by kernel_rfl) (by kernel_rfl) (by kernel_rfl) (fun _ _ _ h => h) (Or.inl ⟨by kernel_rfl, fun w' hw' => by kernel_rfl⟩) ?_
          refine takeH hS (i := 6) (d := 29) (v := .slice (some ⟨g, off, none⟩) (cs1.length + 1) (cc1)) rfl rfl (by kernel_rfl) (by kernel_rfl) (by kernel_rfl) (fun _ _ _ h => h) (Or.inl ⟨by kernel_rfl, fun w' hw' => by exact exec_cellv _ rfl ⟨w.heap.size, 5, none⟩ rfl (.slice (some ⟨g, off, none⟩) (cs1.length + 1) (cc1)) Try.underlying28 rfl (((HX.out.below hw' HX.out.lt).cell 5).trans (rfl))⟩) ?_
          refine takeH hS (i := 7) (d := 30) (v := .int .i64 ((cs1.length + 1 : Nat))) rfl rfl (by kernel_rfl) (by kernel_rfl) (by kernel_rfl) (fun _ _ _ h => h) (Or.inl ⟨by kernel_rfl, fun w' hw' => by exact exec_len _ rfl Try.underlying28 _ _ _ rfl⟩) ?_
          try go_frame
          refine takeH hS (i := 8) (d := 31) (v := .bool true) rfl rfl (by kernel_rfl) (by kernel_rfl) (by kernel_rfl) (fun _ _ _ h => h) (Or.inl ⟨by kernel_rfl, fun w' hw' => by exact exec_gtr _ _ rfl ((cs1.length + 1 : Nat)) (0) rfl rfl true (dl) rfl⟩) ?_
          refine takeH hS (i := 9) (d := 32) (v := .bool true) rfl rfl (by kernel_rfl) (by kernel_rfl) (by kernel_rfl) (fun _ _ _ h => h) (Or.inl ⟨by kernel_rfl, fun w' hw' => by kernel_rfl⟩) ?_
          refine takeH hS (i := 10) (d := 33) (v := .bool true) rfl rfl (by kernel_rfl) (by kernel_rfl) (by kernel_rfl) (fun _ _ _ h => h) (Or.inl ⟨by kernel_rfl, fun w' hw' => by kernel_rfl⟩) ?_
          refine takeH hS (i := 11) (d := 34) (v := .pointer (some ⟨w.heap.size, 5, none⟩)) rfl rfl (by kernel_rfl) (by kernel_rfl) (by kernel_rfl) (fun _ _ _ h => h) (Or.inl ⟨by kernel_rfl, fun w' hw' => by kernel_rfl⟩) ?_
          try go_frame
          refine takeH hS (i := 12) (d := 35) (v := .slice (some ⟨g, off, none⟩) (cs1.length + 1) (cc1)) rfl rfl (by kernel_rfl) (by kernel_rfl) (by kernel_rfl) (fun _ _ _ h => h) (Or.inl ⟨by kernel_rfl, fun w' hw' => by exact exec_cellv _ rfl ⟨w.heap.size, 5, none⟩ rfl (.slice (some ⟨g, off, none⟩) (cs1.length + 1) (cc1)) Try.underlying28 rfl (((HX.out.below hw' HX.out.lt).cell 5).trans (rfl))⟩) ?_
          refine takeH hS (i := 13) (d := 36) (v := .pointer (some ⟨g, off + 0 * 68, none⟩)) rfl rfl (by kernel_rfl) (by kernel_rfl) (by kernel_rfl) (fun _ _ _ h => h) (Or.inl ⟨by kernel_rfl, fun w' hw' => by exact exec_indexO elE8 _ _ rfl g off (cs1.length + 1) cc1 0 rfl rfl (by omega)⟩) ?_
          refine takeH hS (i := 14) (d := 37) (v := .pointer (some ⟨g, off + 0 * 68, none⟩)) rfl rfl (by kernel_rfl) (by kernel_rfl) (by kernel_rfl) (fun _ _ _ h => h) (Or.inl ⟨by kernel_rfl, fun w' hw' => by kernel_rfl⟩) ?_
          refine takeH hS (i := 15) (d := 38) (v := .int .i64 (e.at_)) rfl rfl (by kernel_rfl) (by kernel_rfl) (by kernel_rfl) (fun _ _ _ h => h) (Or.inl ⟨by kernel_rfl, fun w' hw' => by exact exec_cell _ rfl ⟨g, off + 0 * 68, none⟩ rfl _ Try.underlying3 (Hcx.out w' hw')⟩) ?_
          try go_frame
          refine takeH hS (i := 16) (d := 39) (v := .pointer (some ⟨w.heap.size, 0, none⟩)) rfl rfl (by kernel_rfl) (by kernel_rfl) (by kernel_rfl) (fun _ _ _ h => h) (Or.inl ⟨by kernel_rfl, fun w' hw' => by kernel_rfl⟩) ?_
          refine takeH hS (i := 17) (d := 40) (v := .pointer (some ⟨w.heap.size, 3, none⟩)) rfl rfl (by kernel_rfl) (by kernel_rfl) (by kernel_rfl) (fun _ _ _ h => h) (Or.inl ⟨by kernel_rfl, fun w' hw' => by kernel_rfl⟩) ?_
          refine takeH hS (i := 18) (d := 41) (v := .int .i64 (d1.count)) rfl rfl (by kernel_rfl) (by kernel_rfl) (by kernel_rfl) (fun _ _ _ h => h) (Or.inl ⟨by kernel_rfl, fun w' hw' => by exact exec_cell _ rfl ⟨w.heap.size, 3, none⟩ rfl _ Try.underlying3 (((HX.out.below hw' HX.out.lt).cell 3).trans (rfl))⟩) ?_
          refine takeH hS (i := 19) (d := 42) (v := .bool false) rfl rfl (by kernel_rfl) (by kernel_rfl) (by kernel_rfl) (fun _ _ _ h => h) (Or.inl ⟨by kernel_rfl, fun w' hw' => by exact exec_leq _ _ rfl (e.at_) (d1.count) rfl rfl false (dg) rfl⟩) ?_
          try go_frame
          refine takeH hS (i := 20) (d := 43) (v := .bool false) rfl rfl (by kernel_rfl) (by kernel_rfl) (by kernel_rfl) (fun _ _ _ h => h) (Or.inl ⟨by kernel_rfl, fun w' hw' => by kernel_rfl⟩) ?_
          refine wpAnyH_done (by kernel_rfl) ?_ _
          try go_frame
          have HT1 := Lib.hid (HT.out.below hS)
          have HD1 := Lib.hid (HDr.out.below hS)
          have HC1 := Lib.hid (HCr.out.below hS)
          have HH1 := Lib.hid (HHr.out.below hS)
          have Hw1 := Lib.hid hS
          clear hS HT HDr HCr HHr HX
          generalize wr.drew = w1 at *
          go_wp2_with (first | (refine wpl_load rfl _ rfl (w.heap.size) rfl _ _ _ (HT1.out.x) Try.underlying30 rfl Try.info8D ?_; go_frame) | (refine wpl_store rfl _ _ rfl (w.heap.size + 1) (d8A (dd7 d1) (.slice az1 nz1 cz1) (.slice (some ⟨g, off, none⟩) (cs1.length + 1) cc1) (.slice ah1 h1.length ch1)) rfl rfl _ _ HT1.out.g Try.info8D rfl (d8A_one _ _ _ _ _ _ _ _ _ _) ?_; intro w9 hSg hKg; have HSg := Lib.hid hSg; have HKg := Lib.hid hKg; clear hSg hKg; go_frame))
          have HF := Lib.hid (HT1.out.out HSg.out HKg.out)
          exact bodyPost_ret (v := .agg (d8A (dd7 d1) (.slice az1 nz1 cz1) (.slice (some ⟨g, off, none⟩) (cs1.length + 1) cc1) (.slice ah1 h1.length ch1))) (results_cell_row Try.results27 _ _ (w.heap.size + 1) 30 _ (0, 0) _ rfl HF.out.g Try.underlying30 rfl Try.info8D) rfl (by rw [HR.out.symm.trans (dueF_late (by have := Hgo.out; omega))]; exact ⟨_, _, _, _, _, _, _, rfl, HD1.out.kept HKg.out (fun g hg => ⟨_, _, hg ▸ HT1.out.g, by decide, by decide⟩), HC1.out.kept HKg.out (fun g hg e9 => by obtain ⟨cur, hb⟩ := HC1.out.blk hg; exact Blk.unlike hb HT1.out.g (by decide) e9), HH1.out.kept HKg.out (fun g hg e9 => own_unlike HH1.out.own HT1.out.g (by decide) (by rw [hg, e9])), HF.out.b⟩)
theorem g8due {lo : Nat} {w : World} {d : DvR} {zs : List ZsR} {cs h : List EvR} (zone : Int) (az : Option Addr) (nz cz : Nat) (ac : Option Addr) (cc : Nat) (ah : Option Addr) (ch : Nat) (fl : Bool) (hd : Doc lo w (.slice az nz cz) zs) (sn : Sane d zs) (hc : RdE 83 lo w (.slice ac cs.length cc) cs) (hh : RowE 83 lo w (.slice ah h.length ch) h) (hn : h.length + cs.length ≤ 100000) (hlo : lo ≤ w.heap.size) : Calls Try.prog 27 #[.agg (d8A (dd7 d) (.slice az nz cz) (.slice ac cs.length cc) (.slice ah h.length ch)), .int .i64 zone, .bool fl] w (DuTo lo w (dueD d zs cs h zone fl)) := by
  by_cases hc1 : fl = true ∨ (0 ≤ zone ∧ zone < (zs.length : Int))
  · have hE : dueD d zs cs h zone fl = dueF d zs cs h := by
      unfold dueD
      rw [if_pos (by rcases hc1 with h1 | ⟨h1, h2⟩; exact .inl h1; exact .inr (by unfold dhB; simp; omega))]
    rw [hE]
    exact g8due_l zone az nz cz ac cc ah ch fl hd sn hc hh hn hlo hc1
  · have hf : fl = false := by cases fl with | true => exact absurd (.inl rfl) hc1 | false => rfl
    subst hf
    by_cases h1 : zone < 0
    · exact g8due_a zone az nz cz ac cc ah ch hd sn hc hh hn hlo h1
    · exact g8due_b zone az nz cz ac cc ah ch hd sn hc hh hn hlo (by omega) (by by_cases h2 : (zs.length : Int) ≤ zone; exact h2; exact absurd (.inr ⟨by omega, by omega⟩) hc1)
end Go.Proofs.Ytajkajgnjcnolaa

