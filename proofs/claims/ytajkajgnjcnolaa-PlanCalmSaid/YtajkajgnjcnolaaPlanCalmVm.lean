import Derived.Test.YtajkajgnjcnolaaMo38
import Derived.Test.YtajkajgnjcnolaaMo28
import Derived.RangeFuncFrom
import Derived.Sort.CutIn
namespace Go.Proofs.Ytajkajgnjcnolaa
open Go.RowKit Go.Shelf
attribute [local go_sem] Oper.semAt_some
set_option linter.unusedVariables false
set_option linter.unnecessarySimpa false
set_option linter.unusedSimpArgs false
set_option maxRecDepth 100000 in
set_option maxHeartbeats 8000000 in
theorem pca_n (zones size opn : Int) (a : Option Addr) (len cap : Nat) (w : World) (h : ¬ ((1 ≤ zones ∧ zones ≤ 512) ∧ (1 ≤ size ∧ size ≤ 64) ∧ 1 ≤ opn ∧ opn ≤ 64)) : Calls Try.prog 7 #[.int .i64 zones, .int .i64 size, .int .i64 opn, .slice a len cap] w fun e w' => e = .returned (.bool true) ∧ Below w.heap.size w w' := by
  have H := Lib.hid h
  clear h
  have HB0 := Lib.hid (below_alloc w (Obj.cells #[.bool false] 4))
  have HR0 := Lib.hid (Blk.new w 4 #[.bool false])
  refine calls_marks Try.func7 rfl ?_
  simp only [Try.ntmps7, List.size_toArray, List.length_cons, List.length_nil, Nat.reduceAdd, Nat.reduceSub, Array.replicate_succ, Array.replicate_zero, List.push_toArray, List.append_toArray, List.nil_append, List.cons_append]
  go_upto_region 1 with fail
  generalize w.alloc (Obj.cells #[.bool false] 4) = w0 at *
  go_wp2_with fail
  refine (anchor8_any theDrv w0).mono ?_
  rintro e w1 ⟨rfl, hb⟩
  have HR1 := Lib.hid (HR0.out.below hb HR0.out.lt)
  have HB1 := Lib.hid (bthen' HB0.out hb)
  clear HR0 HB0 hb
  go_wp2_with fail
  refine (started_no theDrv zones size opn w1 H.out).mono ?_
  rintro e w2 ⟨rfl, hb⟩
  have hb2 : Below w2.heap.size w2 (w2.alloc (Obj.cells d8Z 30)) := below_alloc _ _
  have HB2 := Lib.hid (bthen' HB1.out (bthen' hb hb2))
  have HR2 := Lib.hid ((HR1.out.below hb HR1.out.lt).below hb2 (HR1.out.below hb HR1.out.lt).lt)
  clear hb HR1 HB1 hb2
  go_upto_region 4 with (first | (refine wpl_store_new rfl _ _ rfl d8Z w2 30 d8Z rfl rfl rfl Try.info8D rfl d8Z_one ?_; go_frame))
  generalize (w2.alloc (Obj.cells d8Z 30)) = w3 at *
  have cR := blk_one HR2.out
  have fR := (HR2.out).frozen 0
  go_wp2_with fail
  exact leave_marks (Marks.nil w.heap.size _) (fun w' hw' => ⟨_, results_cell1 Try.results7 _ _ ⟨w.heap.size, 0, none⟩ (.bool true) rfl (agg_bool _) (blk_one (hw'.same _ _ _ (blk_set1 (HR2.out) (.bool true)))), rfl, ((HB2.out).setCell (p := ⟨w.heap.size, 0, none⟩) (Nat.le_refl _) _).trans hw'.bel⟩)
set_option maxRecDepth 100000 in
set_option maxHeartbeats 8000000 in
theorem pca_b (n : Nat) (size opn : Int) (a : Option Addr) (len cap : Nat) (w : World) (h1 : 1 ≤ n ∧ n ≤ 512) (h2 : 1 ≤ opn ∧ opn ≤ 64) (h3 : 1 ≤ size ∧ size ≤ 64) (hb : 40 < n) : Calls Try.prog 7 #[.int .i64 (n : Nat), .int .i64 size, .int .i64 opn, .slice a len cap] w fun e w' => e = .returned (.bool true) ∧ Below w.heap.size w w' := by
  have H := Lib.hid hb
  clear hb
  have HB0 := Lib.hid (below_alloc w (Obj.cells #[.bool false] 4))
  have HR0 := Lib.hid (Blk.new w 4 #[.bool false])
  refine calls_marks Try.func7 rfl ?_
  simp only [Try.ntmps7, List.size_toArray, List.length_cons, List.length_nil, Nat.reduceAdd, Nat.reduceSub, Array.replicate_succ, Array.replicate_zero, List.push_toArray, List.append_toArray, List.nil_append, List.cons_append]
  go_upto_region 1 with fail
  generalize w.alloc (Obj.cells #[.bool false] 4) = w0 at *
  go_wp2_with fail
  refine (anchor8_any theDrv w0).mono ?_
  rintro e w1 ⟨rfl, hb⟩
  have HR1 := Lib.hid (HR0.out.below hb HR0.out.lt)
  have HB1 := Lib.hid (bthen' HB0.out hb)
  clear HR0 HB0 hb
  go_wp2_with fail
  refine (started_big theDrv n size opn w1 h1 h2 h3 H.out).mono ?_
  rintro e w2 ⟨rfl, hb⟩
  have hb2 : Below w2.heap.size w2 (w2.alloc (Obj.cells d8Z 30)) := below_alloc _ _
  have HB2 := Lib.hid (bthen' HB1.out (bthen' hb hb2))
  have HR2 := Lib.hid ((HR1.out.below hb HR1.out.lt).below hb2 (HR1.out.below hb HR1.out.lt).lt)
  clear hb HR1 HB1 hb2
  go_upto_region 4 with (first | (refine wpl_store_new rfl _ _ rfl d8Z w2 30 d8Z rfl rfl rfl Try.info8D rfl d8Z_one ?_; go_frame))
  generalize (w2.alloc (Obj.cells d8Z 30)) = w3 at *
  have cR := blk_one HR2.out
  have fR := (HR2.out).frozen 0
  go_wp2_with fail
  exact leave_marks (Marks.nil w.heap.size _) (fun w' hw' => ⟨_, results_cell1 Try.results7 _ _ ⟨w.heap.size, 0, none⟩ (.bool true) rfl (agg_bool _) (blk_one (hw'.same _ _ _ (blk_set1 (HR2.out) (.bool true)))), rfl, ((HB2.out).setCell (p := ⟨w.heap.size, 0, none⟩) (Nat.le_refl _) _).trans hw'.bel⟩)
set_option maxRecDepth 100000 in
set_option maxHeartbeats 8000000 in
theorem pca_l (n : Nat) (size opn : Int) (a : Option Addr) (len cap : Nat) (w : World) (h1 : 1 ≤ n ∧ n ≤ 40) (h2 : 1 ≤ opn ∧ opn ≤ 64) (h3 : 1 ≤ size ∧ size ≤ 64) (hl : 60 < len) : Calls Try.prog 7 #[.int .i64 (n : Nat), .int .i64 size, .int .i64 opn, .slice a len cap] w fun e w' => e = .returned (.bool true) ∧ Below w.heap.size w w' := by
  have dl : decide ((60 : Int) < (len : Int)) = true := decide_eq_true (by omega)
  have HB0 := Lib.hid (below_alloc w (Obj.cells #[.bool false] 4))
  have HR0 := Lib.hid (Blk.new w 4 #[.bool false])
  refine calls_marks Try.func7 rfl ?_
  simp only [Try.ntmps7, List.size_toArray, List.length_cons, List.length_nil, Nat.reduceAdd, Nat.reduceSub, Array.replicate_succ, Array.replicate_zero, List.push_toArray, List.append_toArray, List.nil_append, List.cons_append]
  go_upto_region 1 with fail
  generalize w.alloc (Obj.cells #[.bool false] 4) = w0 at *
  go_wp2_with fail
  refine (anchor8_any theDrv w0).mono ?_
  rintro e w1 ⟨rfl, hb⟩
  have HR1 := Lib.hid (HR0.out.below hb HR0.out.lt)
  have HB1 := Lib.hid (bthen' HB0.out hb)
  clear HR0 HB0 hb
  go_wp2_with fail
  refine (started_ok theDrv (lo := w.heap.size) n size opn w1 h1 h2 h3 HB1.out.size).mono ?_
  rintro e w2 ⟨X, F, az, nz, cz, rfl, hA, hD, hb⟩
  have HR2 := Lib.hid (HR1.out.below hb HR1.out.lt)
  have HnT : Hid (¬ F w.heap.size) := Lib.hid (pdAt.notT hA HR2.out (by decide) (by decide) (by decide) (by decide) (by decide) (by decide))
  go_upto_region 4 with (first | (refine wpl_store_new rfl _ _ rfl (d8A (d70 size opn) (.slice az nz cz) (.slice none 0 0) (.slice none 0 0)) w2 30 d8Z rfl rfl rfl Try.info8D rfl (d8A_one _ _ _ _ _ _ _ _ _ _) ?_; go_frame))
  have hb2 : Below w2.heap.size w2 (w2.alloc (Obj.cells (d8A (d70 size opn) (.slice az nz cz) (.slice none 0 0) (.slice none 0 0)) 30)) := below_alloc _ _
  have hbY : Blk (w2.alloc (Obj.cells (d8A (d70 size opn) (.slice az nz cz) (.slice none 0 0) (.slice none 0 0)) 30)) (w2.heap.size) 30 (d8A (d70 size opn) (.slice az nz cz) (.slice none 0 0) (.slice none 0 0)) := Blk.new w2 30 (d8A (d70 size opn) (.slice az nz cz) (.slice none 0 0) (.slice none 0 0))
  have HJ : Hid (LvM w X (w2.heap.size) (st80 n size opn) F (.slice az nz cz) (.slice none 0 0) (.slice none 0 0) [] (w2.alloc (Obj.cells (d8A (d70 size opn) (.slice az nz cz) (.slice none 0 0) (.slice none 0 0)) 30))) := Lib.hid ⟨⟨theDrv.below hA hb2, hD.below hb2, hbY, (bthen' HB1.out (bthen' hb hb2)), by have := HB1.out.size; have := hb.size; omega⟩, HR2.out.below hb2 HR2.out.lt, HnT.out, Marks.nil _ _, by have := HR2.out.lt; omega⟩
  clear hA hD hb hb2 HB1 HR1 HR2 hbY HnT
  generalize (w2.alloc (Obj.cells (d8A (d70 size opn) (.slice az nz cz) (.slice none 0 0) (.slice none 0 0)) 30)) = W0 at *
  generalize w2.heap.size = Y at *
  have cR := blk_one HJ.out.T
  have fR := (HJ.out.T).frozen 0
  go_wp2_with fail
  exact leave_marks (Marks.nil w.heap.size _) (fun w' hw' => ⟨_, results_cell1 Try.results7 _ _ ⟨w.heap.size, 0, none⟩ (.bool true) rfl (agg_bool _) (blk_one (hw'.same _ _ _ (blk_set1 (HJ.out.T) (.bool true)))), rfl, ((HJ.out.J.B).setCell (p := ⟨w.heap.size, 0, none⟩) (Nat.le_refl _) _).trans hw'.bel⟩)
def frC (g : Nat → Value) : Array Value := ((List.range 82).map g).toArray
theorem frC_of {t : Array Value} (h : t.size = 82) : t = frC (fun i => t.getD i undef) := by
  apply Array.ext'
  apply List.ext_getElem
  · simp [frC, h]
  · intro i h1 h2
    simp only [frC, List.getElem_map, List.getElem_range]
    have h1' : i < t.size := by simpa using h1
    simp [Array.getD, h1']
theorem frC_lit (g : Nat → Value) : frC g = #[g 0, g 1, g 2, g 3, g 4, g 5, g 6, g 7, g 8, g 9, g 10, g 11, g 12, g 13, g 14, g 15, g 16, g 17, g 18, g 19, g 20, g 21, g 22, g 23, g 24, g 25, g 26, g 27, g 28, g 29, g 30, g 31, g 32, g 33, g 34, g 35, g 36, g 37, g 38, g 39, g 40, g 41, g 42, g 43, g 44, g 45, g 46, g 47, g 48, g 49, g 50, g 51, g 52, g 53, g 54, g 55, g 56, g 57, g 58, g 59, g 60, g 61, g 62, g 63, g 64, g 65, g 66, g 67, g 68, g 69, g 70, g 71, g 72, g 73, g 74, g 75, g 76, g 77, g 78, g 79, g 80, g 81] := by kernel_rfl
structure FxC (X Y : Nat) (a : Option Addr) (len cap : Nat) (n0 j : Nat) (g : Nat → Value) : Prop where
  s8 : g 8 = .pointer (some ⟨n0, 0, none⟩)
  s9 : g 9 = .pointer (some ⟨X, 0, none⟩)
  s10 : g 10 = .pointer (some ⟨Y, 0, none⟩)
  s33 : g 33 = .slice a len cap
  s34 : g 34 = .int .i64 (len : Nat)
  s35 : g 35 = .int .i64 (j : Nat)
def RelC (n : Nat) (X Y : Nat) (a : Option Addr) (len cap : Nat) (w : World) (a' : Act) (V : World) : Prop :=
  ∃ (j : Nat) (ds : List Deferred) (g : Nat → Value), a' = { tmps := frC g, defers := ds } ∧ FxC X Y a len cap w.heap.size j g ∧ j ≤ len ∧ ∃ (S : St8) (F : Nat → Prop) (az : Option Addr) (nz cz : Nat) (ac : Option Addr) (cc : Nat) (ah : Option Addr) (ch : Nat), Bd S n j ∧ CalmI S ∧ LvM w X Y S F (.slice az nz cz) (.slice ac S.R.cs.length cc) (.slice ah S.R.h.length ch) ds V
theorem RelC.mk {n : Nat} {X Y : Nat} {a : Option Addr} {len cap : Nat} {w V : World} {t : Array Value} {ds : List Deferred} (j : Nat) (h : t.size = 82) (hf : FxC X Y a len cap w.heap.size j (fun i => t.getD i undef)) (hj : j ≤ len) (hI : ∃ (S : St8) (F : Nat → Prop) (az : Option Addr) (nz cz : Nat) (ac : Option Addr) (cc : Nat) (ah : Option Addr) (ch : Nat), Bd S n j ∧ CalmI S ∧ LvM w X Y S F (.slice az nz cz) (.slice ac S.R.cs.length cc) (.slice ah S.R.h.length ch) ds V) : RelC n X Y a len cap w { tmps := t, defers := ds } V :=
  ⟨j, ds, fun i => t.getD i undef, by rw [← frC_of h], hf, hj, hI⟩
set_option maxRecDepth 100000 in
set_option maxHeartbeats 8000000 in
theorem pca_t (n : Nat) (size opn : Int) (a : Option Addr) (len cap : Nat) (f : Nat → Op8) (w : World) (h1 : 1 ≤ n ∧ n ≤ 40) (h2 : 1 ≤ opn ∧ opn ≤ 64) (h3 : 1 ≤ size ∧ size ≤ 64) (hops : RowOp8 w a len cap f) (hl : len ≤ 60) : Calls Try.prog 7 #[.int .i64 (n : Nat), .int .i64 size, .int .i64 opn, .slice a len cap] w fun e w' => e = .returned (.bool true) ∧ Below w.heap.size w w' := by
  have dl : decide ((60 : Int) < (len : Int)) = false := decide_eq_false (by omega)
  have Hops := Lib.hid hops
  obtain ⟨m1, m2⟩ : len ≤ cap ∧ cap ≤ 9223372036854775807 := by have h := hops.max; unfold maxLen at h; exact ⟨hops.le, h⟩
  clear hops
  have HB0 := Lib.hid (below_alloc w (Obj.cells #[.bool false] 4))
  have HR0 := Lib.hid (Blk.new w 4 #[.bool false])
  refine calls_marks Try.func7 rfl ?_
  simp only [Try.ntmps7, List.size_toArray, List.length_cons, List.length_nil, Nat.reduceAdd, Nat.reduceSub, Array.replicate_succ, Array.replicate_zero, List.push_toArray, List.append_toArray, List.nil_append, List.cons_append]
  go_upto_region 1 with fail
  generalize w.alloc (Obj.cells #[.bool false] 4) = w0 at *
  go_wp2_with fail
  refine (anchor8_any theDrv w0).mono ?_
  rintro e w1 ⟨rfl, hb⟩
  have HR1 := Lib.hid (HR0.out.below hb HR0.out.lt)
  have HB1 := Lib.hid (bthen' HB0.out hb)
  clear HR0 HB0 hb
  go_wp2_with fail
  refine (started_ok theDrv (lo := w.heap.size) n size opn w1 h1 h2 h3 HB1.out.size).mono ?_
  rintro e w2 ⟨X, F, az, nz, cz, rfl, hA, hD, hb⟩
  have HR2 := Lib.hid (HR1.out.below hb HR1.out.lt)
  have HnT : Hid (¬ F w.heap.size) := Lib.hid (pdAt.notT hA HR2.out (by decide) (by decide) (by decide) (by decide) (by decide) (by decide))
  go_upto_region 4 with (first | (refine wpl_store_new rfl _ _ rfl (d8A (d70 size opn) (.slice az nz cz) (.slice none 0 0) (.slice none 0 0)) w2 30 d8Z rfl rfl rfl Try.info8D rfl (d8A_one _ _ _ _ _ _ _ _ _ _) ?_; go_frame))
  have hb2 : Below w2.heap.size w2 (w2.alloc (Obj.cells (d8A (d70 size opn) (.slice az nz cz) (.slice none 0 0) (.slice none 0 0)) 30)) := below_alloc _ _
  have hbY : Blk (w2.alloc (Obj.cells (d8A (d70 size opn) (.slice az nz cz) (.slice none 0 0) (.slice none 0 0)) 30)) (w2.heap.size) 30 (d8A (d70 size opn) (.slice az nz cz) (.slice none 0 0) (.slice none 0 0)) := Blk.new w2 30 (d8A (d70 size opn) (.slice az nz cz) (.slice none 0 0) (.slice none 0 0))
  have HJ : Hid (LvM w X (w2.heap.size) (st80 n size opn) F (.slice az nz cz) (.slice none 0 0) (.slice none 0 0) [] (w2.alloc (Obj.cells (d8A (d70 size opn) (.slice az nz cz) (.slice none 0 0) (.slice none 0 0)) 30))) := Lib.hid ⟨⟨theDrv.below hA hb2, hD.below hb2, hbY, (bthen' HB1.out (bthen' hb hb2)), by have := HB1.out.size; have := hb.size; omega⟩, HR2.out.below hb2 HR2.out.lt, HnT.out, Marks.nil _ _, by have := HR2.out.lt; omega⟩
  clear hA hD hb hb2 HB1 HR1 HR2 hbY HnT
  generalize (w2.alloc (Obj.cells (d8A (d70 size opn) (.slice az nz cz) (.slice none 0 0) (.slice none 0 0)) 30)) = W0 at *
  generalize w2.heap.size = Y at *
  have HBd : Hid (Bd (st80 n size opn) n 0) := Lib.hid ⟨Int.le_refl _, Int.le_refl _, Nat.zero_le _, Nat.zero_le _, List.length_replicate⟩
  have HCa : Hid (CalmI (st80 n size opn)) := Lib.hid ⟨rfl, rfl, rfl, fun _ _ => rfl⟩
  go_wp2_with fail
  refine wp_loop (RelC n X Y a len cap w) (fun a' _ => (len - (intOf (a'.tmps.getD 35 undef)).toNat)) ?start ?round
  case start =>
    exact RelC.mk 0 rfl ⟨rfl, rfl, rfl, rfl, rfl, rfl⟩ (Nat.zero_le _) ⟨st80 n size opn, F, az, nz, cz, none, 0, none, 0, HBd.out, HCa.out, HJ.out⟩
  case round =>
    rintro a' V ⟨j, ds, g, rfl, hfx, hj, S, F, az, nz, cz, ac, cc, ah, ch, hbd, hca, hJ⟩
    rw [frC_lit g]
    simp only [hfx.s8, hfx.s9, hfx.s10, hfx.s33, hfx.s34, hfx.s35]
    clear hfx
    have HJr := Lib.hid hJ
    have HBd := Lib.hid hbd
    have HCa := Lib.hid hca
    clear hbd hca hJ HJ
    by_cases hlt : j < len
    case neg =>
      have hje : j = len := by omega
      have Hev0 : Hid (plE ev0 S.R.cs = 10) := Lib.hid rfl
      have HF0 := Lib.hid (HBd.out.fine (by omega))
      clear hje
      go_wp2_with fail
      refine (theDrv.dev HJr.out.J.at_).mono ?_
      rintro e w6 ⟨D, vz, l, rfl, rfl, hdv, hlz⟩
      have Hdv := Lib.hid hdv
      clear hdv hlz
      go_wp2_with fail
      refine (ddown8 false HCa.out.up Hdv.out).mono ?_
      rintro e w7 ⟨rfl, hb⟩
      have HJ7 := Lib.hid (HJr.out.below hb)
      clear hb HJr Hdv
      go_wp2_with (first | (refine wpl_build (by rfl) 37 _ rfl (.agg (evA ev0)) (fun _ => by kernel_rfl) ?_; go_frame))
      refine (theDrv.pl ev0 ⟨zeros_length 64, zeros_lt 64, by decide⟩ HJ7.out.J.at_ HF0.out).mono ?_
      rw [Hev0.out]
      rintro e w8 ⟨rfl, F8, hA8, hK8, hI8⟩
      have HT8 := Lib.hid (HJ7.out.T.kept hK8 HJ7.out.nT)
      have HB8 : Hid (Below w.heap.size w w8) := Lib.hid (bkept HJ7.out.J.B (Nat.le_refl _) hK8 (fun i hi e9 => by have := theDrv.lov HJ7.out.J.at_ e9; omega))
      have HM8 := Lib.hid (HJ7.out.M.keptF hK8 (fun i hi => pdAt.notdef HJ7.out.J.at_ hi _))
      clear hA8 hK8 hI8 HJ7
      have cR := blk_one HT8.out
      have fR := (HT8.out).frozen 0
      go_wp2_with fail
      exact leave_marks (HM8.out.mono (KeepsOthers.setCell _ _ _)) (fun w' hw' => ⟨_, results_cell1 Try.results7 _ _ ⟨w.heap.size, 0, none⟩ (.bool true) rfl (agg_bool _) (blk_one (hw'.same _ _ _ (blk_set1 (HT8.out) (.bool true)))), rfl, ((HB8.out).setCell (p := ⟨w.heap.size, 0, none⟩) (Nat.le_refl _) _).trans hw'.bel⟩)
    obtain ⟨b, off, rfl, hat, hok⟩ := Hops.out.at_ HJr.out.J.B j hlt
    generalize f j = o at *
    have Ho := Lib.hid hok
    have Hat := Lib.hid hat
    have hOp0 : (zeroValue 39).run Try.prog V = .ok (.agg (op8A op80)) V := by kernel_rfl
    clear hat hok
    go_upto_region 9 with (first | (refine wpl_load_at (by rfl) 39 _ rfl b (off + j * 136) rfl (op8A o) _ Hat.out Try.underlying39 rfl (info_op8 Ho.out.len Ho.out.ev.len) ?_; go_frame) | (refine wpl_store_new rfl _ _ rfl (op8A o) V 39 (op8A op80) rfl rfl rfl (info_op8 Ho.out.len Ho.out.ev.len) (by rw [op8A_size Ho.out.len Ho.out.ev.len, op8A_size (zeros_length 64) (zeros_length 64)]) (op8A_one o) ?_; go_frame))
    have hbO := below_alloc V (Obj.cells (op8A o) 39)
    have HJ1 := Lib.hid (HJr.out.below hbO)
    have HO1 := Lib.hid (Blk.new V 39 (op8A o))
    have HnO : Hid (¬ F V.heap.size ∧ V.heap.size ≠ Y) := Lib.hid ⟨fun hi => Nat.lt_irrefl _ (HJr.out.fresh hi), fun e9 => by have := HJr.out.J.bY.lt; omega⟩
    clear hbO HJr hOp0 Hat
    generalize V.alloc (Obj.cells (op8A o) 39) = wr1 at *
    generalize V.heap.size = Q at *
    have k0 : wr1.cell? ⟨Q, 0, none⟩ = some (.int .i64 o.k) := (HO1.out.cell 0).trans (op8_0 o)
    by_cases h6 : o.k > 6
    case pos =>
      have d6 : decide (o.k > 6) = true := decide_eq_true h6
      clear h6
      go_wp2_with fail
      exact ⟨RelC.mk (j + 1) rfl ⟨rfl, rfl, rfl, rfl, rfl, (show Value.int .i64 ((j : Int) + 1) = .int .i64 ((j + 1 : Nat) : Int) by go_num)⟩ (by omega) ⟨S, F, az, nz, cz, ac, cc, ah, ch, HBd.out.succ, HCa.out, HJ1.out⟩, by simp [intOf]; omega⟩
    have d6 : decide (o.k > 6) = false := decide_eq_false h6
    have H6 : Hid (o.k ≤ 6) := Lib.hid (by omega)
    clear h6
    go_wp2_with (first | (refine wpl_load rfl _ rfl Y rfl _ _ _ (HJ1.out.J.bY) Try.underlying30 rfl Try.info8D ?_; go_frame) | (refine wpl_load rfl _ rfl Q rfl _ _ _ (HO1.out) Try.underlying39 rfl (info_op8 Ho.out.len Ho.out.ev.len) ?_; go_frame))
    refine (st8_all o Ho.out HJ1.out.J.B (Nat.le_refl _) HJ1.out.J.at_ (HBd.out.fine (by omega)) HJ1.out.J.dc HJ1.out.J.B.size).mono ?_
    have hbd2 := HBd.out.next o HJ1.out.J.dc.cs.ok (theDrv.sane HJ1.out.J.at_)
    have hca2 := HCa.out.next o H6.out
    obtain ⟨S2, hS2⟩ : ∃ S2, st8 S o = S2 := ⟨_, rfl⟩
    rw [hS2] at hbd2 hca2 ⊢
    have HBd2 := Lib.hid hbd2
    have HCa2 := Lib.hid hca2
    clear hbd2 hS2 hca2 k0 d6
    rintro e w3 ⟨az2, nz2, cz2, ac2, cc2, ah2, ch2, rfl, hD3, hT3⟩
    have HT3 := Lib.hid hT3
    have HD3 := Lib.hid hD3
    have HY3 : Hid (Blk w3 Y 30 (d8A (dd7 S.R.d) (.slice az nz cz) (.slice ac S.R.cs.length cc) (.slice ah S.R.h.length ch))) := Lib.hid (hT3.blk HJ1.out.J.at_ HJ1.out.J.bY (by decide))
    clear hT3 hD3
    go_upto_region 11 with (first | (refine wpl_store rfl _ _ rfl Y (d8A (dd7 S2.R.d) (.slice az2 nz2 cz2) (.slice ac2 S2.R.cs.length cc2) (.slice ah2 S2.R.h.length ch2)) rfl rfl _ _ HY3.out Try.info8D rfl (d8A_one _ _ _ _ _ _ _ _ _ _) ?_; intro w4 hY4 hK4; have HN4 := Lib.hid (HJ1.out.next HD3.out HT3.out hY4 hK4); clear hY4 hK4; go_frame))
    obtain ⟨F2, hJ4, hn4⟩ := HN4.out
    have HJ4 := Lib.hid hJ4
    obtain ⟨hO4, -⟩ := hn4 Q _ _ HO1.out HnO.out.1 HnO.out.2
    have HO4 := Lib.hid hO4
    clear hJ4 hn4 hO4 HN4 HT3 HD3 HY3 HJ1 HO1
    go_wp2_with fail
    refine (phpd_call (show pdAt w.heap.size w4 X S2 F2 from HJ4.out.J.at_)).mono ?_
    rintro e w5 ⟨rfl, rfl⟩
    have hb8 := below_alloc w4 (Obj.cells #[.pointer (some ⟨X, 0, none⟩)] 24)
    have hBx := Blk.new w4 24 #[.pointer (some ⟨X, 0, none⟩)]
    have hJ5 := HJ4.out.below hb8
    have hO5 := HO4.out.below hb8 HO4.out.lt
    clear hb8 HJ4 HO4
    go_wp2_with fail
    generalize w4.heap.size = bp at *
    generalize w4.alloc (Obj.cells #[.pointer (some ⟨X, 0, none⟩)] 24) = V9 at *
    have hH0 : S2.R.h.length = 0 := by rw [HCa2.out.h]; rfl
    refine wp_rangeK (N := S2.R.h.length) (w0 := V9) rfl (enters_of Try.func49 (by kernel_rfl) rfl) (phpd_gives hJ5.J.at_ hBx (by rw [HCa2.out.h, HCa2.out.cs]; simp)) (fun h k => h.trans k) (KpF.put (fun i hi => hJ5.fresh hi)) (Below.refl _ _) (fun _ => rfl)
      (fun pre W => (LvM w X Y S2 F2 (.slice az2 nz2 cz2) (.slice ac2 S2.R.cs.length cc2) (.slice ah2 S2.R.h.length ch2) ds W ∧ V9.heap.size ≤ W.heap.size) ∧ Blk W Q 39 (op8A o)) (fun _ _ _ => False)
      (OwnFrom.and (LvM.ownF hJ5) (Own.from (blk_own (β := List EvR) _ _ (fun _ => _)) _)) (fun _ => ownFrom_pure' (fun _ => False)) ⟨⟨hJ5, Nat.le_refl _⟩, hO5⟩ ?a2 ?assign2 ?body2 ?done2 ?stop2
    case assign2 =>
      intro l x W K hK
      unfold encV
      gi_wp2
      exact hK
    case stop2 =>
      rintro Dd c9 pre W hD hp h _
      exact h.elim
    case body2 =>
      rintro lb pre x W hI hpl
      exact absurd hpl (by omega)
    case done2 =>
      rintro Dd yz W1 hD rfl ⟨⟨hJ6, _⟩, hO6⟩ hd
      have HM6 := Lib.hid (Marks.cons hJ5.M hJ5.J.B.size hD hd hJ6.M)
      have HJ6 : Hid (LvM w X Y S2 F2 (.slice az2 nz2 cz2) (.slice ac2 S2.R.cs.length cc2) (.slice ah2 S2.R.h.length ch2) ({ target := .collected Dd, args := #[] } :: ds) W1) := Lib.hid ⟨hJ6.J, hJ6.T, hJ6.nT, HM6.out, hJ6.nY⟩
      have HO6 := Lib.hid hO6
      have Hsp : Hid (spV S2 o.z o.off = (zeros 64, 0)) := Lib.hid (by
        unfold spV
        split
        · rfl
        · exact HCa2.out.M _ _)
      have k1 : W1.cell? ⟨Q, 1, none⟩ = some (.int .i64 o.z) := (hO6.cell 1).trans (op8_1 o)
      have k2 : W1.cell? ⟨Q, 2, none⟩ = some (.int .i64 o.off) := (hO6.cell 2).trans (op8_2 o)
      have hz64 := zero_secF
      clear hJ5 hO5 hBx hJ6 hO6 hd HM6 hH0
      generalize ({ target := .collected Dd, args := #[] } :: ds : List Deferred) = ds2 at *
      go_wp2_with fail
      refine (pspt o.z o.off Ho.out.wz Ho.out.wo (show pdAt w.heap.size W1 X S2 F2 from HJ6.out.J.at_)).mono ?_
      rw [Hsp.out]
      rintro e W2 ⟨rfl, hb2⟩
      have HJ7 := Lib.hid (HJ6.out.below hb2)
      clear hb2 k1 k2 HJ6 HO6
      go_upto_region 16 with (first | (refine wpl_store_new rfl _ _ rfl (bA (zeros 64)) W2 34 (bA (zeros 64)) rfl rfl rfl (info_sec (zeros_length 64)) rfl (bA_one _) ?_; go_frame))
      have hb3 := below_alloc W2 (Obj.cells (bA (zeros 64)) 34)
      have HJ8 := Lib.hid (HJ7.out.below hb3)
      have HS8 := Lib.hid (Blk.new W2 34 (bA (zeros 64)))
      clear hb3 HJ7
      generalize W2.alloc (Obj.cells (bA (zeros 64)) 34) = W3 at *
      generalize W2.heap.size = sb at *
      go_wp2_with (first | (refine wpl_load_g (by rfl) _ rfl sb rfl _ _ _ (HS8.out) Try.underlying34 rfl (info_sec (zeros_length 64)) ?_; go_frame) | (refine wpl_build (by rfl) 37 _ rfl (.agg (evA ev0)) (fun _ => by kernel_rfl) ?_; go_frame) | (refine wpl_run (by rfl) (.agg (bA (zeros 64))) (exec_field0 _ rfl rfl) ?_; go_frame) | (refine wpl_run (by rfl) (.bool false) (exec_neq_sector tySec _ _ _ rfl (zeros 64) (zeros 64) rfl rfl (zeros_length 64) (zeros_length 64) false (by simp)) ?_; go_frame))
      exact ⟨RelC.mk (j + 1) rfl ⟨rfl, rfl, rfl, rfl, rfl, (show Value.int .i64 ((j : Int) + 1) = .int .i64 ((j + 1 : Nat) : Int) by go_num)⟩ (by omega) ⟨S2, F2, az2, nz2, cz2, ac2, cc2, ah2, ch2, HBd2.out, HCa2.out, HJ8.out⟩, by simp [intOf]; omega⟩
theorem walkPlanCalm (zones size opn : Int) (a : Option Addr) (len cap : Nat) (f : Nat → Op8) (w : World) (h0 : (Lit.int .i64 zones).wf = true) (h1 : (Lit.int .i64 size).wf = true) (h2 : (Lit.int .i64 opn).wf = true) (h3 : RowOp8 w a len cap f) : Calls Try.prog 7 #[.int .i64 zones, .int .i64 size, .int .i64 opn, .slice a len cap] w fun e w' => e = .returned (.bool true) ∧ Below w.heap.size w w' := by
  by_cases hr : ((1 ≤ zones ∧ zones ≤ 512) ∧ (1 ≤ size ∧ size ≤ 64) ∧ 1 ≤ opn ∧ opn ≤ 64)
  · obtain ⟨⟨r1, r2⟩, ⟨r3, r4⟩, r5, r6⟩ := hr
    obtain ⟨n, rfl⟩ := Int.eq_ofNat_of_zero_le (show 0 ≤ zones by omega)
    by_cases hz : 40 < n
    · exact pca_b n size opn a len cap w ⟨by omega, by omega⟩ ⟨r5, r6⟩ ⟨r3, r4⟩ hz
    · by_cases hl : 60 < len
      · exact pca_l n size opn a len cap w ⟨by omega, by omega⟩ ⟨r5, r6⟩ ⟨r3, r4⟩ hl
      · exact pca_t n size opn a len cap f w ⟨by omega, by omega⟩ ⟨r5, r6⟩ ⟨r3, r4⟩ h3 (by omega)
  · exact pca_n zones size opn a len cap w hr
end Go.Proofs.Ytajkajgnjcnolaa

