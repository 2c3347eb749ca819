import Derived.Test.YtajkajgnjcnolaaMp36
import Derived.RangeFuncFrom
import Derived.Sort.CutIn
import Derived.Deep.CutBlock
import Derived.Deep.CutRange
namespace Go.Proofs.Ytajkajgnjcnolaa
open Go.RowKit Go.Shelf
attribute [local go_sem] Oper.semAt_some
set_option linter.unusedVariables false
set_option linter.unnecessarySimpa false
set_option linter.unusedSimpArgs false
set_option maxRecDepth 100000 in
set_option maxHeartbeats 8000000 in
theorem psp_n (zones size opn : Int) (a : Option Addr) (len cap : Nat) (w : World) (h : ¬ ((1 ≤ zones ∧ zones ≤ 512) ∧ (1 ≤ size ∧ size ≤ 64) ∧ 1 ≤ opn ∧ opn ≤ 64)) : Calls Try.prog 4 #[.int .i64 zones, .int .i64 size, .int .i64 opn, .slice a len cap] w fun e w' => e = .returned (.bool true) ∧ Below w.heap.size w w' := by
  have H := Lib.hid h
  clear h
  have HB0 := Lib.hid (below_alloc w (Obj.cells #[.bool false] 4))
  have HR0 := Lib.hid (Blk.new w 4 #[.bool false])
  refine calls_marks Try.func4 rfl ?_
  simp only [Try.ntmps4, List.size_toArray, List.length_cons, List.length_nil, Nat.reduceAdd, Nat.reduceSub, Array.replicate_succ, Array.replicate_zero, List.push_toArray, List.append_toArray, List.nil_append, List.cons_append]
  go_upto_region 1 with fail
  generalize w.alloc (Obj.cells #[.bool false] 4) = w0 at *
  go_wp2_with fail
  refine (anchor8_any theDrv w0).mono ?_
  rintro e w1 ⟨rfl, hb⟩
  have HR1 := Lib.hid (HR0.out.below hb HR0.out.lt)
  have HB1 := Lib.hid (bthen' HB0.out hb)
  clear HR0 HB0 hb
  go_wp2_with fail
  refine (started_no theDrv zones size opn w1 H.out).mono ?_
  rintro e w2 ⟨rfl, hb⟩
  have hb2 : Below w2.heap.size w2 ((w2.alloc (Obj.cells #[.pointer none] 24)).alloc (Obj.cells d8Z 30)) := bthen (below_alloc _ _) (below_alloc _ _)
  have HB2 := Lib.hid (bthen' HB1.out (bthen' hb hb2))
  have HR2 := Lib.hid ((HR1.out.below hb HR1.out.lt).below hb2 (HR1.out.below hb HR1.out.lt).lt)
  clear hb HR1 HB1 hb2
  go_upto_region 4 with (first | (refine wpl_store_new rfl _ _ rfl d8Z (w2.alloc (Obj.cells #[.pointer none] 24)) 30 d8Z rfl (by rw [World.size_alloc]; rfl) rfl Try.info8D rfl d8Z_one ?_; go_frame))
  generalize ((w2.alloc (Obj.cells #[.pointer none] 24)).alloc (Obj.cells d8Z 30)) = w3 at *
  have cR := blk_one HR2.out
  have fR := (HR2.out).frozen 0
  go_wp2_with fail
  exact leave_marks (Marks.nil w.heap.size _) (fun w' hw' => ⟨_, results_cell1 Try.results4 _ _ ⟨w.heap.size, 0, none⟩ (.bool true) rfl (agg_bool _) (blk_one (hw'.same _ _ _ (blk_set1 (HR2.out) (.bool true)))), rfl, ((HB2.out).setCell (p := ⟨w.heap.size, 0, none⟩) (Nat.le_refl _) _).trans hw'.bel⟩)
set_option maxRecDepth 100000 in
set_option maxHeartbeats 8000000 in
theorem psp_b (n : Nat) (size opn : Int) (a : Option Addr) (len cap : Nat) (w : World) (h1 : 1 ≤ n ∧ n ≤ 512) (h2 : 1 ≤ opn ∧ opn ≤ 64) (h3 : 1 ≤ size ∧ size ≤ 64) (hb : 40 < n) : Calls Try.prog 4 #[.int .i64 (n : Nat), .int .i64 size, .int .i64 opn, .slice a len cap] w fun e w' => e = .returned (.bool true) ∧ Below w.heap.size w w' := by
  have H := Lib.hid hb
  clear hb
  have HB0 := Lib.hid (below_alloc w (Obj.cells #[.bool false] 4))
  have HR0 := Lib.hid (Blk.new w 4 #[.bool false])
  refine calls_marks Try.func4 rfl ?_
  simp only [Try.ntmps4, List.size_toArray, List.length_cons, List.length_nil, Nat.reduceAdd, Nat.reduceSub, Array.replicate_succ, Array.replicate_zero, List.push_toArray, List.append_toArray, List.nil_append, List.cons_append]
  go_upto_region 1 with fail
  generalize w.alloc (Obj.cells #[.bool false] 4) = w0 at *
  go_wp2_with fail
  refine (anchor8_any theDrv w0).mono ?_
  rintro e w1 ⟨rfl, hb⟩
  have HR1 := Lib.hid (HR0.out.below hb HR0.out.lt)
  have HB1 := Lib.hid (bthen' HB0.out hb)
  clear HR0 HB0 hb
  go_wp2_with fail
  refine (started_big theDrv n size opn w1 h1 h2 h3 H.out).mono ?_
  rintro e w2 ⟨rfl, hb⟩
  have hb2 : Below w2.heap.size w2 ((w2.alloc (Obj.cells #[.pointer none] 24)).alloc (Obj.cells d8Z 30)) := bthen (below_alloc _ _) (below_alloc _ _)
  have HB2 := Lib.hid (bthen' HB1.out (bthen' hb hb2))
  have HR2 := Lib.hid ((HR1.out.below hb HR1.out.lt).below hb2 (HR1.out.below hb HR1.out.lt).lt)
  clear hb HR1 HB1 hb2
  go_upto_region 4 with (first | (refine wpl_store_new rfl _ _ rfl d8Z (w2.alloc (Obj.cells #[.pointer none] 24)) 30 d8Z rfl (by rw [World.size_alloc]; rfl) rfl Try.info8D rfl d8Z_one ?_; go_frame))
  generalize ((w2.alloc (Obj.cells #[.pointer none] 24)).alloc (Obj.cells d8Z 30)) = w3 at *
  have cR := blk_one HR2.out
  have fR := (HR2.out).frozen 0
  go_wp2_with fail
  exact leave_marks (Marks.nil w.heap.size _) (fun w' hw' => ⟨_, results_cell1 Try.results4 _ _ ⟨w.heap.size, 0, none⟩ (.bool true) rfl (agg_bool _) (blk_one (hw'.same _ _ _ (blk_set1 (HR2.out) (.bool true)))), rfl, ((HB2.out).setCell (p := ⟨w.heap.size, 0, none⟩) (Nat.le_refl _) _).trans hw'.bel⟩)
set_option maxRecDepth 100000 in
set_option maxHeartbeats 8000000 in
theorem psp_l (n : Nat) (size opn : Int) (a : Option Addr) (len cap : Nat) (w : World) (h1 : 1 ≤ n ∧ n ≤ 40) (h2 : 1 ≤ opn ∧ opn ≤ 64) (h3 : 1 ≤ size ∧ size ≤ 64) (hl : 60 < len) : Calls Try.prog 4 #[.int .i64 (n : Nat), .int .i64 size, .int .i64 opn, .slice a len cap] w fun e w' => e = .returned (.bool true) ∧ Below w.heap.size w w' := by
  have dl : decide ((60 : Int) < (len : Int)) = true := decide_eq_true (by omega)
  have HB0 := Lib.hid (below_alloc w (Obj.cells #[.bool false] 4))
  have HR0 := Lib.hid (Blk.new w 4 #[.bool false])
  refine calls_marks Try.func4 rfl ?_
  simp only [Try.ntmps4, List.size_toArray, List.length_cons, List.length_nil, Nat.reduceAdd, Nat.reduceSub, Array.replicate_succ, Array.replicate_zero, List.push_toArray, List.append_toArray, List.nil_append, List.cons_append]
  go_upto_region 1 with fail
  generalize w.alloc (Obj.cells #[.bool false] 4) = w0 at *
  go_wp2_with fail
  refine (anchor8_any theDrv w0).mono ?_
  rintro e w1 ⟨rfl, hb⟩
  have HR1 := Lib.hid (HR0.out.below hb HR0.out.lt)
  have HB1 := Lib.hid (bthen' HB0.out hb)
  clear HR0 HB0 hb
  go_wp2_with fail
  refine (started_ok theDrv (lo := w.heap.size) n size opn w1 h1 h2 h3 HB1.out.size).mono ?_
  rintro e w2 ⟨X, F, az, nz, cz, rfl, hA, hD, hb⟩
  have HR2 := Lib.hid (HR1.out.below hb HR1.out.lt)
  have HnT : Hid (¬ F w.heap.size) := Lib.hid (pdAt.notT hA HR2.out (by decide) (by decide) (by decide) (by decide) (by decide) (by decide))
  go_upto_region 4 with (first | (refine wpl_store_new rfl _ _ rfl (d8A (d70 size opn) (.slice az nz cz) (.slice none 0 0) (.slice none 0 0)) (w2.alloc (Obj.cells #[.pointer (some ⟨X, 0, none⟩)] 24)) 30 d8Z rfl (by rw [World.size_alloc]; rfl) rfl Try.info8D rfl (d8A_one _ _ _ _ _ _ _ _ _ _) ?_; go_frame))
  have hbx := below_alloc w2 (Obj.cells #[.pointer (some ⟨X, 0, none⟩)] 24)
  have HDb : Hid (Blk ((w2.alloc (Obj.cells #[.pointer (some ⟨X, 0, none⟩)] 24)).alloc (Obj.cells (d8A (d70 size opn) (.slice az nz cz) (.slice none 0 0) (.slice none 0 0)) 30)) w2.heap.size 24 #[.pointer (some ⟨X, 0, none⟩)]) := Lib.hid ((Blk.new w2 24 #[.pointer (some ⟨X, 0, none⟩)]).alloc _)
  have HnD : Hid (¬ F w2.heap.size) := Lib.hid (fun hi => Nat.lt_irrefl _ (theDrv.lt hA hi))
  have hb2 : Below w2.heap.size w2 ((w2.alloc (Obj.cells #[.pointer (some ⟨X, 0, none⟩)] 24)).alloc (Obj.cells (d8A (d70 size opn) (.slice az nz cz) (.slice none 0 0) (.slice none 0 0)) 30)) := bthen hbx (below_alloc _ _)
  have hbY : Blk ((w2.alloc (Obj.cells #[.pointer (some ⟨X, 0, none⟩)] 24)).alloc (Obj.cells (d8A (d70 size opn) (.slice az nz cz) (.slice none 0 0) (.slice none 0 0)) 30)) (w2.heap.size + 1) 30 (d8A (d70 size opn) (.slice az nz cz) (.slice none 0 0) (.slice none 0 0)) := by
    have h9 := Blk.new (w2.alloc (Obj.cells #[.pointer (some ⟨X, 0, none⟩)] 24)) 30 (d8A (d70 size opn) (.slice az nz cz) (.slice none 0 0) (.slice none 0 0))
    rwa [show (w2.alloc (Obj.cells #[.pointer (some ⟨X, 0, none⟩)] 24)).heap.size = w2.heap.size + 1 by simp] at h9
  have HJ : Hid (LvM w X (w2.heap.size + 1) (st80 n size opn) F (.slice az nz cz) (.slice none 0 0) (.slice none 0 0) [] ((w2.alloc (Obj.cells #[.pointer (some ⟨X, 0, none⟩)] 24)).alloc (Obj.cells (d8A (d70 size opn) (.slice az nz cz) (.slice none 0 0) (.slice none 0 0)) 30))) := Lib.hid ⟨⟨theDrv.below hA hb2, hD.below hb2, hbY, (bthen' HB1.out (bthen' hb hb2)), by have := HB1.out.size; have := hb.size; omega⟩, HR2.out.below hb2 HR2.out.lt, HnT.out, Marks.nil _ _, by have := HR2.out.lt; omega⟩
  have HnY : Hid (w2.heap.size ≠ w2.heap.size + 1 ∧ w.heap.size < w2.heap.size) := Lib.hid ⟨by omega, HR2.out.lt⟩
  clear hA hD hb hb2 HB1 HR1 HR2 hbY HnT hbx
  generalize ((w2.alloc (Obj.cells #[.pointer (some ⟨X, 0, none⟩)] 24)).alloc (Obj.cells (d8A (d70 size opn) (.slice az nz cz) (.slice none 0 0) (.slice none 0 0)) 30)) = W0 at *
  generalize w2.heap.size + 1 = Y at *
  generalize w2.heap.size = xb at *
  have cR := blk_one HJ.out.T
  have fR := (HJ.out.T).frozen 0
  go_wp2_with fail
  exact leave_marks (Marks.nil w.heap.size _) (fun w' hw' => ⟨_, results_cell1 Try.results4 _ _ ⟨w.heap.size, 0, none⟩ (.bool true) rfl (agg_bool _) (blk_one (hw'.same _ _ _ (blk_set1 (HJ.out.T) (.bool true)))), rfl, ((HJ.out.J.B).setCell (p := ⟨w.heap.size, 0, none⟩) (Nat.le_refl _) _).trans hw'.bel⟩)
def frT (g : Nat → Value) : Array Value := ((List.range 143).map g).toArray
theorem frT_of {t : Array Value} (h : t.size = 143) : t = frT (fun i => t.getD i undef) := by
  apply Array.ext'
  apply List.ext_getElem
  · simp [frT, h]
  · intro i h1 h2
    simp only [frT, List.getElem_map, List.getElem_range]
    have h1' : i < t.size := by simpa using h1
    simp [Array.getD, h1']
theorem frT_lit (g : Nat → Value) : frT g = #[g 0, g 1, g 2, g 3, g 4, g 5, g 6, g 7, g 8, g 9, g 10, g 11, g 12, g 13, g 14, g 15, g 16, g 17, g 18, g 19, g 20, g 21, g 22, g 23, g 24, g 25, g 26, g 27, g 28, g 29, g 30, g 31, g 32, g 33, g 34, g 35, g 36, g 37, g 38, g 39, g 40, g 41, g 42, g 43, g 44, g 45, g 46, g 47, g 48, g 49, g 50, g 51, g 52, g 53, g 54, g 55, g 56, g 57, g 58, g 59, g 60, g 61, g 62, g 63, g 64, g 65, g 66, g 67, g 68, g 69, g 70, g 71, g 72, g 73, g 74, g 75, g 76, g 77, g 78, g 79, g 80, g 81, g 82, g 83, g 84, g 85, g 86, g 87, g 88, g 89, g 90, g 91, g 92, g 93, g 94, g 95, g 96, g 97, g 98, g 99, g 100, g 101, g 102, g 103, g 104, g 105, g 106, g 107, g 108, g 109, g 110, g 111, g 112, g 113, g 114, g 115, g 116, g 117, g 118, g 119, g 120, g 121, g 122, g 123, g 124, g 125, g 126, g 127, g 128, g 129, g 130, g 131, g 132, g 133, g 134, g 135, g 136, g 137, g 138, g 139, g 140, g 141, g 142] := by kernel_rfl
structure FxT (n xb Y bw : Nat) (a : Option Addr) (len cap : Nat) (n0 j : Nat) (g : Nat → Value) : Prop where
  s0 : g 0 = .int .i64 (n : Nat)
  s8 : g 8 = .pointer (some ⟨n0, 0, none⟩)
  s9 : g 9 = .pointer (some ⟨xb, 0, none⟩)
  s10 : g 10 = .pointer (some ⟨Y, 0, none⟩)
  s12 : g 12 = .pointer (some ⟨bw, 0, none⟩)
  s42 : g 42 = .slice a len cap
  s43 : g 43 = .int .i64 (len : Nat)
  s44 : g 44 = .int .i64 (j : Nat)
structure FxZ (n xb Y bw : Nat) (a : Option Addr) (len cap : Nat) (Q j : Nat) (n0 i : Nat) (g : Nat → Value) : Prop where
  s0 : g 0 = .int .i64 (n : Nat)
  s8 : g 8 = .pointer (some ⟨n0, 0, none⟩)
  s9 : g 9 = .pointer (some ⟨xb, 0, none⟩)
  s10 : g 10 = .pointer (some ⟨Y, 0, none⟩)
  s12 : g 12 = .pointer (some ⟨bw, 0, none⟩)
  s14 : g 14 = .pointer (some ⟨Q, 0, none⟩)
  s42 : g 42 = .slice a len cap
  s43 : g 43 = .int .i64 (len : Nat)
  s44 : g 44 = .int .i64 (j : Nat)
  s57 : g 57 = .int .i64 (n : Nat)
  s58 : g 58 = .int .i64 (i : Nat)
def RelT (X G : Nat) (n xb Y bw : Nat) (a : Option Addr) (len cap : Nat) (w : World) (a' : Act) (V : World) : Prop :=
  ∃ (j : Nat) (ds : List Deferred) (g : Nat → Value), a' = { tmps := frT g, defers := ds } ∧ FxT n xb Y bw a len cap w.heap.size j g ∧ j ≤ len ∧ ∃ (S : St8) (F : Nat → Prop) (Wr : List (List (List Nat))) (vs : List Value) (az : Option Addr) (nz cz : Nat) (ac : Option Addr) (cc : Nat) (ah : Option Addr) (ch : Nat), Bd S n j ∧ SpI S.R.zs Wr S.M ∧ LvM w X Y S F (.slice az nz cz) (.slice ac S.R.cs.length cc) (.slice ah S.R.h.length ch) ds V ∧ WrAt w.heap.size bw G vs Wr F Y V ∧ Blk V xb 24 #[.pointer (some ⟨X, 0, none⟩)] ∧ ¬ F xb
theorem RelT.mk {X G : Nat} {n xb Y bw : Nat} {a : Option Addr} {len cap : Nat} {w V : World} {t : Array Value} {ds : List Deferred} (j : Nat) (h : t.size = 143) (hf : FxT n xb Y bw a len cap w.heap.size j (fun i => t.getD i undef)) (hj : j ≤ len) (hI : ∃ (S : St8) (F : Nat → Prop) (Wr : List (List (List Nat))) (vs : List Value) (az : Option Addr) (nz cz : Nat) (ac : Option Addr) (cc : Nat) (ah : Option Addr) (ch : Nat), Bd S n j ∧ SpI S.R.zs Wr S.M ∧ LvM w X Y S F (.slice az nz cz) (.slice ac S.R.cs.length cc) (.slice ah S.R.h.length ch) ds V ∧ WrAt w.heap.size bw G vs Wr F Y V ∧ Blk V xb 24 #[.pointer (some ⟨X, 0, none⟩)] ∧ ¬ F xb) : RelT X G n xb Y bw a len cap w { tmps := t, defers := ds } V :=
  ⟨j, ds, fun i => t.getD i undef, by rw [← frT_of h], hf, hj, hI⟩
structure ZnI (w : World) (X Y xb bw G Q : Nat) (S : St8) (F : Nat → Prop) (v1 v2 v3 : Value) (o : Op8) (U : List (List (List Nat))) (ds : List Deferred) (V : World) : Prop where
  J : LvM w X Y S F v1 v2 v3 ds V
  W : ∃ vs, WrAt w.heap.size bw G vs U F Y V
  D : Blk V xb 24 #[.pointer (some ⟨X, 0, none⟩)]
  O : Blk V Q 39 (op8A o)
theorem ZnI.below {w : World} {X Y xb bw G Q : Nat} {S : St8} {F : Nat → Prop} {v1 v2 v3 : Value} {o : Op8} {U : List (List (List Nat))} {ds : List Deferred} {V V' : World} (h : ZnI w X Y xb bw G Q S F v1 v2 v3 o U ds V) (hb : Below V.heap.size V V') : ZnI w X Y xb bw G Q S F v1 v2 v3 o U ds V' := by
  obtain ⟨vs, hW⟩ := h.W
  exact ⟨h.J.below hb, ⟨vs, hW.below hb⟩, h.D.below hb h.D.lt, h.O.below hb h.O.lt⟩
def RelZ (X G : Nat) (n xb Y bw : Nat) (a : Option Addr) (len cap : Nat) (Q j : Nat) (S : St8) (F : Nat → Prop) (v1 v2 v3 : Value) (o : Op8) (Wr : List (List (List Nat))) (w : World) (a' : Act) (V : World) : Prop :=
  ∃ (i : Nat) (ds : List Deferred) (g : Nat → Value), a' = { tmps := frT g, defers := ds } ∧ FxZ n xb Y bw a len cap Q j w.heap.size i g ∧ i ≤ n ∧ ZnI w X Y xb bw G Q S F v1 v2 v3 o (updP o.s S.R.zs Wr i) ds V
theorem RelZ.mk {X G : Nat} {n xb Y bw : Nat} {a : Option Addr} {len cap : Nat} {Q j : Nat} {S : St8} {F : Nat → Prop} {v1 v2 v3 : Value} {o : Op8} {Wr : List (List (List Nat))} {w V : World} {t : Array Value} {ds : List Deferred} (i : Nat) (h : t.size = 143) (hf : FxZ n xb Y bw a len cap Q j w.heap.size i (fun i => t.getD i undef)) (hi : i ≤ n) (hI : ZnI w X Y xb bw G Q S F v1 v2 v3 o (updP o.s S.R.zs Wr i) ds V) : RelZ X G n xb Y bw a len cap Q j S F v1 v2 v3 o Wr w { tmps := t, defers := ds } V :=
  ⟨i, ds, fun i => t.getD i undef, by rw [← frT_of h], hf, hi, hI⟩
set_option maxRecDepth 100000 in
set_option maxHeartbeats 8000000 in
theorem psp_t (n : Nat) (size opn : Int) (a : Option Addr) (len cap : Nat) (f : Nat → Op8) (w : World) (h1 : 1 ≤ n ∧ n ≤ 40) (h2 : 1 ≤ opn ∧ opn ≤ 64) (h3 : 1 ≤ size ∧ size ≤ 64) (hops : RowOp8 w a len cap f) (hl : len ≤ 60) : Calls Try.prog 4 #[.int .i64 (n : Nat), .int .i64 size, .int .i64 opn, .slice a len cap] w fun e w' => e = .returned (.bool true) ∧ Below w.heap.size w w' := by
  have dl : decide ((60 : Int) < (len : Int)) = false := decide_eq_false (by omega)
  have Hops := Lib.hid hops
  obtain ⟨m1, m2⟩ : len ≤ cap ∧ cap ≤ 9223372036854775807 := by have h := hops.max; unfold maxLen at h; exact ⟨hops.le, h⟩
  clear hops
  have HB0 := Lib.hid (below_alloc w (Obj.cells #[.bool false] 4))
  have HR0 := Lib.hid (Blk.new w 4 #[.bool false])
  refine calls_marks Try.func4 rfl ?_
  simp only [Try.ntmps4, List.size_toArray, List.length_cons, List.length_nil, Nat.reduceAdd, Nat.reduceSub, Array.replicate_succ, Array.replicate_zero, List.push_toArray, List.append_toArray, List.nil_append, List.cons_append]
  go_upto_region 1 with fail
  generalize w.alloc (Obj.cells #[.bool false] 4) = w0 at *
  go_wp2_with fail
  refine (anchor8_any theDrv w0).mono ?_
  rintro e w1 ⟨rfl, hb⟩
  have HR1 := Lib.hid (HR0.out.below hb HR0.out.lt)
  have HB1 := Lib.hid (bthen' HB0.out hb)
  clear HR0 HB0 hb
  go_wp2_with fail
  refine (started_ok theDrv (lo := w.heap.size) n size opn w1 h1 h2 h3 HB1.out.size).mono ?_
  rintro e w2 ⟨X, F, az, nz, cz, rfl, hA, hD, hb⟩
  have HR2 := Lib.hid (HR1.out.below hb HR1.out.lt)
  have HnT : Hid (¬ F w.heap.size) := Lib.hid (pdAt.notT hA HR2.out (by decide) (by decide) (by decide) (by decide) (by decide) (by decide))
  go_upto_region 4 with (first | (refine wpl_store_new rfl _ _ rfl (d8A (d70 size opn) (.slice az nz cz) (.slice none 0 0) (.slice none 0 0)) (w2.alloc (Obj.cells #[.pointer (some ⟨X, 0, none⟩)] 24)) 30 d8Z rfl (by rw [World.size_alloc]; rfl) rfl Try.info8D rfl (d8A_one _ _ _ _ _ _ _ _ _ _) ?_; go_frame))
  have hbx := below_alloc w2 (Obj.cells #[.pointer (some ⟨X, 0, none⟩)] 24)
  have HDb : Hid (Blk ((w2.alloc (Obj.cells #[.pointer (some ⟨X, 0, none⟩)] 24)).alloc (Obj.cells (d8A (d70 size opn) (.slice az nz cz) (.slice none 0 0) (.slice none 0 0)) 30)) w2.heap.size 24 #[.pointer (some ⟨X, 0, none⟩)]) := Lib.hid ((Blk.new w2 24 #[.pointer (some ⟨X, 0, none⟩)]).alloc _)
  have HnD : Hid (¬ F w2.heap.size) := Lib.hid (fun hi => Nat.lt_irrefl _ (theDrv.lt hA hi))
  have hb2 : Below w2.heap.size w2 ((w2.alloc (Obj.cells #[.pointer (some ⟨X, 0, none⟩)] 24)).alloc (Obj.cells (d8A (d70 size opn) (.slice az nz cz) (.slice none 0 0) (.slice none 0 0)) 30)) := bthen hbx (below_alloc _ _)
  have hbY : Blk ((w2.alloc (Obj.cells #[.pointer (some ⟨X, 0, none⟩)] 24)).alloc (Obj.cells (d8A (d70 size opn) (.slice az nz cz) (.slice none 0 0) (.slice none 0 0)) 30)) (w2.heap.size + 1) 30 (d8A (d70 size opn) (.slice az nz cz) (.slice none 0 0) (.slice none 0 0)) := by
    have h9 := Blk.new (w2.alloc (Obj.cells #[.pointer (some ⟨X, 0, none⟩)] 24)) 30 (d8A (d70 size opn) (.slice az nz cz) (.slice none 0 0) (.slice none 0 0))
    rwa [show (w2.alloc (Obj.cells #[.pointer (some ⟨X, 0, none⟩)] 24)).heap.size = w2.heap.size + 1 by simp] at h9
  have HJ : Hid (LvM w X (w2.heap.size + 1) (st80 n size opn) F (.slice az nz cz) (.slice none 0 0) (.slice none 0 0) [] ((w2.alloc (Obj.cells #[.pointer (some ⟨X, 0, none⟩)] 24)).alloc (Obj.cells (d8A (d70 size opn) (.slice az nz cz) (.slice none 0 0) (.slice none 0 0)) 30))) := Lib.hid ⟨⟨theDrv.below hA hb2, hD.below hb2, hbY, (bthen' HB1.out (bthen' hb hb2)), by have := HB1.out.size; have := hb.size; omega⟩, HR2.out.below hb2 HR2.out.lt, HnT.out, Marks.nil _ _, by have := HR2.out.lt; omega⟩
  have HnY : Hid (w2.heap.size ≠ w2.heap.size + 1 ∧ w.heap.size < w2.heap.size) := Lib.hid ⟨by omega, HR2.out.lt⟩
  clear hA hD hb hb2 HB1 HR1 HR2 hbY HnT hbx
  generalize ((w2.alloc (Obj.cells #[.pointer (some ⟨X, 0, none⟩)] 24)).alloc (Obj.cells (d8A (d70 size opn) (.slice az nz cz) (.slice none 0 0) (.slice none 0 0)) 30)) = W0 at *
  generalize w2.heap.size + 1 = Y at *
  generalize w2.heap.size = xb at *
  have HBd : Hid (Bd (st80 n size opn) n 0) := Lib.hid ⟨Int.le_refl _, Int.le_refl _, Nat.zero_le _, Nat.zero_le _, List.length_replicate⟩
  have HSp := Lib.hid (SpI.start n size opn)
  have HnY2 : Hid (xb ≠ Y ∧ w.heap.size < xb) := HnY
  clear HnY
  have hmk := run_makeW W0 n (by omega)
  obtain ⟨A0, hA0⟩ : ∃ A0 : Array Value, A0 = (List.replicate n (.slice none 0 0)).toArray := ⟨_, rfl⟩
  rw [← hA0] at hmk
  have HA0 := Lib.hid hA0
  clear hA0
  go_upto_region 7 with fail
  clear hmk
  have hbg := below_alloc W0 (Obj.cells A0 48)
  have hbb := below_alloc (W0.alloc (Obj.cells A0 48)) (Obj.cells #[.slice (some ⟨W0.heap.size, 0, none⟩) n n] 44)
  have hbx := Blk.new (W0.alloc (Obj.cells A0 48)) 44 #[.slice (some ⟨W0.heap.size, 0, none⟩) n n]
  rw [World.size_alloc] at hbx
  have HW0 : Hid (WrAt w.heap.size (W0.heap.size + 1) W0.heap.size (List.replicate n (.slice none 0 0)) (List.replicate n []) F Y ((W0.alloc (Obj.cells A0 48)).alloc (Obj.cells #[.slice (some ⟨W0.heap.size, 0, none⟩) n n] 44))) := Lib.hid (WrAt.start n hbx (by rw [← HA0.out]; exact (Blk.new W0 48 A0).alloc _)
    ⟨fun hi => by have := HJ.out.fresh hi; omega, fun hi => by have := HJ.out.fresh hi; omega⟩ ⟨by have := HJ.out.J.bY.lt; omega, by have := HJ.out.J.bY.lt; omega⟩ ⟨by have := HJ.out.T.lt; omega, by have := HJ.out.T.lt; omega⟩)
  have HJ0 := Lib.hid (HJ.out.below (bthen' hbg hbb))
  have HDb0 := Lib.hid (HDb.out.below (bthen' hbg hbb) HDb.out.lt)
  clear hbg hbb hbx HJ HDb
  generalize (W0.alloc (Obj.cells A0 48)).alloc (Obj.cells #[.slice (some ⟨W0.heap.size, 0, none⟩) n n] 44) = W9 at *
  generalize W0.heap.size + 1 = bw at *
  generalize W0.heap.size = G at *
  go_wp2_with fail
  refine wp_loop (RelT X G n xb Y bw a len cap w) (fun a' _ => (len - (intOf (a'.tmps.getD 44 undef)).toNat)) ?start ?round
  case start =>
    exact RelT.mk 0 rfl ⟨rfl, rfl, rfl, rfl, rfl, rfl, rfl, rfl⟩ (Nat.zero_le _) ⟨st80 n size opn, F, _, _, az, nz, cz, none, 0, none, 0, HBd.out, HSp.out, HJ0.out, HW0.out, HDb0.out, HnD.out⟩
  case round =>
    rintro a' V ⟨j, ds, g, rfl, hfx, hj, S, F, Wr, vs, az, nz, cz, ac, cc, ah, ch, hbd, hsp, hJ, hW, hDb, hnD⟩
    rw [frT_lit g]
    simp only [hfx.s0, hfx.s8, hfx.s9, hfx.s10, hfx.s12, hfx.s42, hfx.s43, hfx.s44]
    clear hfx
    have HJr := Lib.hid hJ
    have HBd := Lib.hid hbd
    have HSp := Lib.hid hsp
    have HDr := Lib.hid hDb
    have HnDr := Lib.hid hnD
    have HWr := Lib.hid hW
    clear hbd hsp hJ hDb hnD hW HJ0 HW0 HDb0 HnD
    by_cases hlt : j < len
    case neg =>
      have hje : j = len := by omega
      clear hje
      have cR := blk_one HJr.out.T
      have fR := (HJr.out.T).frozen 0
      go_wp2_with fail
      exact leave_marks (HJr.out.M.mono (KeepsOthers.setCell _ _ _)) (fun w' hw' => ⟨_, results_cell1 Try.results4 _ _ ⟨w.heap.size, 0, none⟩ (.bool true) rfl (agg_bool _) (blk_one (hw'.same _ _ _ (blk_set1 (HJr.out.T) (.bool true)))), rfl, ((HJr.out.J.B).setCell (p := ⟨w.heap.size, 0, none⟩) (Nat.le_refl _) _).trans hw'.bel⟩)
    obtain ⟨b, off, rfl, hat, hok⟩ := Hops.out.at_ HJr.out.J.B j hlt
    generalize f j = o at *
    have Ho := Lib.hid hok
    have Hat := Lib.hid hat
    have hOp0 : (zeroValue 39).run Try.prog V = .ok (.agg (op8A op80)) V := by kernel_rfl
    clear hat hok
    go_upto_region 10 with (first | (refine wpl_load_at (by rfl) 39 _ rfl b (off + j * 136) rfl (op8A o) _ Hat.out Try.underlying39 rfl (info_op8 Ho.out.len Ho.out.ev.len) ?_; go_frame) | (refine wpl_store_new rfl _ _ rfl (op8A o) V 39 (op8A op80) rfl rfl rfl (info_op8 Ho.out.len Ho.out.ev.len) (by rw [op8A_size Ho.out.len Ho.out.ev.len, op8A_size (zeros_length 64) (zeros_length 64)]) (op8A_one o) ?_; go_frame))
    have hbO := below_alloc V (Obj.cells (op8A o) 39)
    have HJ1 := Lib.hid (HJr.out.below hbO)
    have HO1 := Lib.hid (Blk.new V 39 (op8A o))
    have HD1 := Lib.hid (HDr.out.below hbO HDr.out.lt)
    have HW1 := Lib.hid (HWr.out.below hbO)
    have HnO : Hid (¬ F V.heap.size ∧ V.heap.size ≠ Y) := Lib.hid ⟨fun hi => Nat.lt_irrefl _ (HJr.out.fresh hi), fun e9 => by have := HJr.out.J.bY.lt; omega⟩
    clear hbO HJr hOp0 Hat HDr HWr
    generalize V.alloc (Obj.cells (op8A o) 39) = wr1 at *
    generalize V.heap.size = Q at *
    have c9 : wr1.cell? ⟨xb, 0, none⟩ = some (.pointer (some ⟨X, 0, none⟩)) := blk_one HD1.out
    go_wp2_with (first | (refine wpl_load rfl _ rfl Y rfl _ _ _ (HJ1.out.J.bY) Try.underlying30 rfl Try.info8D ?_; go_frame) | (refine wpl_load rfl _ rfl Q rfl _ _ _ (HO1.out) Try.underlying39 rfl (info_op8 Ho.out.len Ho.out.ev.len) ?_; go_frame))
    refine (st8_all o Ho.out HJ1.out.J.B (Nat.le_refl _) HJ1.out.J.at_ (HBd.out.fine (by omega)) HJ1.out.J.dc HJ1.out.J.B.size).mono ?_
    have hbd2 := HBd.out.next o HJ1.out.J.dc.cs.ok (theDrv.sane HJ1.out.J.at_)
    have hsp2 := HSp.out.next o Ho.out.len
    have Hws : Hid (Wr.length = n ∧ ∀ (i : Nat) ws, Wr[i]? = some ws → ∀ x ∈ ws, x.length = 64) := Lib.hid ⟨HSp.out.len.trans HBd.out.len, fun i ws hw => (HSp.out.each i _ ws (List.getElem?_eq_getElem (by rw [← HSp.out.len]; exact (List.getElem?_eq_some_iff.1 hw).1)) hw).w64⟩
    obtain ⟨S2, hS2⟩ : ∃ S2, st8 S o = S2 := ⟨_, rfl⟩
    rw [hS2] at hbd2 hsp2 ⊢
    have HBd2 := Lib.hid hbd2
    have HSp2 := Lib.hid hsp2
    clear hbd2 hS2 hsp2 c9
    rintro e w3 ⟨az2, nz2, cz2, ac2, cc2, ah2, ch2, rfl, hD3, hT3⟩
    have HT3 := Lib.hid hT3
    have HD3 := Lib.hid hD3
    have HY3 : Hid (Blk w3 Y 30 (d8A (dd7 S.R.d) (.slice az nz cz) (.slice ac S.R.cs.length cc) (.slice ah S.R.h.length ch))) := Lib.hid (hT3.blk HJ1.out.J.at_ HJ1.out.J.bY (by decide))
    clear hT3 hD3
    go_upto_region 11 with (first | (refine wpl_store rfl _ _ rfl Y (d8A (dd7 S2.R.d) (.slice az2 nz2 cz2) (.slice ac2 S2.R.cs.length cc2) (.slice ah2 S2.R.h.length ch2)) rfl rfl _ _ HY3.out Try.info8D rfl (d8A_one _ _ _ _ _ _ _ _ _ _) ?_; intro w4 hY4 hK4; have HN4 := Lib.hid (HJ1.out.next HD3.out HT3.out hY4 hK4); clear hY4 hK4; go_frame))
    obtain ⟨F2, hJ4, hn4⟩ := HN4.out
    obtain ⟨hDx, hnx⟩ := hn4 xb _ _ HD1.out HnDr.out HnY2.out.1
    obtain ⟨hO4, -⟩ := hn4 Q _ _ HO1.out HnO.out.1 HnO.out.2
    have HZ : Hid (ZnI w X Y xb bw G Q S2 F2 (.slice az2 nz2 cz2) (.slice ac2 S2.R.cs.length cc2) (.slice ah2 S2.R.h.length ch2) o (updP o.s S2.R.zs Wr 0) ds w4) := Lib.hid ⟨hJ4, ⟨vs, by rw [updP_zero]; exact HW1.out.to (fun g t cs _ hb hF hY => hn4 g t cs hb hF hY)⟩, hDx, hO4⟩
    have HnD4 := Lib.hid hnx
    clear hJ4 hn4 hDx hnx hO4 HN4 HT3 HD3 HY3 HJ1 HO1 HD1 HW1 HnO
    go_wp2_with fail
    refine wp_loop (RelZ X G n xb Y bw (some ⟨b, off, none⟩) len cap Q j S2 F2 (.slice az2 nz2 cz2) (.slice ac2 S2.R.cs.length cc2) (.slice ah2 S2.R.h.length ch2) o Wr w) (fun a' _ => (n - (intOf (a'.tmps.getD 58 undef)).toNat)) ?startz ?roundz
    case startz =>
      exact RelZ.mk 0 rfl ⟨rfl, rfl, rfl, rfl, rfl, rfl, rfl, rfl, rfl, rfl, rfl⟩ (Nat.zero_le _) HZ.out
    case roundz =>
      rintro a' V ⟨i, ds, g, rfl, hfx, hi, hZ⟩
      rw [frT_lit g]
      simp only [hfx.s0, hfx.s8, hfx.s9, hfx.s10, hfx.s12, hfx.s14, hfx.s42, hfx.s43, hfx.s44, hfx.s57, hfx.s58]
      clear hfx HZ
      have HZr := Lib.hid hZ
      clear hZ
      by_cases hin : i < n
      case neg =>
        have hie : i = n := by omega
        subst hie
        obtain ⟨vs9, hW9⟩ := HZr.out.W
        have HWn : Hid (WrAt w.heap.size bw G vs9 (updW o.s S2.R.zs Wr) F2 Y V) := Lib.hid (by rw [updP_all _ _ _ Hws.out.1] at hW9; exact hW9)
        clear hW9
        go_wp2_with fail
        exact ⟨RelT.mk (j + 1) rfl ⟨rfl, rfl, rfl, rfl, rfl, rfl, rfl, (show Value.int .i64 ((j : Int) + 1) = .int .i64 ((j + 1 : Nat) : Int) by go_num)⟩ (by omega) ⟨S2, F2, _, _, az2, nz2, cz2, ac2, cc2, ah2, ch2, HBd2.out, HSp2.out, HZr.out.J, HWn.out, HZr.out.D, HnD4.out⟩, by simp [intOf]; omega⟩
      obtain ⟨z, hz⟩ : ∃ z, S2.R.zs[i]? = some z := ⟨_, List.getElem?_eq_getElem (by rw [HBd2.out.len]; exact hin)⟩
      obtain ⟨ws, hws⟩ : ∃ ws, Wr[i]? = some ws := ⟨_, List.getElem?_eq_getElem (by rw [Hws.out.1]; exact hin)⟩
      have Hz := Lib.hid hz
      have Hw0 := Lib.hid hws
      have HR := Lib.hid (HSp2.out.round Ho.out.len hz hws (Hws.out.2 i ws hws))
      have hok := ((theDrv.sane HZr.out.J.J.at_).ok z (List.mem_of_getElem? hz)).1
      have Hok := Lib.hid hok
      have hL64 : z.ss.length ≤ 64 := by have h1 := hok.len; have h2 := hok.size.2; omega
      have HL64 := Lib.hid hL64
      have Hin := Lib.hid hin
      clear hz hws hok hL64
      go_upto_region 16 with fail
      have hb5 := below_alloc V (Obj.cells #[.int .i64 (i : Nat)] 3)
      have HZ5 := Lib.hid (HZr.out.below hb5)
      have HI := Lib.hid (Blk.new V 3 #[.int .i64 (i : Nat)])
      clear hb5 HZr
      generalize V.alloc (Obj.cells #[.int .i64 (i : Nat)] 3) = V5 at *
      generalize V.heap.size = zb at *
      have HXd := Lib.hid HZ5.out.D
      obtain ⟨D, vz, ve, l, mb, nn, ff, hp1, hF1⟩ := (show pdAt w.heap.size V5 X S2 F2 from HZ5.out.J.J.at_)
      have Hp1 := Lib.hid hp1
      have HF1 := Lib.hid hF1
      have Hlz : Hid (lnD (l.map ZcR.z) (i : Int) = ((z.ss.length : Nat) : Int)) := Lib.hid (by rw [hp1.zs]; unfold lnD; rw [if_pos (by unfold dhB; have := HBd2.out.len; simp; omega), zsat_of Hz.out])
      clear hp1 hF1
      refine wp_then_only ?_
      refine wp_region_held (S := fun w' => Kept (fun _ => False) V5 w') (by kernel_rfl) ?_
      change wpAnyH _ _ _ _ _ _ _ _ (World.drew _)
      have hQ : Kept (fun _ => False) V5 V5.drew := (Kept.refl _ _).drew
      have hB0 : Below V5.heap.size V5 V5.drew := (Below.refl _ _).drew
      refine takeH hQ (i := 0) (d := 61) (v := .pointer (some ⟨X, 0, none⟩)) rfl rfl (by kernel_rfl) (by kernel_rfl) (by kernel_rfl) (fun _ _ _ h => h) (Or.inl ⟨by kernel_rfl, fun w' hw' => by exact exec_cellv _ rfl ⟨xb, 0, none⟩ rfl (.pointer (some ⟨X, 0, none⟩)) Try.underlying24 rfl (((HXd.out.kept hw' (fun h => h)).cell 0).trans (rfl))⟩) ?_
      refine takeH hQ (i := 2) (d := 63) (v := .int .i64 ((i : Nat))) rfl rfl (by kernel_rfl) (by kernel_rfl) (by kernel_rfl) (fun _ _ _ h => h) (Or.inl ⟨by kernel_rfl, fun w' hw' => by exact exec_cell _ rfl ⟨zb, 0, none⟩ rfl _ Try.underlying3 (((HI.out.kept hw' (fun h => h)).cell 0).trans (rfl))⟩) ?_
      try go_frame
      refine nextH (i := 1) rfl (by kernel_rfl) (by kernel_rfl) (fun K' hK => ?_)
      go_wp2_with fail
      refine (pdevP (Hp1.out.below hB0)).mono ?_
      rintro en V5c1 ⟨rfl, hw9⟩
      have hb := below_eqD hw9
      clear hw9
      have hQ1 : Kept (fun _ => False) V5 V5c1 := kept_next hQ hb
      have hB1 : Below V5.heap.size V5 V5c1 := bel_next hB0 hb
      refine hK.out _ _ ⟨hQ1, ?_⟩
      clear hK K' hQ hb hB0
      refine nextH (i := 3) rfl (by kernel_rfl) (by kernel_rfl) (fun K' hK => ?_)
      go_wp2_with fail
      refine (cln8 Hlz.out (Hp1.out.dv.below hB1)).mono ?_
      rintro en V5c2 ⟨rfl, hb⟩
      have hQ2 : Kept (fun _ => False) V5 V5c2 := kept_next hQ1 hb
      have hB2 : Below V5.heap.size V5 V5c2 := bel_next hB1 hb
      refine hK.out _ _ ⟨hQ2, ?_⟩
      clear hK K' hQ1 hb hB1
      refine takeH hQ2 (i := 4) (d := 16) (v := .int .i64 ((z.ss.length : Nat))) rfl rfl (by kernel_rfl) (by kernel_rfl) (by kernel_rfl) (fun _ _ _ h => h) (Or.inl ⟨by kernel_rfl, fun w' hw' => by kernel_rfl⟩) ?_
      refine wpAnyH_done (by kernel_rfl) ?_ _
      try go_frame
      have HZ6 := Lib.hid (HZ5.out.below hB2)
      have HI6 := Lib.hid (HI.out.below hB2 HI.out.lt)
      have Hp6 := Lib.hid (Hp1.out.below hB2)
      clear hQ2 hB2 HZ5 HI HXd Hp1
      generalize V5c2 = V6 at *
      obtain ⟨vs6, hW6⟩ := HZ6.out.W
      obtain ⟨va, vc, hv6, hown6, hcell6⟩ := hW6.get (updP_at (s := o.s) (zs := S2.R.zs) Hw0.out)
      have Hv6 := Lib.hid hv6
      have Hown := Lib.hid hown6
      have HW6 := Lib.hid hW6
      have cG := hcell6
      have cb : V6.cell? ⟨bw, 0, none⟩ = some (.slice (some ⟨G, 0, none⟩) n n) := by have h9 := blk_one hW6.box; rwa [updP_len, Hws.out.1] at h9
      have cz := blk_one HI6.out
      have hL64 := HL64.out
      have hL64b : (z.ss.length : Int) ≤ 64 := by have := HL64.out; omega
      clear hv6 hown6 hcell6 hW6
      go_upto_if 71 with fail
      go_cut [] from 71 to 84 (fun wx => ZnI w X Y xb bw G Q S2 F2 (.slice az2 nz2 cz2) (.slice ac2 S2.R.cs.length cc2) (.slice ah2 S2.R.h.length ch2) o ((updP o.s S2.R.zs Wr i).set i (if ws.length < z.ss.length then ws ++ [o.s] else ws)) ds wx ∧ Blk wx zb 3 #[.int .i64 (i : Nat)])
      case first =>
        have HJ6 := Lib.hid HZ6.out.J
        have HD6 := Lib.hid HZ6.out.D
        have HO6 := Lib.hid HZ6.out.O
        have HB6 : Hid (Blk V6 bw 44 #[.slice (some ⟨G, 0, none⟩) n n]) := Lib.hid (by have h9 := HW6.out.box; rwa [updP_len, Hws.out.1] at h9)
        have Harr := Lib.hid HW6.out.arr
        have Hvi : Hid (vs6.toArray[i]? = some (.slice va ws.length vc)) := Lib.hid (by simpa using Hv6.out)
        have HGl : Hid (w.heap.size < G) := Lib.hid HW6.out.lo.2
        have HGF : Hid (¬ F2 G) := Lib.hid HW6.out.nF.2
        have HlV : Hid (w.heap.size ≤ V6.heap.size) := Lib.hid (Nat.le_of_lt HJ6.out.T.lt)
        have Hw64 : Hid (∀ x ∈ ws, x.length = 64) := Lib.hid HR.out.w64
        by_cases hc : ws.length < z.ss.length
        case neg =>
          have dc : decide ((z.ss.length : Int) > (ws.length : Int)) = false := decide_eq_false (by omega)
          have HZc : Hid (ZnI w X Y xb bw G Q S2 F2 (.slice az2 nz2 cz2) (.slice ac2 S2.R.cs.length cc2) (.slice ah2 S2.R.h.length ch2) o ((updP o.s S2.R.zs Wr i).set i (if ws.length < z.ss.length then ws ++ [o.s] else ws)) ds V6) := Lib.hid (by rw [if_neg hc, set_back (updP_at Hw0.out)]; exact HZ6.out)
          go_wp2_with fail
          go_meet
          exact ⟨HZc.out, HI6.out⟩
        case pos =>
          have dc : decide ((z.ss.length : Int) > (ws.length : Int)) = true := decide_eq_true (by omega)
          have Hc := Lib.hid hc
          have Hwl : Hid (ws.length < 64) := Lib.hid (by omega)
          clear hc
          go_upto_region 18 with fail
          refine wp_only ?_
          refine wp_regionM (S := fun w' => Below V6.heap.size V6 w') 13 (by kernel_rfl) ?_
          change wpAnyM _ _ _ _ _ _ _ _ _ (World.drew _)
          have hB : Below V6.heap.size V6 V6.drew := (Below.refl _ _).drew
          generalize V6.drew = wd at *
          refine takeM [12, 13] hB (i := 0) (d := 72) (v := .slice (some ⟨G, 0, none⟩) n n) rfl rfl (by kernel_rfl) (by kernel_rfl) (by kernel_rfl) (by kernel_rfl) (fun _ _ _ h => h) (Or.inl ⟨by kernel_rfl, fun w' hw' => by exact exec_cellv _ rfl ⟨bw, 0, none⟩ rfl (.slice (some ⟨G, 0, none⟩) n n) Try.underlying44 rfl (((HB6.out.below hw' HB6.out.lt).cell 0).trans rfl)⟩) ?_
          refine takeM [12, 13] hB (i := 1) (d := 73) (v := .int .i64 (i : Nat)) rfl rfl (by kernel_rfl) (by kernel_rfl) (by kernel_rfl) (by kernel_rfl) (fun _ _ _ h => h) (Or.inl ⟨by kernel_rfl, fun w' hw' => by exact exec_cell _ rfl ⟨zb, 0, none⟩ rfl _ Try.underlying3 (((HI6.out.below hw' HI6.out.lt).cell 0).trans rfl)⟩) ?_
          refine takeM [5, 6, 7, 11, 13] hB (i := 3) (d := 75) (v := .slice (some ⟨G, 0, none⟩) n n) rfl rfl (by kernel_rfl) (by kernel_rfl) (by kernel_rfl) (by kernel_rfl) (fun _ _ _ h => h) (Or.inl ⟨by kernel_rfl, fun w' hw' => by exact exec_cellv _ rfl ⟨bw, 0, none⟩ rfl (.slice (some ⟨G, 0, none⟩) n n) Try.underlying44 rfl (((HB6.out.below hw' HB6.out.lt).cell 0).trans rfl)⟩) ?_
          refine takeM [5, 6, 7, 11, 13] hB (i := 4) (d := 76) (v := .int .i64 (i : Nat)) rfl rfl (by kernel_rfl) (by kernel_rfl) (by kernel_rfl) (by kernel_rfl) (fun _ _ _ h => h) (Or.inl ⟨by kernel_rfl, fun w' hw' => by exact exec_cell _ rfl ⟨zb, 0, none⟩ rfl _ Try.underlying3 (((HI6.out.below hw' HI6.out.lt).cell 0).trans rfl)⟩) ?_
          try go_frame
          refine takeM [6, 7, 11, 13] hB (i := 5) (d := 77) (v := .pointer (some ⟨G, i, none⟩)) rfl rfl (by kernel_rfl) (by kernel_rfl) (by kernel_rfl) (by kernel_rfl) (fun _ _ _ h => h) (Or.inl ⟨by kernel_rfl, fun w' hw' => by exact exec_indexW _ _ rfl G n n i rfl rfl Hin.out⟩) ?_
          refine takeM [7, 11, 13] hB (i := 6) (d := 78) (v := .slice va ws.length vc) rfl rfl (by kernel_rfl) (by kernel_rfl) (by kernel_rfl) (by kernel_rfl) (fun _ _ _ h => h) (Or.inl ⟨by kernel_rfl, fun w' hw' => by exact exec_cellv _ rfl ⟨G, i, none⟩ rfl (.slice va ws.length vc) Try.underlying48 rfl (((Harr.out.below hw' Harr.out.lt).cell i).trans Hvi.out)⟩) ?_
          refine takeM [9, 10, 11, 13] hB (i := 8) (d := 80) (v := .pointer (some ⟨Q, 3, none⟩)) rfl rfl (by kernel_rfl) (by kernel_rfl) (by kernel_rfl) (by kernel_rfl) (fun _ _ _ h => h) (Or.inl ⟨by kernel_rfl, fun w' hw' => by kernel_rfl⟩) ?_
          refine takeM [10, 11, 13] hB (i := 9) (d := 81) (v := .agg (bA o.s)) rfl rfl (by kernel_rfl) (by kernel_rfl) (by kernel_rfl) (by kernel_rfl) (fun _ _ _ h => h) (Or.inl ⟨by kernel_rfl, fun w' hw' => by exact exec_load_b _ _ rfl Q 3 rfl o.s _ (op8_range (HO6.out.below hw' HO6.out.lt)) Try.underlying34 rfl (infoSecL Ho.out.len)⟩) ?_
          try go_frame
          refine nextM2 (i := 2) (k := 10) rfl rfl (by kernel_rfl) (by kernel_rfl) (by kernel_rfl) (fun K' hK => ?_) (fun K' hK => ?_) 
          · go_wp2_with fail
            have hB0 : Below V6.heap.size V6 (wd.alloc (Obj.cells #[] 34)) := bel_next hB (below_alloc _ _)
            have HP0 : Hid (World.ownsRow (wd.alloc (Obj.cells #[] 34)) w.heap.size 34 64 (.slice (some ⟨wd.heap.size, 0, none⟩) 0 0) 0 []) := Lib.hid (World.ownsRow_made wd #[] 0 (by have := hB.size; have := HlV.out; omega) (Nat.zero_le _) rfl)
            have hp0 : V6.heap.size ≤ wd.heap.size := hB.size
            refine hK.out _ _ ⟨fun _ => hB0, ?_⟩
            clear hK K' hB
            generalize wd.alloc (Obj.cells #[] 34) = wda at *
            generalize wd.heap.size = p0 at *
            have hB := hB0
            clear hB0
            try go_frame
            refine nextM2 (i := 7) (k := 10) rfl rfl (by kernel_rfl) (by kernel_rfl) (by kernel_rfl) (fun K' hK => ?_) (fun K' hK => ?_) 
            · refine wpo_appendS elF (.tmp 74) (.tmp 78) rfl w.heap.size (.slice (some ⟨p0, 0, none⟩) 0 0) 0 [] rfl HP0.out va ws.length vc (flat ws) rfl (flat_length Hw64.out) (ownK_src (ownK_below Hown.out hB)).1 (ownK_src (ownK_below Hown.out hB)).2 (flat_ones _) (by have := Hwl.out; omega) (by have := hB.size; have := HlV.out; omega) ?_
              intro v2 w6 hown hgr hv2
              rw [Nat.zero_add, List.nil_append] at hown
              have hf2 : ∀ g, v2.ownBlock = some g → V6.heap.size ≤ g := fun g hg => by
                rcases hv2 with h | h
                · rw [h] at hg; injection hg with hg; subst hg; exact hp0
                · rw [h] at hg; injection hg with hg; have := hB.size; omega
              have hB0 : Below V6.heap.size V6 w6 := hB.grown hgr hB.size (fun k e => by injection e with e; subst e; exact hp0)
              obtain ⟨a2, c2, rfl⟩ := own_slice hown
              have HO57 := Lib.hid hown
              have Hv57 := Lib.hid hf2
              refine hK.out _ _ ⟨fun _ => hB0, ?_⟩
              clear hK K' hown hgr hv2 hf2 hB
              have hB := hB0
              clear hB0
              try go_frame
              refine nextM (i := 10) rfl (by kernel_rfl) (by kernel_rfl) (fun K' hK => ?_) 
              refine wpo_buildK elFK (by decide) _ rfl (bA o.s) rfl (by rw [bA_size, Ho.out.len]) ?_
              have hB0 : Below V6.heap.size V6 (w6.alloc (Obj.cells (bA o.s) 34)) := bel_next hB (below_alloc _ _)
              have HQ : Hid (Blk (w6.alloc (Obj.cells (bA o.s) 34)) w6.heap.size 34 (bA o.s)) := Lib.hid (Blk.new _ _ _)
              have HP1 := Lib.hid (ownK_below HO57.out (below_alloc w6 (Obj.cells (bA o.s) 34)))
              refine hK.out _ _ ⟨fun _ => hB0, ?_⟩
              clear hK K' hB HO57
              generalize w6.alloc (Obj.cells (bA o.s) 34) = w6b at *
              generalize w6.heap.size = q0 at *
              have hB := hB0
              clear hB0
              have HO57 := HP1
              clear HP1
              try go_frame
              refine nextM (i := 11) rfl (by kernel_rfl) (by kernel_rfl) (fun K' hK => ?_)
              refine wpo_appendS elF (.tmp 79) (.tmp 82) rfl w.heap.size (.slice a2 ws.length c2) ws.length (flat ws) rfl HO57.out (some ⟨q0, 0, none⟩) 1 1 (bvals o.s) rfl (by rw [bvals_length, Ho.out.len]) (fun e => by cases e) (src_sec HQ.out) (bvals_one _) (by have := Hwl.out; omega) (by have := hB.size; have := HlV.out; omega) ?_
              intro v3 w7 hown hgr hv3
              have hf3 : ∀ g, v3.ownBlock = some g → V6.heap.size ≤ g := fun g hg => by
                rcases hv3 with h | h
                · rw [h] at hg; exact Hv57.out g hg
                · rw [h] at hg; injection hg with hg; have := hB.size; omega
              have hB7 : Below V6.heap.size V6 w7 := hB.grown hgr hB.size (fun k e => Hv57.out k e)
              have hl9 : (ws ++ [o.s]).length = ws.length + 1 := by simp
              have hown9 : w7.ownsRow w.heap.size 34 64 v3 (ws ++ [o.s]).length (flat (ws ++ [o.s])) := by rw [hl9, flat_append, flat_one]; exact hown
              have hset := HW6.out.setRow hB7 i hown9 (fun g hg => ⟨fun hi => by have := HJ6.out.fresh hi; have := hf3 g hg; omega, fun e => by have := HJ6.out.J.bY.lt; have := hf3 g hg; omega⟩)
              have HP := Lib.hid hset
              obtain ⟨a3, c3, rfl⟩ := own_slice hown
              refine hK.out _ _ ⟨fun _ => hB7, ?_⟩
              have cW : w7.cell? ⟨G, i, none⟩ = some (.slice va ws.length vc) := ((Harr.out.below hB7 Harr.out.lt).cell i).trans Hvi.out
              have fW := (Harr.out.below hB7 Harr.out.lt).frozen i
              have HZf : Hid (ZnI w X Y xb bw G Q S2 F2 (.slice az2 nz2 cz2) (.slice ac2 S2.R.cs.length cc2) (.slice ah2 S2.R.h.length ch2) o ((updP o.s S2.R.zs Wr i).set i (ws ++ [o.s])) ds (w7.setCell ⟨G, i, none⟩ (.slice a3 (ws.length + 1) c3)) ∧ Blk (w7.setCell ⟨G, i, none⟩ (.slice a3 (ws.length + 1) c3)) zb 3 #[.int .i64 (i : Nat)]) := Lib.hid (by
                have hk := HP.out.2
                exact ⟨⟨HJ6.out.keptB Harr.out HGl.out HGF.out (by decide) (by decide) (by decide) (by decide) hk, ⟨_, HP.out.1⟩, HD6.out.kept hk (fun e => Blk.unlike HD6.out Harr.out (by decide) e), HO6.out.kept hk (fun e => Blk.unlike HO6.out Harr.out (by decide) e)⟩, HI6.out.kept hk (fun e => Blk.unlike HI6.out Harr.out (by decide) e)⟩)
              clear hK K' hown hown9 hgr hv3 hf3 hB hl9 hset
              try go_frame
              refine takeM [13] hB7 (i := 12) (d := 84) (v := .pointer (some ⟨G, i, none⟩)) rfl rfl (by kernel_rfl) (by kernel_rfl) (by kernel_rfl) (by kernel_rfl) (fun _ _ _ h => h) (Or.inl ⟨by kernel_rfl, fun w' hw' => by exact exec_indexW _ _ rfl G n n i rfl rfl Hin.out⟩) ?_
              refine nextM (i := 13) rfl (by kernel_rfl) (by kernel_rfl) (fun K' hK => ?_)
              go_wp2_with fail
              refine hK.out _ _ ⟨fun h9 => absurd rfl h9.1, ?_⟩
              clear hK K' cW fW hB7
              refine wpAnyM_done (by kernel_rfl) ?_ _
              go_wp2_with fail
              go_meet
              rw [if_pos Hc.out]
              exact HZf.out
            · refine wpo_buildK elFK (by decide) _ rfl (bA o.s) rfl (by rw [bA_size, Ho.out.len]) ?_
              have hB0 : Below V6.heap.size V6 (wda.alloc (Obj.cells (bA o.s) 34)) := bel_next hB (below_alloc _ _)
              have HQ : Hid (Blk (wda.alloc (Obj.cells (bA o.s) 34)) wda.heap.size 34 (bA o.s)) := Lib.hid (Blk.new _ _ _)
              have HP1 := Lib.hid (ownK_below HP0.out (below_alloc wda (Obj.cells (bA o.s) 34)))
              have hpq : p0 ≠ wda.heap.size := by have := own_lt HP0.out (g := p0) rfl; omega
              refine hK.out _ _ ⟨fun _ => hB0, ?_⟩
              clear hK K' hB HP0
              generalize wda.alloc (Obj.cells (bA o.s) 34) = wdab at *
              generalize wda.heap.size = q0 at *
              have hB := hB0
              clear hB0
              have HP0 := HP1
              clear HP1
              try go_frame
              refine nextM (i := 7) rfl (by kernel_rfl) (by kernel_rfl) (fun K' hK => ?_) 
              refine wpo_appendS elF (.tmp 74) (.tmp 78) rfl w.heap.size (.slice (some ⟨p0, 0, none⟩) 0 0) 0 [] rfl HP0.out va ws.length vc (flat ws) rfl (flat_length Hw64.out) (ownK_src (ownK_below Hown.out hB)).1 (ownK_src (ownK_below Hown.out hB)).2 (flat_ones _) (by have := Hwl.out; omega) (by have := hB.size; have := HlV.out; omega) ?_
              intro v2 w6 hown hgr hv2
              rw [Nat.zero_add, List.nil_append] at hown
              have hf2 : ∀ g, v2.ownBlock = some g → V6.heap.size ≤ g := fun g hg => by
                rcases hv2 with h | h
                · rw [h] at hg; injection hg with hg; subst hg; exact hp0
                · rw [h] at hg; injection hg with hg; have := hB.size; omega
              have hB0 : Below V6.heap.size V6 w6 := hB.grown hgr hB.size (fun k e => by injection e with e; subst e; exact hp0)
              have HQ0 := Lib.hid (HQ.out.grown hgr (fun e => by injection e with e; exact hpq e.symm))
              obtain ⟨a2, c2, rfl⟩ := own_slice hown
              have HO57 := Lib.hid hown
              have Hv57 := Lib.hid hf2
              refine hK.out _ _ ⟨fun _ => hB0, ?_⟩
              clear hK K' hown hgr hv2 hf2 hB HQ
              have hB := hB0
              clear hB0
              have HQ := HQ0
              clear HQ0
              try go_frame
              refine nextM (i := 11) rfl (by kernel_rfl) (by kernel_rfl) (fun K' hK => ?_)
              refine wpo_appendS elF (.tmp 79) (.tmp 82) rfl w.heap.size (.slice a2 ws.length c2) ws.length (flat ws) rfl HO57.out (some ⟨q0, 0, none⟩) 1 1 (bvals o.s) rfl (by rw [bvals_length, Ho.out.len]) (fun e => by cases e) (src_sec HQ.out) (bvals_one _) (by have := Hwl.out; omega) (by have := hB.size; have := HlV.out; omega) ?_
              intro v3 w7 hown hgr hv3
              have hf3 : ∀ g, v3.ownBlock = some g → V6.heap.size ≤ g := fun g hg => by
                rcases hv3 with h | h
                · rw [h] at hg; exact Hv57.out g hg
                · rw [h] at hg; injection hg with hg; have := hB.size; omega
              have hB7 : Below V6.heap.size V6 w7 := hB.grown hgr hB.size (fun k e => Hv57.out k e)
              have hl9 : (ws ++ [o.s]).length = ws.length + 1 := by simp
              have hown9 : w7.ownsRow w.heap.size 34 64 v3 (ws ++ [o.s]).length (flat (ws ++ [o.s])) := by rw [hl9, flat_append, flat_one]; exact hown
              have hset := HW6.out.setRow hB7 i hown9 (fun g hg => ⟨fun hi => by have := HJ6.out.fresh hi; have := hf3 g hg; omega, fun e => by have := HJ6.out.J.bY.lt; have := hf3 g hg; omega⟩)
              have HP := Lib.hid hset
              obtain ⟨a3, c3, rfl⟩ := own_slice hown
              refine hK.out _ _ ⟨fun _ => hB7, ?_⟩
              have cW : w7.cell? ⟨G, i, none⟩ = some (.slice va ws.length vc) := ((Harr.out.below hB7 Harr.out.lt).cell i).trans Hvi.out
              have fW := (Harr.out.below hB7 Harr.out.lt).frozen i
              have HZf : Hid (ZnI w X Y xb bw G Q S2 F2 (.slice az2 nz2 cz2) (.slice ac2 S2.R.cs.length cc2) (.slice ah2 S2.R.h.length ch2) o ((updP o.s S2.R.zs Wr i).set i (ws ++ [o.s])) ds (w7.setCell ⟨G, i, none⟩ (.slice a3 (ws.length + 1) c3)) ∧ Blk (w7.setCell ⟨G, i, none⟩ (.slice a3 (ws.length + 1) c3)) zb 3 #[.int .i64 (i : Nat)]) := Lib.hid (by
                have hk := HP.out.2
                exact ⟨⟨HJ6.out.keptB Harr.out HGl.out HGF.out (by decide) (by decide) (by decide) (by decide) hk, ⟨_, HP.out.1⟩, HD6.out.kept hk (fun e => Blk.unlike HD6.out Harr.out (by decide) e), HO6.out.kept hk (fun e => Blk.unlike HO6.out Harr.out (by decide) e)⟩, HI6.out.kept hk (fun e => Blk.unlike HI6.out Harr.out (by decide) e)⟩)
              clear hK K' hown hown9 hgr hv3 hf3 hB hl9 hset
              try go_frame
              refine takeM [13] hB7 (i := 12) (d := 84) (v := .pointer (some ⟨G, i, none⟩)) rfl rfl (by kernel_rfl) (by kernel_rfl) (by kernel_rfl) (by kernel_rfl) (fun _ _ _ h => h) (Or.inl ⟨by kernel_rfl, fun w' hw' => by exact exec_indexW _ _ rfl G n n i rfl rfl Hin.out⟩) ?_
              refine nextM (i := 13) rfl (by kernel_rfl) (by kernel_rfl) (fun K' hK => ?_)
              go_wp2_with fail
              refine hK.out _ _ ⟨fun h9 => absurd rfl h9.1, ?_⟩
              clear hK K' cW fW hB7
              refine wpAnyM_done (by kernel_rfl) ?_ _
              go_wp2_with fail
              go_meet
              rw [if_pos Hc.out]
              exact HZf.out
          · refine wpo_buildK elFK (by decide) _ rfl (bA o.s) rfl (by rw [bA_size, Ho.out.len]) ?_
            have hB0 : Below V6.heap.size V6 (wd.alloc (Obj.cells (bA o.s) 34)) := bel_next hB (below_alloc _ _)
            have HQ : Hid (Blk (wd.alloc (Obj.cells (bA o.s) 34)) wd.heap.size 34 (bA o.s)) := Lib.hid (Blk.new _ _ _)
            refine hK.out _ _ ⟨fun _ => hB0, ?_⟩
            clear hK K' hB
            generalize wd.alloc (Obj.cells (bA o.s) 34) = wdb at *
            generalize wd.heap.size = q0 at *
            have hB := hB0
            clear hB0
            try go_frame
            refine nextM (i := 2) rfl (by kernel_rfl) (by kernel_rfl) (fun K' hK => ?_) 
            go_wp2_with fail
            have hB0 : Below V6.heap.size V6 (wdb.alloc (Obj.cells #[] 34)) := bel_next hB (below_alloc _ _)
            have HP0 : Hid (World.ownsRow (wdb.alloc (Obj.cells #[] 34)) w.heap.size 34 64 (.slice (some ⟨wdb.heap.size, 0, none⟩) 0 0) 0 []) := Lib.hid (World.ownsRow_made wdb #[] 0 (by have := hB.size; have := HlV.out; omega) (Nat.zero_le _) rfl)
            have hp0 : V6.heap.size ≤ wdb.heap.size := hB.size
            have HQ0 := Lib.hid (HQ.out.alloc (Obj.cells #[] 34))
            have hpq : wdb.heap.size ≠ q0 := by have := HQ.out.lt; omega
            refine hK.out _ _ ⟨fun _ => hB0, ?_⟩
            clear hK K' hB HQ
            generalize wdb.alloc (Obj.cells #[] 34) = wdba at *
            generalize wdb.heap.size = p0 at *
            have hB := hB0
            clear hB0
            have HQ := HQ0
            clear HQ0
            try go_frame
            refine nextM (i := 7) rfl (by kernel_rfl) (by kernel_rfl) (fun K' hK => ?_) 
            refine wpo_appendS elF (.tmp 74) (.tmp 78) rfl w.heap.size (.slice (some ⟨p0, 0, none⟩) 0 0) 0 [] rfl HP0.out va ws.length vc (flat ws) rfl (flat_length Hw64.out) (ownK_src (ownK_below Hown.out hB)).1 (ownK_src (ownK_below Hown.out hB)).2 (flat_ones _) (by have := Hwl.out; omega) (by have := hB.size; have := HlV.out; omega) ?_
            intro v2 w6 hown hgr hv2
            rw [Nat.zero_add, List.nil_append] at hown
            have hf2 : ∀ g, v2.ownBlock = some g → V6.heap.size ≤ g := fun g hg => by
              rcases hv2 with h | h
              · rw [h] at hg; injection hg with hg; subst hg; exact hp0
              · rw [h] at hg; injection hg with hg; have := hB.size; omega
            have hB0 : Below V6.heap.size V6 w6 := hB.grown hgr hB.size (fun k e => by injection e with e; subst e; exact hp0)
            have HQ0 := Lib.hid (HQ.out.grown hgr (fun e => by injection e with e; exact hpq e.symm))
            obtain ⟨a2, c2, rfl⟩ := own_slice hown
            have HO57 := Lib.hid hown
            have Hv57 := Lib.hid hf2
            refine hK.out _ _ ⟨fun _ => hB0, ?_⟩
            clear hK K' hown hgr hv2 hf2 hB HQ
            have hB := hB0
            clear hB0
            have HQ := HQ0
            clear HQ0
            try go_frame
            refine nextM (i := 11) rfl (by kernel_rfl) (by kernel_rfl) (fun K' hK => ?_)
            refine wpo_appendS elF (.tmp 79) (.tmp 82) rfl w.heap.size (.slice a2 ws.length c2) ws.length (flat ws) rfl HO57.out (some ⟨q0, 0, none⟩) 1 1 (bvals o.s) rfl (by rw [bvals_length, Ho.out.len]) (fun e => by cases e) (src_sec HQ.out) (bvals_one _) (by have := Hwl.out; omega) (by have := hB.size; have := HlV.out; omega) ?_
            intro v3 w7 hown hgr hv3
            have hf3 : ∀ g, v3.ownBlock = some g → V6.heap.size ≤ g := fun g hg => by
              rcases hv3 with h | h
              · rw [h] at hg; exact Hv57.out g hg
              · rw [h] at hg; injection hg with hg; have := hB.size; omega
            have hB7 : Below V6.heap.size V6 w7 := hB.grown hgr hB.size (fun k e => Hv57.out k e)
            have hl9 : (ws ++ [o.s]).length = ws.length + 1 := by simp
            have hown9 : w7.ownsRow w.heap.size 34 64 v3 (ws ++ [o.s]).length (flat (ws ++ [o.s])) := by rw [hl9, flat_append, flat_one]; exact hown
            have hset := HW6.out.setRow hB7 i hown9 (fun g hg => ⟨fun hi => by have := HJ6.out.fresh hi; have := hf3 g hg; omega, fun e => by have := HJ6.out.J.bY.lt; have := hf3 g hg; omega⟩)
            have HP := Lib.hid hset
            obtain ⟨a3, c3, rfl⟩ := own_slice hown
            refine hK.out _ _ ⟨fun _ => hB7, ?_⟩
            have cW : w7.cell? ⟨G, i, none⟩ = some (.slice va ws.length vc) := ((Harr.out.below hB7 Harr.out.lt).cell i).trans Hvi.out
            have fW := (Harr.out.below hB7 Harr.out.lt).frozen i
            have HZf : Hid (ZnI w X Y xb bw G Q S2 F2 (.slice az2 nz2 cz2) (.slice ac2 S2.R.cs.length cc2) (.slice ah2 S2.R.h.length ch2) o ((updP o.s S2.R.zs Wr i).set i (ws ++ [o.s])) ds (w7.setCell ⟨G, i, none⟩ (.slice a3 (ws.length + 1) c3)) ∧ Blk (w7.setCell ⟨G, i, none⟩ (.slice a3 (ws.length + 1) c3)) zb 3 #[.int .i64 (i : Nat)]) := Lib.hid (by
              have hk := HP.out.2
              exact ⟨⟨HJ6.out.keptB Harr.out HGl.out HGF.out (by decide) (by decide) (by decide) (by decide) hk, ⟨_, HP.out.1⟩, HD6.out.kept hk (fun e => Blk.unlike HD6.out Harr.out (by decide) e), HO6.out.kept hk (fun e => Blk.unlike HO6.out Harr.out (by decide) e)⟩, HI6.out.kept hk (fun e => Blk.unlike HI6.out Harr.out (by decide) e)⟩)
            clear hK K' hown hown9 hgr hv3 hf3 hB hl9 hset
            try go_frame
            refine takeM [13] hB7 (i := 12) (d := 84) (v := .pointer (some ⟨G, i, none⟩)) rfl rfl (by kernel_rfl) (by kernel_rfl) (by kernel_rfl) (by kernel_rfl) (fun _ _ _ h => h) (Or.inl ⟨by kernel_rfl, fun w' hw' => by exact exec_indexW _ _ rfl G n n i rfl rfl Hin.out⟩) ?_
            refine nextM (i := 13) rfl (by kernel_rfl) (by kernel_rfl) (fun K' hK => ?_)
            go_wp2_with fail
            refine hK.out _ _ ⟨fun h9 => absurd rfl h9.1, ?_⟩
            clear hK K' cW fW hB7
            refine wpAnyM_done (by kernel_rfl) ?_ _
            go_wp2_with fail
            go_meet
            rw [if_pos Hc.out]
            exact HZf.out
      case rest =>
        clear HZ6 HI6 Hp6 HW6 Hv6 Hown cG cb cz
        obtain ⟨hZc, hIc⟩ := hcut
        obtain ⟨ws1, hws1⟩ : ∃ ws1, ws1 = (if ws.length < z.ss.length then ws ++ [o.s] else ws) := ⟨_, rfl⟩
        rw [← hws1] at hZc
        have HU1 : Hid (upd1 o.s z.ss.length ws = ws1.take z.ss.length) := Lib.hid (by rw [hws1]; rfl)
        have hle1 : z.ss.length ≤ ws1.length := by have h1 := HR.out.at_.len; rw [HU1.out, List.length_take] at h1; omega
        have Hw1 : Hid (∀ x ∈ ws1, x.length = 64) := Lib.hid (by
          rw [hws1]
          split
          · intro x hx
            rcases List.mem_append.1 hx with hx | hx
            · exact HR.out.w64 x hx
            · rw [List.mem_singleton.1 hx]; exact Ho.out.len
          · exact HR.out.w64)
        clear hws1
        have hu7 : ((updP o.s S2.R.zs Wr i).set i ws1)[i]? = some ws1 := List.getElem?_set_self (by rw [updP_len, Hws.out.1]; exact Hin.out)
        obtain ⟨vs7, hW7⟩ := hZc.W
        obtain ⟨va, vc, hv7, hown7, -⟩ := hW7.get hu7
        obtain ⟨-, uc1, uc2⟩ := ownK_cap hown7
        have Hcap : Hid (z.ss.length ≤ vc) := Lib.hid (Nat.le_trans hle1 uc1)
        have Hle1 := Lib.hid hle1
        have HWc := Lib.hid hW7
        have Hown := Lib.hid hown7
        have Hv7 := Lib.hid hv7
        have Hvi : Hid (vs7.toArray[i]? = some (.slice va ws1.length vc)) := Lib.hid (by simpa using hv7)
        have HJc := Lib.hid hZc.J
        have HDc := Lib.hid hZc.D
        have HOc := Lib.hid hZc.O
        have HIc := Lib.hid hIc
        have Harr := Lib.hid hW7.arr
        have HBx : Hid (Blk wc bw 44 #[.slice (some ⟨G, 0, none⟩) n n]) := Lib.hid (by have h9 := hW7.box; rwa [List.length_set, updP_len, Hws.out.1] at h9)
        have HGl : Hid (w.heap.size < G) := Lib.hid hW7.lo.2
        have HGF : Hid (¬ F2 G) := Lib.hid hW7.nF.2
        clear hZc hIc hu7 hW7 hv7 hown7 uc1 uc2 hle1
        go_upto_region 19 with fail
        refine wp_then_only ?_
        refine wp_regionM (S := fun w' => Below wc.heap.size wc w') 9 (by kernel_rfl) ?_
        change wpAnyM _ _ _ _ _ _ _ _ _ (World.drew _)
        have hB : Below wc.heap.size wc wc.drew := (Below.refl _ _).drew
        generalize wc.drew = wd at *
        refine takeM [8, 9] hB (i := 0) (d := 85) (v := .slice (some ⟨G, 0, none⟩) n n) rfl rfl (by kernel_rfl) (by kernel_rfl) (by kernel_rfl) (by kernel_rfl) (fun _ _ _ h => h) (Or.inl ⟨by kernel_rfl, fun w' hw' => by exact exec_cellv _ rfl ⟨bw, 0, none⟩ rfl (.slice (some ⟨G, 0, none⟩) n n) Try.underlying44 rfl (((HBx.out.below hw' HBx.out.lt).cell 0).trans rfl)⟩) ?_
        refine takeM [8, 9] hB (i := 1) (d := 86) (v := .int .i64 (i : Nat)) rfl rfl (by kernel_rfl) (by kernel_rfl) (by kernel_rfl) (by kernel_rfl) (fun _ _ _ h => h) (Or.inl ⟨by kernel_rfl, fun w' hw' => by exact exec_cell _ rfl ⟨zb, 0, none⟩ rfl _ Try.underlying3 (((HIc.out.below hw' HIc.out.lt).cell 0).trans rfl)⟩) ?_
        refine takeM [4, 5, 7, 9] hB (i := 2) (d := 87) (v := .slice (some ⟨G, 0, none⟩) n n) rfl rfl (by kernel_rfl) (by kernel_rfl) (by kernel_rfl) (by kernel_rfl) (fun _ _ _ h => h) (Or.inl ⟨by kernel_rfl, fun w' hw' => by exact exec_cellv _ rfl ⟨bw, 0, none⟩ rfl (.slice (some ⟨G, 0, none⟩) n n) Try.underlying44 rfl (((HBx.out.below hw' HBx.out.lt).cell 0).trans rfl)⟩) ?_
        refine takeM [4, 5, 7, 9] hB (i := 3) (d := 88) (v := .int .i64 (i : Nat)) rfl rfl (by kernel_rfl) (by kernel_rfl) (by kernel_rfl) (by kernel_rfl) (fun _ _ _ h => h) (Or.inl ⟨by kernel_rfl, fun w' hw' => by exact exec_cell _ rfl ⟨zb, 0, none⟩ rfl _ Try.underlying3 (((HIc.out.below hw' HIc.out.lt).cell 0).trans rfl)⟩) ?_
        try go_frame
        refine takeM [5, 7, 9] hB (i := 4) (d := 89) (v := .pointer (some ⟨G, i, none⟩)) rfl rfl (by kernel_rfl) (by kernel_rfl) (by kernel_rfl) (by kernel_rfl) (fun _ _ _ h => h) (Or.inl ⟨by kernel_rfl, fun w' hw' => by exact exec_indexW _ _ rfl G n n i rfl rfl Hin.out⟩) ?_
        refine takeM [7, 9] hB (i := 5) (d := 90) (v := .slice va ws1.length vc) rfl rfl (by kernel_rfl) (by kernel_rfl) (by kernel_rfl) (by kernel_rfl) (fun _ _ _ h => h) (Or.inl ⟨by kernel_rfl, fun w' hw' => by exact exec_cellv _ rfl ⟨G, i, none⟩ rfl (.slice va ws1.length vc) Try.underlying48 rfl (((Harr.out.below hw' Harr.out.lt).cell i).trans Hvi.out)⟩) ?_
        refine takeM [7, 9] hB (i := 6) (d := 91) (v := .int .i64 (z.ss.length : Nat)) rfl rfl (by kernel_rfl) (by kernel_rfl) (by kernel_rfl) (by kernel_rfl) (fun _ _ _ h => h) (Or.inl ⟨by kernel_rfl, fun w' hw' => by kernel_rfl⟩) ?_
        refine takeM [9] hB (i := 7) (d := 92) (v := .slice va z.ss.length vc) rfl rfl (by kernel_rfl) (by kernel_rfl) (by kernel_rfl) (by kernel_rfl) (fun _ _ _ h => h) (Or.inl ⟨by kernel_rfl, fun w' hw' => by exact exec_sliceT elFK _ _ rfl va ws1.length vc z.ss.length rfl rfl Hcap.out⟩) ?_
        refine takeM [9] hB (i := 8) (d := 93) (v := .pointer (some ⟨G, i, none⟩)) rfl rfl (by kernel_rfl) (by kernel_rfl) (by kernel_rfl) (by kernel_rfl) (fun _ _ _ h => h) (Or.inl ⟨by kernel_rfl, fun w' hw' => by exact exec_indexW _ _ rfl G n n i rfl rfl Hin.out⟩) ?_
        try go_frame
        have hl9 : (ws1.take z.ss.length).length = z.ss.length := by rw [List.length_take]; exact Nat.min_eq_left Hle1.out
        have hown9 : wd.ownsRow w.heap.size 34 64 (.slice va z.ss.length vc) (ws1.take z.ss.length).length (flat (ws1.take z.ss.length)) := by
          rw [hl9, ← flat_take Hw1.out]
          exact ownK_cut (ownK_below Hown.out hB) _ Hle1.out
        have hset := HWc.out.setRow hB i hown9 (fun g hg => HWc.out.far i _ g Hv7.out (by cases va with | none => cases hg | some a0 => exact hg))
        rw [List.set_set, ← HU1.out, updP_succ Hw0.out Hz.out] at hset
        have HK8 := Lib.hid hset.2
        have HW8 := Lib.hid hset.1
        have hiv : i < vs7.length := (List.getElem?_eq_some_iff.1 Hv7.out).1
        have Hv8 : Hid ((vs7.set i (.slice va z.ss.length vc))[i]? = some (.slice va z.ss.length vc)) := Lib.hid (List.getElem?_set_self hiv)
        have HJ8 := Lib.hid (HJc.out.keptB Harr.out HGl.out HGF.out (by decide) (by decide) (by decide) (by decide) HK8.out)
        have HD8 := Lib.hid (HDc.out.kept HK8.out (fun e => Blk.unlike HDc.out Harr.out (by decide) e))
        have HO8 := Lib.hid (HOc.out.kept HK8.out (fun e => Blk.unlike HOc.out Harr.out (by decide) e))
        have HI8 := Lib.hid (HIc.out.kept HK8.out (fun e => Blk.unlike HIc.out Harr.out (by decide) e))
        have cW : wd.cell? ⟨G, i, none⟩ = some (.slice va ws1.length vc) := ((Harr.out.below hB Harr.out.lt).cell i).trans Hvi.out
        have fW := (Harr.out.below hB Harr.out.lt).frozen i
        clear hl9 hown9 hset hiv
        refine nextM (i := 9) rfl (by kernel_rfl) (by kernel_rfl) (fun K' hK => ?_)
        go_wp2_with fail
        refine hK.out _ _ ⟨fun h9 => absurd rfl h9.1, ?_⟩
        clear hK K' cW fW hB
        refine wpAnyM_done (by kernel_rfl) ?_ _
        try go_frame
        clear HJc HDc HOc HIc HWc Hown Hv7 Hvi Harr HBx HK8
        generalize vs7.set i (.slice va z.ss.length vc) = vs8 at *
        generalize (wd.setCell ⟨G, i, none⟩ (.slice va z.ss.length vc)) = W8 at *
        have HXd := HD8
        have HI := HI8
        clear HD8 HI8
        obtain ⟨D, vz, ve, l, mb, nn, ff, hp1, hF1⟩ := (show pdAt w.heap.size W8 X S2 F2 from HJ8.out.J.at_)
        obtain ⟨c, hc, hcz⟩ : ∃ c, l[i]? = some c ∧ c.z = z := by
          have h9 := Hz.out
          rw [← hp1.zs, List.getElem?_map] at h9
          cases h8 : l[i]? with
          | none => rw [h8] at h9; cases h9
          | some c => rw [h8] at h9; injection h9 with h9; exact ⟨c, rfl, h9⟩
        have HFc : Hid (∀ g', c.v.ownBlock = some g' → F2 g') := Lib.hid (fun g' hg' => by rw [hF1]; exact .inr (.inl (.inr (.inr ⟨c, List.mem_of_getElem? hc, .inr hg'⟩))))
        have Hp8 := Lib.hid hp1
        have Hc := Lib.hid hc
        have Hcz := Lib.hid hcz
        clear hp1 hF1 hc hcz
        go_upto_region 20 with fail
        refine wp_then_only ?_
        refine wp_region_held (S := fun w' => Kept (fun _ => False) W8 w') (by kernel_rfl) ?_
        change wpAnyH _ _ _ _ _ _ _ _ (World.drew _)
        have hQ : Kept (fun _ => False) W8 W8.drew := (Kept.refl _ _).drew
        have hB0 : Below W8.heap.size W8 W8.drew := (Below.refl _ _).drew
        refine takeH hQ (i := 0) (d := 94) (v := .pointer (some ⟨X, 0, none⟩)) rfl rfl (by kernel_rfl) (by kernel_rfl) (by kernel_rfl) (fun _ _ _ h => h) (Or.inl ⟨by kernel_rfl, fun w' hw' => by exact exec_cellv _ rfl ⟨xb, 0, none⟩ rfl (.pointer (some ⟨X, 0, none⟩)) Try.underlying24 rfl (((HXd.out.kept hw' (fun h => h)).cell 0).trans (rfl))⟩) ?_
        refine takeH hQ (i := 2) (d := 96) (v := .int .i64 ((i : Nat))) rfl rfl (by kernel_rfl) (by kernel_rfl) (by kernel_rfl) (fun _ _ _ h => h) (Or.inl ⟨by kernel_rfl, fun w' hw' => by exact exec_cell _ rfl ⟨zb, 0, none⟩ rfl _ Try.underlying3 (((HI.out.kept hw' (fun h => h)).cell 0).trans (rfl))⟩) ?_
        try go_frame
        refine nextH (i := 1) rfl (by kernel_rfl) (by kernel_rfl) (fun K' hK => ?_)
        go_wp2_with fail
        refine (pdevP (Hp8.out.below hB0)).mono ?_
        rintro en W8c1 ⟨rfl, hw9⟩
        have hb := below_eqD hw9
        clear hw9
        have hQ1 : Kept (fun _ => False) W8 W8c1 := kept_next hQ hb
        have hB1 : Below W8.heap.size W8 W8c1 := bel_next hB0 hb
        refine hK.out _ _ ⟨hQ1, ?_⟩
        clear hK K' hQ hb hB0
        refine nextH (i := 3) rfl (by kernel_rfl) (by kernel_rfl) (fun K' hK => ?_)
        go_wp2_with fail
        refine (dlk_ok (Hp8.out.dv.below hB1) Hc.out).mono ?_
        rintro en W8c2 ⟨rfl, hw9⟩
        have hb : Below W8c1.heap.size W8c1 W8c2 := by rw [hw9]; exact below_alloc _ _
        have HBp : Hid (Blk W8c2 W8c1.heap.size 93 #[.pointer (some ⟨c.A, 0, none⟩)]) := Lib.hid (by rw [hw9]; exact Blk.new _ _ _)
        have hQ2 : Kept (fun _ => False) W8 W8c2 := kept_next hQ1 hb
        have hB2 : Below W8.heap.size W8 W8c2 := bel_next hB1 hb
        refine hK.out _ _ ⟨hQ2, ?_⟩
        clear hK K' hQ1 hb hB1 hw9
        refine wpAnyH_done (by kernel_rfl) ?_ _
        try go_frame
        have HJ9 := Lib.hid (HJ8.out.below hB2)
        have HW9 := Lib.hid (HW8.out.below hB2)
        have HD9 := Lib.hid (HXd.out.below hB2 HXd.out.lt)
        have HO9 := Lib.hid (HO8.out.below hB2 HO8.out.lt)
        have HI9 := Lib.hid (HI.out.below hB2 HI.out.lt)
        have Hkeep : Hid (ZsAt 114 34 w.heap.size W8c2 c.A c.v z) := Lib.hid (by have h9 := (Hp8.out.below hB2).dv.each i c Hc.out; rwa [Hcz.out] at h9)
        clear hQ2 hB2 HJ8 HW8 HXd HO8 HI Hp8
        generalize W8c2 = V9 at *
        generalize W8c1.heap.size = bp at *
        go_wp2_with fail
        have hJ9 := HJ9.out
        have hW9 := HW9.out
        have hD9 := HD9.out
        have hO9 := HO9.out
        have hI9 := HI9.out
        clear HJ9 HW9 HD9 HO9 HI9
        have hz64 := zero_secF
        refine wp_rangeB (N := z.ss.length) (w0 := V9) rfl (enters_of Try.func68 (by kernel_rfl) rfl) (allG_gives 7 (by decide) V9 Hkeep.out Hok.out HBp.out) (fun h k => h.trans k) (KpRow.put (fun g hg => Hkeep.out.lt (.inr hg))) (Below.refl _ _) (fun _ => rfl)
          (fun pre W => (LvM w X Y S2 F2 (.slice az2 nz2 cz2) (.slice ac2 S2.R.cs.length cc2) (.slice ah2 S2.R.h.length ch2) ds W ∧ V9.heap.size ≤ W.heap.size) ∧ (WrAt w.heap.size bw G vs8 (updP o.s S2.R.zs Wr (i + 1)) F2 Y W ∧ (Blk W xb 24 #[.pointer (some ⟨X, 0, none⟩)] ∧ (Blk W Q 39 (op8A o) ∧ Blk W zb 3 #[.int .i64 (i : Nat)])))) (fun _ _ _ => False)
          (OwnFrom.and (LvM.ownF hJ9) (OwnFrom.and WrAt.ownF (OwnFrom.and (Own.from (blk_own (β := List Nat) _ _ (fun _ => _)) _) (OwnFrom.and (Own.from (blk_own (β := List Nat) _ _ (fun _ => _)) _) (Own.from (blk_own (β := List Nat) _ _ (fun _ => _)) _))))) (fun _ => ownFrom_pure' (fun _ => False)) ⟨⟨hJ9, Nat.le_refl _⟩, hW9, hD9, hO9, hI9⟩ 34 (fun x => (bA (nrm (z.ss.getD (kG z.ss x) []))))
          ?ar (fun pre x W hI => fun g' hg' => Below.heap_alloc W (Obj.cells (bA (nrm (z.ss.getD (kG z.ss x) []))) 34) g' (hI.1.1.fresh (HFc.out g' hg'))) ?assignr ?bodyr ?doner ?stopr
        case assignr =>
          intro lb pre x W K hI hK
          unfold encG
          clear hI
          gi_wp2_with (first | (refine wplIn_store_new rfl _ _ rfl (bA (nrm (z.ss.getD (kG z.ss x) []))) W 34 (bA (zeros 64)) rfl rfl rfl (info_sec (nrm_length _)) (by rw [bA_size, bA_size, zeros_length, nrm_length]) (bA_one _) ?_; go_frame))
          generalize W.heap.size = bx at hK ⊢
          exact hK
        case stopr =>
          rintro Dd c9 pre W hD hp h _
          exact h.elim
        case bodyr =>
          rintro lb pre x bx W1 ⟨⟨hI, hWw⟩, hWr, hDw, hOw, hZw⟩ hbx hpl
          have hql := kG_lt (ss := z.ss) x (by omega)
          generalize kG z.ss x = q at *
          have h64q := getD_64 Hok.out.w64 q hql
          rw [nrm_of h64q] at hbx
          have hzq : z.ss[q]? = some (z.ss.getD q []) := by rw [List.getD_eq_getElem?_getD, List.getElem?_eq_getElem hql]; rfl
          have hwl2 : (upd1 o.s z.ss.length ws).length = z.ss.length := HR.out.at_.len
          have hwq : (upd1 o.s z.ss.length ws)[q]? = some ((upd1 o.s z.ss.length ws).getD q []) := by rw [List.getD_eq_getElem?_getD, List.getElem?_eq_getElem (by rw [hwl2]; exact hql)]; rfl
          have hxq := HR.out.at_.each q _ _ hzq hwq
          obtain ⟨n1, n2, n3⟩ := HR.out.at_.none q hql
          have hu8 : (updP o.s S2.R.zs Wr (i + 1))[i]? = some (upd1 o.s z.ss.length ws) := by rw [← updP_succ Hw0.out Hz.out]; exact List.getElem?_set_self (by rw [updP_len, Hws.out.1]; exact Hin.out)
          have hrow := hWr.row i _ _ Hv8.out hu8
          rw [hwl2] at hrow
          obtain ⟨gb, rfl, -, -⟩ := ownK_form hrow (by omega)
          have hplt := ((show pdAt w.heap.size W1 X S2 F2 from hI.J.at_).m64 (i : Int) (q : Int)).2
          have hzlt : ∀ c ∈ z.ss.getD q [], c < 256 := Hok.out.lt _ (List.mem_of_getElem? hzq)
          have hsp : spV S2 (i : Int) (q : Int) = S2.M (i : Int) (q : Int) := by unfold spV; rw [if_neg (by unfold lnD; rw [if_pos (by unfold dhB; have := HBd2.out.len; simp; omega), zsat_of Hz.out]; omega)]
          have hw64q : ((upd1 o.s z.ss.length ws).getD q []).length = 64 := getD_64 HR.out.at_.w64 q (by rw [hwl2]; exact hql)
          have hwlt : ∀ c ∈ (upd1 o.s z.ss.length ws).getD q [], c < 256 := by
            have h9 := zx_back (p := (S2.M (i : Int) (q : Int)).1) hw64q
            rw [← hxq] at h9
            rw [← h9]
            exact zx_lt hzlt hplt 64
          have HJb := Lib.hid hI
          have HWb := Lib.hid hWw
          have HWr := Lib.hid hWr
          have HDb9 := Lib.hid hDw
          have HOb := Lib.hid hOw
          have HZb := Lib.hid hZw
          have HXb := Lib.hid hbx
          have Hql := Lib.hid hql
          have H64q := Lib.hid h64q
          have Hwl2 := Lib.hid hwl2
          have Hrow1 := Lib.hid hrow
          have Hsp := Lib.hid hsp
          have Hw64q := Lib.hid hw64q
          have Hwlt := Lib.hid hwlt
          have Hxq := Lib.hid hxq
          have Hp64 := Lib.hid n1
          have Hkk0 := Lib.hid n2
          have Hpz0 := Lib.hid n3
          have Hplt := Lib.hid hplt
          have Hqw : Hid ((Lit.int .i64 (q : Int)).wf = true ∧ (Lit.int .i64 (i : Int)).wf = true) := Lib.hid ⟨wf_small (by omega) (by have := HL64.out; omega), wf_small (by omega) (by have := Hin.out; omega)⟩
          clear hI hWw hWr hDw hOw hZw hbx hql h64q hwl2 hrow hsp hw64q hwlt hxq n1 n2 n3 hplt hzlt hzq hwq hu8 hpl hJ9 hW9 hD9 hO9 hI9
          generalize hwqe : (upd1 o.s z.ss.length ws).getD q [] = wq at *
          have Hwq := Lib.hid hwqe
          clear hwqe
          generalize z.ss.getD q [] = zq at *
          have c9 := blk_one HDb9.out
          have cz := blk_one HZb.out
          gi_wp2_with fail
          refine ⟨trivial, CallsIn.inRound lb (callsIn_wide.2 ((pspt (i : Int) (q : Int) Hqw.out.2 Hqw.out.1 (show pdAt w.heap.size W1 X S2 F2 from HJb.out.J.at_)).mono ?_))⟩
          rintro e W2 ⟨rfl, hb⟩
          rw [Hsp.out]
          have HA2 := Lib.hid hb
          clear hb c9 cz Hsp
          generalize (S2.M (i : Int) (q : Int)).1 = p at *
          generalize (S2.M (i : Int) (q : Int)).2 = kk at *
          gi_upto_region 24 with (first | (refine wplIn_store_new rfl _ _ rfl (bA p) W2 34 (bA (zeros 64)) rfl rfl rfl (info_sec Hp64.out) (by rw [bA_size, bA_size, zeros_length, Hp64.out]) (bA_one _) ?_; go_frame))
          have hb3 := below_alloc W2 (Obj.cells (bA p) 34)
          have HPb := Lib.hid (Blk.new W2 34 (bA p))
          have HA3 := Lib.hid (bthen HA2.out hb3)
          have HX3 := Lib.hid (HXb.out.below HA3.out HXb.out.lt)
          have HZ3 := Lib.hid (HZb.out.below HA3.out HZb.out.lt)
          have HBw : Hid (Blk (W2.alloc (Obj.cells (bA p) 34)) bw 44 #[.slice (some ⟨G, 0, none⟩) n n]) := Lib.hid (by have h9 := (HWr.out.below HA3.out).box; rwa [updP_len, Hws.out.1] at h9)
          have Har3 := Lib.hid (HWr.out.below HA3.out).arr
          have Hvi3 : Hid (vs8.toArray[i]? = some (.slice (some ⟨gb, 0, none⟩) z.ss.length vc)) := Lib.hid (by simpa using Hv8.out)
          have Hrow := Lib.hid (ownK_below Hrow1.out HA3.out)
          clear hb3 HA2 HXb
          generalize W2.alloc (Obj.cells (bA p) 34) = W3 at *
          generalize W2.heap.size = pb at *
          by_cases hkk : kk = 0
          · have Hkk := Lib.hid hkk
            have Hpz : Hid (p = zeros 64) := Lib.hid (Hpz0.out hkk)
            clear hkk
            refine wpIn_region_heldIn (l := lb) (S := fun w' => Kept (fun _ => False) W3 w') (by kernel_rfl) (by kernel_rfl) (by rintro ⟨_, _, h9⟩; exact h9) ?_
            change wpAnyH _ _ _ _ _ _ _ _ (World.drew _)
            have hQ : Kept (fun _ => False) W3 W3.drew := (Kept.refl _ _).drew
            have hB0 : Below W3.heap.size W3 W3.drew := (Below.refl _ _).drew
            refine takeH hQ (i := 0) (d := 107) (v := .agg (bA zq)) rfl rfl (by kernel_rfl) (by kernel_rfl) (by kernel_rfl) (fun _ _ _ h => h) (Or.inl ⟨by kernel_rfl, fun w' hw' => by exact exec_load _ rfl (bx) rfl (HX3.out.kept hw' (fun h => h)) Try.underlying34 rfl (info_sec H64q.out)⟩) ?_
            refine takeH hQ (i := 1) (d := 108) (v := .slice (some ⟨G, 0, none⟩) (n) (n)) rfl rfl (by kernel_rfl) (by kernel_rfl) (by kernel_rfl) (fun _ _ _ h => h) (Or.inl ⟨by kernel_rfl, fun w' hw' => by exact exec_cellv _ rfl ⟨bw, 0, none⟩ rfl (.slice (some ⟨G, 0, none⟩) (n) (n)) Try.underlying44 rfl (((HBw.out.kept hw' (fun h => h)).cell 0).trans (rfl))⟩) ?_
            refine takeH hQ (i := 2) (d := 109) (v := .int .i64 ((i : Nat))) rfl rfl (by kernel_rfl) (by kernel_rfl) (by kernel_rfl) (fun _ _ _ h => h) (Or.inl ⟨by kernel_rfl, fun w' hw' => by exact exec_cell _ rfl ⟨zb, 0, none⟩ rfl _ Try.underlying3 (((HZ3.out.kept hw' (fun h => h)).cell 0).trans (rfl))⟩) ?_
            refine takeH hQ (i := 3) (d := 110) (v := .pointer (some ⟨G, i, none⟩)) rfl rfl (by kernel_rfl) (by kernel_rfl) (by kernel_rfl) (fun _ _ _ h => h) (Or.inl ⟨by kernel_rfl, fun w' hw' => by exact exec_indexW _ _ rfl G n n i rfl rfl Hin.out⟩) ?_
            try go_frame
            refine takeH hQ (i := 4) (d := 111) (v := .slice (some ⟨gb, 0, none⟩) (z.ss.length) (vc)) rfl rfl (by kernel_rfl) (by kernel_rfl) (by kernel_rfl) (fun _ _ _ h => h) (Or.inl ⟨by kernel_rfl, fun w' hw' => by exact exec_cellv _ rfl ⟨G, i, none⟩ rfl (.slice (some ⟨gb, 0, none⟩) z.ss.length vc) Try.underlying48 rfl (((Har3.out.kept hw' (fun h => h)).cell i).trans Hvi3.out)⟩) ?_
            refine takeH hQ (i := 5) (d := 112) (v := .int .i64 ((q : Nat))) rfl rfl (by kernel_rfl) (by kernel_rfl) (by kernel_rfl) (fun _ _ _ h => h) (Or.inl ⟨by kernel_rfl, fun w' hw' => by kernel_rfl⟩) ?_
            refine takeH hQ (i := 6) (d := 113) (v := .pointer (some ⟨gb, q * 64, none⟩)) rfl rfl (by kernel_rfl) (by kernel_rfl) (by kernel_rfl) (fun _ _ _ h => h) (Or.inl ⟨by kernel_rfl, fun w' hw' => by exact exec_indexK elFK _ _ rfl gb z.ss.length vc q rfl rfl Hql.out⟩) ?_
            refine takeH hQ (i := 7) (d := 114) (v := .agg (bA wq)) rfl rfl (by kernel_rfl) (by kernel_rfl) (by kernel_rfl) (fun _ _ _ h => h) (Or.inl ⟨by kernel_rfl, fun w' hw' => by exact exec_load_b _ _ rfl gb (q * 64) rfl wq _ (Hwq.out ▸ own_range (own_kept Hrow.out hw' (fun _ _ h => h)) Hwl2.out HR.out.at_.w64 q Hql.out) Try.underlying34 rfl (infoSecL Hw64q.out)⟩) ?_
            try go_frame
            refine takeH hQ (i := 8) (d := 115) (v := .agg (bA p)) rfl rfl (by kernel_rfl) (by kernel_rfl) (by kernel_rfl) (fun _ _ _ h => h) (Or.inl ⟨by kernel_rfl, fun w' hw' => by exact exec_load _ rfl (pb) rfl (HPb.out.kept hw' (fun h => h)) Try.underlying34 rfl (info_sec Hp64.out)⟩) ?_
            try go_frame
            refine nextH (i := 9) rfl (by kernel_rfl) (by kernel_rfl) (fun K' hK => ?_)
            go_wp2_with fail
            refine (xor_as Hxq.out Hw64q.out Hp64.out Hwlt.out Hplt.out).mono ?_
            rintro en W3c1 ⟨rfl, hb⟩
            have hQ1 : Kept (fun _ => False) W3 W3c1 := kept_next hQ hb
            have hB1 : Below W3.heap.size W3 W3c1 := bel_next hB0 hb
            refine hK.out _ _ ⟨hQ1, ?_⟩
            clear hK K' hQ hb hB0
            refine takeH hQ1 (i := 10) (d := 117) (v := .bool false) rfl rfl (by kernel_rfl) (by kernel_rfl) (by kernel_rfl) (fun _ _ _ h => h) (Or.inl ⟨by kernel_rfl, fun w' hw' => by exact exec_neq_sector tySec _ _ _ rfl zq zq rfl rfl H64q.out H64q.out false (by simp)⟩) ?_
            refine takeH hQ1 (i := 11) (d := 118) (v := .bool false) rfl rfl (by kernel_rfl) (by kernel_rfl) (by kernel_rfl) (fun _ _ _ h => h) (Or.inl ⟨by kernel_rfl, fun w' hw' => by kernel_rfl⟩) ?_
            refine takeH hQ1 (i := 12) (d := 119) (v := .int .i64 (kk)) rfl rfl (by kernel_rfl) (by kernel_rfl) (by kernel_rfl) (fun _ _ _ h => h) (Or.inl ⟨by kernel_rfl, fun w' hw' => by kernel_rfl⟩) ?_
            refine takeH hQ1 (i := 13) (d := 120) (v := .bool true) rfl rfl (by kernel_rfl) (by kernel_rfl) (by kernel_rfl) (fun _ _ _ h => h) (Or.inl ⟨by kernel_rfl, fun w' hw' => by exact exec_eql _ _ rfl (kk) (0) rfl rfl true (by have := Hkk.out; simp; omega) rfl⟩) ?_
            try go_frame
            refine takeH hQ1 (i := 14) (d := 121) (v := .bool true) rfl rfl (by kernel_rfl) (by kernel_rfl) (by kernel_rfl) (fun _ _ _ h => h) (Or.inl ⟨by kernel_rfl, fun w' hw' => by kernel_rfl⟩) ?_
            refine takeH hQ1 (i := 15) (d := 122) (v := .agg (bA p)) rfl rfl (by kernel_rfl) (by kernel_rfl) (by kernel_rfl) (fun _ _ _ h => h) (Or.inl ⟨by kernel_rfl, fun w' hw' => by exact exec_load _ rfl (pb) rfl (HPb.out.kept hw' (fun h => h)) Try.underlying34 rfl (info_sec Hp64.out)⟩) ?_
            refine takeH hQ1 (i := 16) (d := 123) (v := .agg (bA (zeros 64))) rfl rfl (by kernel_rfl) (by kernel_rfl) (by kernel_rfl) (fun _ _ _ h => h) (Or.inl ⟨by kernel_rfl, fun w' hw' => by kernel_rfl⟩) ?_
            refine takeH hQ1 (i := 17) (d := 124) (v := .bool false) rfl rfl (by kernel_rfl) (by kernel_rfl) (by kernel_rfl) (fun _ _ _ h => h) (Or.inl ⟨by kernel_rfl, fun w' hw' => by exact exec_neq_sector tySec _ _ _ rfl p (zeros 64) rfl rfl Hp64.out (zeros_length 64) false (by simp [Hpz.out])⟩) ?_
            try go_frame
            refine takeH hQ1 (i := 18) (d := 125) (v := .bool false) rfl rfl (by kernel_rfl) (by kernel_rfl) (by kernel_rfl) (fun _ _ _ h => h) (Or.inl ⟨by kernel_rfl, fun w' hw' => by kernel_rfl⟩) ?_
            refine takeH hQ1 (i := 19) (d := 126) (v := .bool false) rfl rfl (by kernel_rfl) (by kernel_rfl) (by kernel_rfl) (fun _ _ _ h => h) (Or.inl ⟨by kernel_rfl, fun w' hw' => by kernel_rfl⟩) ?_
            refine wpAnyH_done (by kernel_rfl) ?_ _
            try go_frame
            have HA9 := Lib.hid (Below.trans HA3.out (hB1.mono HA3.out.size))
            clear hQ1 hB1
            generalize W3c1 = W4 at *
            have HEn := Lib.hid (And.intro (And.intro (HJb.out.below HA9.out) (Nat.le_trans HWb.out HA9.out.size)) (And.intro (HWr.out.below HA9.out) (And.intro (HDb9.out.below HA9.out HDb9.out.lt) (And.intro (HOb.out.below HA9.out HOb.out.lt) (HZb.out.below HA9.out HZb.out.lt)))))
            have HKf := Lib.hid ((keepsOthers_below HA9.out).from V9.heap.size)
            have HKr : Hid (KpRow c.v W1 W4) := Lib.hid (fun g' hg' => HA9.out.block g' (HJb.out.fresh (HFc.out g' hg')))
            gi_wp2
            exact ⟨HKf.out, HKr.out, HEn.out⟩
          · have Hkk := Lib.hid hkk
            clear hkk
            refine wpIn_region_heldIn (l := lb) (S := fun w' => Kept (fun _ => False) W3 w') (by kernel_rfl) (by kernel_rfl) (by rintro ⟨_, _, h9⟩; exact h9) ?_
            change wpAnyH _ _ _ _ _ _ _ _ (World.drew _)
            have hQ : Kept (fun _ => False) W3 W3.drew := (Kept.refl _ _).drew
            have hB0 : Below W3.heap.size W3 W3.drew := (Below.refl _ _).drew
            refine takeH hQ (i := 0) (d := 107) (v := .agg (bA zq)) rfl rfl (by kernel_rfl) (by kernel_rfl) (by kernel_rfl) (fun _ _ _ h => h) (Or.inl ⟨by kernel_rfl, fun w' hw' => by exact exec_load _ rfl (bx) rfl (HX3.out.kept hw' (fun h => h)) Try.underlying34 rfl (info_sec H64q.out)⟩) ?_
            refine takeH hQ (i := 1) (d := 108) (v := .slice (some ⟨G, 0, none⟩) (n) (n)) rfl rfl (by kernel_rfl) (by kernel_rfl) (by kernel_rfl) (fun _ _ _ h => h) (Or.inl ⟨by kernel_rfl, fun w' hw' => by exact exec_cellv _ rfl ⟨bw, 0, none⟩ rfl (.slice (some ⟨G, 0, none⟩) (n) (n)) Try.underlying44 rfl (((HBw.out.kept hw' (fun h => h)).cell 0).trans (rfl))⟩) ?_
            refine takeH hQ (i := 2) (d := 109) (v := .int .i64 ((i : Nat))) rfl rfl (by kernel_rfl) (by kernel_rfl) (by kernel_rfl) (fun _ _ _ h => h) (Or.inl ⟨by kernel_rfl, fun w' hw' => by exact exec_cell _ rfl ⟨zb, 0, none⟩ rfl _ Try.underlying3 (((HZ3.out.kept hw' (fun h => h)).cell 0).trans (rfl))⟩) ?_
            refine takeH hQ (i := 3) (d := 110) (v := .pointer (some ⟨G, i, none⟩)) rfl rfl (by kernel_rfl) (by kernel_rfl) (by kernel_rfl) (fun _ _ _ h => h) (Or.inl ⟨by kernel_rfl, fun w' hw' => by exact exec_indexW _ _ rfl G n n i rfl rfl Hin.out⟩) ?_
            try go_frame
            refine takeH hQ (i := 4) (d := 111) (v := .slice (some ⟨gb, 0, none⟩) (z.ss.length) (vc)) rfl rfl (by kernel_rfl) (by kernel_rfl) (by kernel_rfl) (fun _ _ _ h => h) (Or.inl ⟨by kernel_rfl, fun w' hw' => by exact exec_cellv _ rfl ⟨G, i, none⟩ rfl (.slice (some ⟨gb, 0, none⟩) z.ss.length vc) Try.underlying48 rfl (((Har3.out.kept hw' (fun h => h)).cell i).trans Hvi3.out)⟩) ?_
            refine takeH hQ (i := 5) (d := 112) (v := .int .i64 ((q : Nat))) rfl rfl (by kernel_rfl) (by kernel_rfl) (by kernel_rfl) (fun _ _ _ h => h) (Or.inl ⟨by kernel_rfl, fun w' hw' => by kernel_rfl⟩) ?_
            refine takeH hQ (i := 6) (d := 113) (v := .pointer (some ⟨gb, q * 64, none⟩)) rfl rfl (by kernel_rfl) (by kernel_rfl) (by kernel_rfl) (fun _ _ _ h => h) (Or.inl ⟨by kernel_rfl, fun w' hw' => by exact exec_indexK elFK _ _ rfl gb z.ss.length vc q rfl rfl Hql.out⟩) ?_
            refine takeH hQ (i := 7) (d := 114) (v := .agg (bA wq)) rfl rfl (by kernel_rfl) (by kernel_rfl) (by kernel_rfl) (fun _ _ _ h => h) (Or.inl ⟨by kernel_rfl, fun w' hw' => by exact exec_load_b _ _ rfl gb (q * 64) rfl wq _ (Hwq.out ▸ own_range (own_kept Hrow.out hw' (fun _ _ h => h)) Hwl2.out HR.out.at_.w64 q Hql.out) Try.underlying34 rfl (infoSecL Hw64q.out)⟩) ?_
            try go_frame
            refine takeH hQ (i := 8) (d := 115) (v := .agg (bA p)) rfl rfl (by kernel_rfl) (by kernel_rfl) (by kernel_rfl) (fun _ _ _ h => h) (Or.inl ⟨by kernel_rfl, fun w' hw' => by exact exec_load _ rfl (pb) rfl (HPb.out.kept hw' (fun h => h)) Try.underlying34 rfl (info_sec Hp64.out)⟩) ?_
            try go_frame
            refine nextH (i := 9) rfl (by kernel_rfl) (by kernel_rfl) (fun K' hK => ?_)
            go_wp2_with fail
            refine (xor_as Hxq.out Hw64q.out Hp64.out Hwlt.out Hplt.out).mono ?_
            rintro en W3c1 ⟨rfl, hb⟩
            have hQ1 : Kept (fun _ => False) W3 W3c1 := kept_next hQ hb
            have hB1 : Below W3.heap.size W3 W3c1 := bel_next hB0 hb
            refine hK.out _ _ ⟨hQ1, ?_⟩
            clear hK K' hQ hb hB0
            refine takeH hQ1 (i := 10) (d := 117) (v := .bool false) rfl rfl (by kernel_rfl) (by kernel_rfl) (by kernel_rfl) (fun _ _ _ h => h) (Or.inl ⟨by kernel_rfl, fun w' hw' => by exact exec_neq_sector tySec _ _ _ rfl zq zq rfl rfl H64q.out H64q.out false (by simp)⟩) ?_
            refine takeH hQ1 (i := 11) (d := 118) (v := .bool false) rfl rfl (by kernel_rfl) (by kernel_rfl) (by kernel_rfl) (fun _ _ _ h => h) (Or.inl ⟨by kernel_rfl, fun w' hw' => by kernel_rfl⟩) ?_
            refine takeH hQ1 (i := 12) (d := 119) (v := .int .i64 (kk)) rfl rfl (by kernel_rfl) (by kernel_rfl) (by kernel_rfl) (fun _ _ _ h => h) (Or.inl ⟨by kernel_rfl, fun w' hw' => by kernel_rfl⟩) ?_
            refine takeH hQ1 (i := 13) (d := 120) (v := .bool false) rfl rfl (by kernel_rfl) (by kernel_rfl) (by kernel_rfl) (fun _ _ _ h => h) (Or.inl ⟨by kernel_rfl, fun w' hw' => by exact exec_eql _ _ rfl (kk) (0) rfl rfl false (by have := Hkk.out; simp; omega) rfl⟩) ?_
            try go_frame
            refine takeH hQ1 (i := 14) (d := 121) (v := .bool false) rfl rfl (by kernel_rfl) (by kernel_rfl) (by kernel_rfl) (fun _ _ _ h => h) (Or.inl ⟨by kernel_rfl, fun w' hw' => by kernel_rfl⟩) ?_
            refine takeH hQ1 (i := 15) (d := 122) (v := undef) rfl rfl (by kernel_rfl) (by kernel_rfl) (by kernel_rfl) (fun _ _ _ h => h) (Or.inr ⟨by kernel_rfl, rfl⟩) ?_
            refine takeH hQ1 (i := 16) (d := 123) (v := undef) rfl rfl (by kernel_rfl) (by kernel_rfl) (by kernel_rfl) (fun _ _ _ h => h) (Or.inr ⟨by kernel_rfl, rfl⟩) ?_
            refine takeH hQ1 (i := 17) (d := 124) (v := undef) rfl rfl (by kernel_rfl) (by kernel_rfl) (by kernel_rfl) (fun _ _ _ h => h) (Or.inr ⟨by kernel_rfl, rfl⟩) ?_
            try go_frame
            refine takeH hQ1 (i := 18) (d := 125) (v := .bool false) rfl rfl (by kernel_rfl) (by kernel_rfl) (by kernel_rfl) (fun _ _ _ h => h) (Or.inl ⟨by kernel_rfl, fun w' hw' => by kernel_rfl⟩) ?_
            refine takeH hQ1 (i := 19) (d := 126) (v := .bool false) rfl rfl (by kernel_rfl) (by kernel_rfl) (by kernel_rfl) (fun _ _ _ h => h) (Or.inl ⟨by kernel_rfl, fun w' hw' => by kernel_rfl⟩) ?_
            refine wpAnyH_done (by kernel_rfl) ?_ _
            try go_frame
            have HA9 := Lib.hid (Below.trans HA3.out (hB1.mono HA3.out.size))
            clear hQ1 hB1
            generalize W3c1 = W4 at *
            have HEn := Lib.hid (And.intro (And.intro (HJb.out.below HA9.out) (Nat.le_trans HWb.out HA9.out.size)) (And.intro (HWr.out.below HA9.out) (And.intro (HDb9.out.below HA9.out HDb9.out.lt) (And.intro (HOb.out.below HA9.out HOb.out.lt) (HZb.out.below HA9.out HZb.out.lt)))))
            have HKf := Lib.hid ((keepsOthers_below HA9.out).from V9.heap.size)
            have HKr : Hid (KpRow c.v W1 W4) := Lib.hid (fun g' hg' => HA9.out.block g' (HJb.out.fresh (HFc.out g' hg')))
            gi_wp2
            exact ⟨HKf.out, HKr.out, HEn.out⟩
        case doner =>
          rintro Dd yz W2 hD rfl ⟨⟨hJa, _⟩, hWa, hDa, hOa, hZa⟩ hd
          have HMa := Lib.hid (Marks.cons hJ9.M hJ9.J.B.size hD hd hJa.M)
          have HJa : Hid (LvM w X Y S2 F2 (.slice az2 nz2 cz2) (.slice ac2 S2.R.cs.length cc2) (.slice ah2 S2.R.h.length ch2) ({ target := .collected Dd, args := #[] } :: ds) W2) := Lib.hid ⟨hJa.J, hJa.T, hJa.nT, HMa.out, hJa.nY⟩
          have HWa := Lib.hid hWa
          have HDa := Lib.hid hDa
          have HOa := Lib.hid hOa
          have Hspn : Hid (spV S2 (i : Int) ((z.ss.length : Nat) : Int) = (zeros 64, 0)) := Lib.hid (by unfold spV; rw [if_pos (by unfold lnD; rw [if_pos (by unfold dhB; have := HBd2.out.len; simp; omega), zsat_of Hz.out]; exact Int.le_refl _)])
          have Hqw : Hid ((Lit.int .i64 ((z.ss.length : Nat) : Int)).wf = true ∧ (Lit.int .i64 (i : Int)).wf = true) := Lib.hid ⟨wf_small (by omega) (by have := HL64.out; omega), wf_small (by omega) (by have := Hin.out; omega)⟩
          have c9 : W2.cell? ⟨xb, 0, none⟩ = some (.pointer (some ⟨X, 0, none⟩)) := blk_one hDa
          have cz : W2.cell? ⟨zb, 0, none⟩ = some (.int .i64 (i : Nat)) := blk_one hZa
          clear hJa hWa hDa hOa hZa hd HMa hJ9 hW9 hD9 hO9 hI9
          generalize ({ target := .collected Dd, args := #[] } :: ds : List Deferred) = ds2 at *
          go_wp2_with fail
          refine (pspt (i : Int) ((z.ss.length : Nat) : Int) Hqw.out.2 Hqw.out.1 (show pdAt w.heap.size W2 X S2 F2 from HJa.out.J.at_)).mono ?_
          rw [Hspn.out]
          rintro e W3 ⟨rfl, hb2⟩
          have HZf0 : Hid (ZnI w X Y xb bw G Q S2 F2 (.slice az2 nz2 cz2) (.slice ac2 S2.R.cs.length cc2) (.slice ah2 S2.R.h.length ch2) o (updP o.s S2.R.zs Wr (i + 1)) ds2 W3) := Lib.hid ⟨HJa.out.below hb2, ⟨_, HWa.out.below hb2⟩, HDa.out.below hb2 HDa.out.lt, HOa.out.below hb2 HOa.out.lt⟩
          clear hb2 c9 cz HJa HWa HDa HOa
          go_upto_region 27 with (first | (refine wpl_store_new rfl _ _ rfl (bA (zeros 64)) W3 34 (bA (zeros 64)) rfl rfl rfl (info_sec (zeros_length 64)) rfl (bA_one _) ?_; go_frame))
          have hb3 := below_alloc W3 (Obj.cells (bA (zeros 64)) 34)
          have HZf := Lib.hid (HZf0.out.below hb3)
          have HS8 := Lib.hid (Blk.new W3 34 (bA (zeros 64)))
          clear hb3 HZf0
          generalize W3.alloc (Obj.cells (bA (zeros 64)) 34) = W4 at *
          generalize W3.heap.size = sb at *
          go_wp2_with (first | (refine wpl_load_g (by rfl) _ rfl sb rfl _ _ _ (HS8.out) Try.underlying34 rfl (info_sec (zeros_length 64)) ?_; go_frame) | (refine wpl_build (by rfl) 34 _ rfl (.agg (bA (zeros 64))) (fun _ => by kernel_rfl) ?_; go_frame) | (refine wpl_run (by rfl) (.bool false) (exec_neq_sector tySec _ _ _ rfl (zeros 64) (zeros 64) rfl rfl (zeros_length 64) (zeros_length 64) false (by simp)) ?_; go_frame))
          exact ⟨RelZ.mk (i + 1) rfl ⟨rfl, rfl, rfl, rfl, rfl, rfl, rfl, rfl, rfl, rfl, (show Value.int .i64 ((i : Int) + 1) = .int .i64 ((i + 1 : Nat) : Int) by go_num)⟩ (by have := Hin.out; omega) HZf.out, by have := Hin.out; simp [intOf]; omega⟩
theorem walkPlanSpoilt (zones size opn : Int) (a : Option Addr) (len cap : Nat) (f : Nat → Op8) (w : World) (h0 : (Lit.int .i64 zones).wf = true) (h1 : (Lit.int .i64 size).wf = true) (h2 : (Lit.int .i64 opn).wf = true) (h3 : RowOp8 w a len cap f) : Calls Try.prog 4 #[.int .i64 zones, .int .i64 size, .int .i64 opn, .slice a len cap] w fun e w' => e = .returned (.bool true) ∧ Below w.heap.size w w' := by
  by_cases hr : ((1 ≤ zones ∧ zones ≤ 512) ∧ (1 ≤ size ∧ size ≤ 64) ∧ 1 ≤ opn ∧ opn ≤ 64)
  · obtain ⟨⟨r1, r2⟩, ⟨r3, r4⟩, r5, r6⟩ := hr
    obtain ⟨n, rfl⟩ := Int.eq_ofNat_of_zero_le (show 0 ≤ zones by omega)
    by_cases hz : 40 < n
    · exact psp_b n size opn a len cap w ⟨by omega, by omega⟩ ⟨r5, r6⟩ ⟨r3, r4⟩ hz
    · by_cases hl : 60 < len
      · exact psp_l n size opn a len cap w ⟨by omega, by omega⟩ ⟨r5, r6⟩ ⟨r3, r4⟩ hl
      · exact psp_t n size opn a len cap f w ⟨by omega, by omega⟩ ⟨r5, r6⟩ ⟨r3, r4⟩ h3 (by omega)
  · exact psp_n zones size opn a len cap w hr
end Go.Proofs.Ytajkajgnjcnolaa

