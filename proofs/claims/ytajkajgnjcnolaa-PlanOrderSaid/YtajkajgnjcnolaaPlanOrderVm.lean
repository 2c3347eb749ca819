import Derived.Test.YtajkajgnjcnolaaMo38
import Derived.Test.YtajkajgnjcnolaaMo28
import Derived.RangeFuncFrom
import Derived.Sort.CutIn
namespace Go.Proofs.Ytajkajgnjcnolaa
open Go.RowKit Go.Shelf
attribute [local go_sem] Oper.semAt_some
set_option linter.unusedVariables false
set_option linter.unnecessarySimpa false
set_option linter.unusedSimpArgs false
set_option maxRecDepth 100000 in
set_option maxHeartbeats 8000000 in
theorem por_n (zones size opn : Int) (a : Option Addr) (len cap : Nat) (w : World) (h : ¬ ((1 ≤ zones ∧ zones ≤ 512) ∧ (1 ≤ size ∧ size ≤ 64) ∧ 1 ≤ opn ∧ opn ≤ 64)) : Calls Try.prog 6 #[.int .i64 zones, .int .i64 size, .int .i64 opn, .slice a len cap] w fun e w' => e = .returned (.bool true) ∧ Below w.heap.size w w' := by
  have H := Lib.hid h
  clear h
  have HB0 := Lib.hid (below_alloc w (Obj.cells #[.bool false] 4))
  have HR0 := Lib.hid (Blk.new w 4 #[.bool false])
  refine calls_marks Try.func6 rfl ?_
  simp only [Try.ntmps6, List.size_toArray, List.length_cons, List.length_nil, Nat.reduceAdd, Nat.reduceSub, Array.replicate_succ, Array.replicate_zero, List.push_toArray, List.append_toArray, List.nil_append, List.cons_append]
  go_upto_region 1 with fail
  generalize w.alloc (Obj.cells #[.bool false] 4) = w0 at *
  go_wp2_with fail
  refine (anchor8_any theDrv w0).mono ?_
  rintro e w1 ⟨rfl, hb⟩
  have HR1 := Lib.hid (HR0.out.below hb HR0.out.lt)
  have HB1 := Lib.hid (bthen' HB0.out hb)
  clear HR0 HB0 hb
  go_wp2_with fail
  refine (started_no theDrv zones size opn w1 H.out).mono ?_
  rintro e w2 ⟨rfl, hb⟩
  have hb2 : Below w2.heap.size w2 ((w2.alloc (Obj.cells #[.pointer none] 24)).alloc (Obj.cells d8Z 30)) := bthen (below_alloc _ _) (below_alloc _ _)
  have HB2 := Lib.hid (bthen' HB1.out (bthen' hb hb2))
  have HR2 := Lib.hid ((HR1.out.below hb HR1.out.lt).below hb2 (HR1.out.below hb HR1.out.lt).lt)
  clear hb HR1 HB1 hb2
  go_upto_region 4 with (first | (refine wpl_store_new rfl _ _ rfl d8Z (w2.alloc (Obj.cells #[.pointer none] 24)) 30 d8Z rfl (by rw [World.size_alloc]; rfl) rfl Try.info8D rfl d8Z_one ?_; go_frame))
  generalize ((w2.alloc (Obj.cells #[.pointer none] 24)).alloc (Obj.cells d8Z 30)) = w3 at *
  have cR := blk_one HR2.out
  have fR := (HR2.out).frozen 0
  go_wp2_with fail
  exact leave_marks (Marks.nil w.heap.size _) (fun w' hw' => ⟨_, results_cell1 Try.results6 _ _ ⟨w.heap.size, 0, none⟩ (.bool true) rfl (agg_bool _) (blk_one (hw'.same _ _ _ (blk_set1 (HR2.out) (.bool true)))), rfl, ((HB2.out).setCell (p := ⟨w.heap.size, 0, none⟩) (Nat.le_refl _) _).trans hw'.bel⟩)
set_option maxRecDepth 100000 in
set_option maxHeartbeats 8000000 in
theorem por_b (n : Nat) (size opn : Int) (a : Option Addr) (len cap : Nat) (w : World) (h1 : 1 ≤ n ∧ n ≤ 512) (h2 : 1 ≤ opn ∧ opn ≤ 64) (h3 : 1 ≤ size ∧ size ≤ 64) (hb : 40 < n) : Calls Try.prog 6 #[.int .i64 (n : Nat), .int .i64 size, .int .i64 opn, .slice a len cap] w fun e w' => e = .returned (.bool true) ∧ Below w.heap.size w w' := by
  have H := Lib.hid hb
  clear hb
  have HB0 := Lib.hid (below_alloc w (Obj.cells #[.bool false] 4))
  have HR0 := Lib.hid (Blk.new w 4 #[.bool false])
  refine calls_marks Try.func6 rfl ?_
  simp only [Try.ntmps6, List.size_toArray, List.length_cons, List.length_nil, Nat.reduceAdd, Nat.reduceSub, Array.replicate_succ, Array.replicate_zero, List.push_toArray, List.append_toArray, List.nil_append, List.cons_append]
  go_upto_region 1 with fail
  generalize w.alloc (Obj.cells #[.bool false] 4) = w0 at *
  go_wp2_with fail
  refine (anchor8_any theDrv w0).mono ?_
  rintro e w1 ⟨rfl, hb⟩
  have HR1 := Lib.hid (HR0.out.below hb HR0.out.lt)
  have HB1 := Lib.hid (bthen' HB0.out hb)
  clear HR0 HB0 hb
  go_wp2_with fail
  refine (started_big theDrv n size opn w1 h1 h2 h3 H.out).mono ?_
  rintro e w2 ⟨rfl, hb⟩
  have hb2 : Below w2.heap.size w2 ((w2.alloc (Obj.cells #[.pointer none] 24)).alloc (Obj.cells d8Z 30)) := bthen (below_alloc _ _) (below_alloc _ _)
  have HB2 := Lib.hid (bthen' HB1.out (bthen' hb hb2))
  have HR2 := Lib.hid ((HR1.out.below hb HR1.out.lt).below hb2 (HR1.out.below hb HR1.out.lt).lt)
  clear hb HR1 HB1 hb2
  go_upto_region 4 with (first | (refine wpl_store_new rfl _ _ rfl d8Z (w2.alloc (Obj.cells #[.pointer none] 24)) 30 d8Z rfl (by rw [World.size_alloc]; rfl) rfl Try.info8D rfl d8Z_one ?_; go_frame))
  generalize ((w2.alloc (Obj.cells #[.pointer none] 24)).alloc (Obj.cells d8Z 30)) = w3 at *
  have cR := blk_one HR2.out
  have fR := (HR2.out).frozen 0
  go_wp2_with fail
  exact leave_marks (Marks.nil w.heap.size _) (fun w' hw' => ⟨_, results_cell1 Try.results6 _ _ ⟨w.heap.size, 0, none⟩ (.bool true) rfl (agg_bool _) (blk_one (hw'.same _ _ _ (blk_set1 (HR2.out) (.bool true)))), rfl, ((HB2.out).setCell (p := ⟨w.heap.size, 0, none⟩) (Nat.le_refl _) _).trans hw'.bel⟩)
set_option maxRecDepth 100000 in
set_option maxHeartbeats 8000000 in
theorem por_l (n : Nat) (size opn : Int) (a : Option Addr) (len cap : Nat) (w : World) (h1 : 1 ≤ n ∧ n ≤ 40) (h2 : 1 ≤ opn ∧ opn ≤ 64) (h3 : 1 ≤ size ∧ size ≤ 64) (hl : 60 < len) : Calls Try.prog 6 #[.int .i64 (n : Nat), .int .i64 size, .int .i64 opn, .slice a len cap] w fun e w' => e = .returned (.bool true) ∧ Below w.heap.size w w' := by
  have dl : decide ((60 : Int) < (len : Int)) = true := decide_eq_true (by omega)
  have HB0 := Lib.hid (below_alloc w (Obj.cells #[.bool false] 4))
  have HR0 := Lib.hid (Blk.new w 4 #[.bool false])
  refine calls_marks Try.func6 rfl ?_
  simp only [Try.ntmps6, List.size_toArray, List.length_cons, List.length_nil, Nat.reduceAdd, Nat.reduceSub, Array.replicate_succ, Array.replicate_zero, List.push_toArray, List.append_toArray, List.nil_append, List.cons_append]
  go_upto_region 1 with fail
  generalize w.alloc (Obj.cells #[.bool false] 4) = w0 at *
  go_wp2_with fail
  refine (anchor8_any theDrv w0).mono ?_
  rintro e w1 ⟨rfl, hb⟩
  have HR1 := Lib.hid (HR0.out.below hb HR0.out.lt)
  have HB1 := Lib.hid (bthen' HB0.out hb)
  clear HR0 HB0 hb
  go_wp2_with fail
  refine (started_ok theDrv (lo := w.heap.size) n size opn w1 h1 h2 h3 HB1.out.size).mono ?_
  rintro e w2 ⟨X, F, az, nz, cz, rfl, hA, hD, hb⟩
  have HR2 := Lib.hid (HR1.out.below hb HR1.out.lt)
  have HnT : Hid (¬ F w.heap.size) := Lib.hid (pdAt.notT hA HR2.out (by decide) (by decide) (by decide) (by decide) (by decide) (by decide))
  go_upto_region 4 with (first | (refine wpl_store_new rfl _ _ rfl (d8A (d70 size opn) (.slice az nz cz) (.slice none 0 0) (.slice none 0 0)) (w2.alloc (Obj.cells #[.pointer (some ⟨X, 0, none⟩)] 24)) 30 d8Z rfl (by rw [World.size_alloc]; rfl) rfl Try.info8D rfl (d8A_one _ _ _ _ _ _ _ _ _ _) ?_; go_frame))
  have hbx := below_alloc w2 (Obj.cells #[.pointer (some ⟨X, 0, none⟩)] 24)
  have HDb : Hid (Blk ((w2.alloc (Obj.cells #[.pointer (some ⟨X, 0, none⟩)] 24)).alloc (Obj.cells (d8A (d70 size opn) (.slice az nz cz) (.slice none 0 0) (.slice none 0 0)) 30)) w2.heap.size 24 #[.pointer (some ⟨X, 0, none⟩)]) := Lib.hid ((Blk.new w2 24 #[.pointer (some ⟨X, 0, none⟩)]).alloc _)
  have HnD : Hid (¬ F w2.heap.size) := Lib.hid (fun hi => Nat.lt_irrefl _ (theDrv.lt hA hi))
  have hb2 : Below w2.heap.size w2 ((w2.alloc (Obj.cells #[.pointer (some ⟨X, 0, none⟩)] 24)).alloc (Obj.cells (d8A (d70 size opn) (.slice az nz cz) (.slice none 0 0) (.slice none 0 0)) 30)) := bthen hbx (below_alloc _ _)
  have hbY : Blk ((w2.alloc (Obj.cells #[.pointer (some ⟨X, 0, none⟩)] 24)).alloc (Obj.cells (d8A (d70 size opn) (.slice az nz cz) (.slice none 0 0) (.slice none 0 0)) 30)) (w2.heap.size + 1) 30 (d8A (d70 size opn) (.slice az nz cz) (.slice none 0 0) (.slice none 0 0)) := by
    have h9 := Blk.new (w2.alloc (Obj.cells #[.pointer (some ⟨X, 0, none⟩)] 24)) 30 (d8A (d70 size opn) (.slice az nz cz) (.slice none 0 0) (.slice none 0 0))
    rwa [show (w2.alloc (Obj.cells #[.pointer (some ⟨X, 0, none⟩)] 24)).heap.size = w2.heap.size + 1 by simp] at h9
  have HJ : Hid (LvM w X (w2.heap.size + 1) (st80 n size opn) F (.slice az nz cz) (.slice none 0 0) (.slice none 0 0) [] ((w2.alloc (Obj.cells #[.pointer (some ⟨X, 0, none⟩)] 24)).alloc (Obj.cells (d8A (d70 size opn) (.slice az nz cz) (.slice none 0 0) (.slice none 0 0)) 30))) := Lib.hid ⟨⟨theDrv.below hA hb2, hD.below hb2, hbY, (bthen' HB1.out (bthen' hb hb2)), by have := HB1.out.size; have := hb.size; omega⟩, HR2.out.below hb2 HR2.out.lt, HnT.out, Marks.nil _ _, by have := HR2.out.lt; omega⟩
  have HnY : Hid (w2.heap.size ≠ w2.heap.size + 1 ∧ w.heap.size < w2.heap.size) := Lib.hid ⟨by omega, HR2.out.lt⟩
  clear hA hD hb hb2 HB1 HR1 HR2 hbY HnT hbx
  generalize ((w2.alloc (Obj.cells #[.pointer (some ⟨X, 0, none⟩)] 24)).alloc (Obj.cells (d8A (d70 size opn) (.slice az nz cz) (.slice none 0 0) (.slice none 0 0)) 30)) = W0 at *
  generalize w2.heap.size + 1 = Y at *
  generalize w2.heap.size = xb at *
  have cR := blk_one HJ.out.T
  have fR := (HJ.out.T).frozen 0
  go_wp2_with fail
  exact leave_marks (Marks.nil w.heap.size _) (fun w' hw' => ⟨_, results_cell1 Try.results6 _ _ ⟨w.heap.size, 0, none⟩ (.bool true) rfl (agg_bool _) (blk_one (hw'.same _ _ _ (blk_set1 (HJ.out.T) (.bool true)))), rfl, ((HJ.out.J.B).setCell (p := ⟨w.heap.size, 0, none⟩) (Nat.le_refl _) _).trans hw'.bel⟩)
def frO (g : Nat → Value) : Array Value := ((List.range 90).map g).toArray
theorem frO_of {t : Array Value} (h : t.size = 90) : t = frO (fun i => t.getD i undef) := by
  apply Array.ext'
  apply List.ext_getElem
  · simp [frO, h]
  · intro i h1 h2
    simp only [frO, List.getElem_map, List.getElem_range]
    have h1' : i < t.size := by simpa using h1
    simp [Array.getD, h1']
theorem frO_lit (g : Nat → Value) : frO g = #[g 0, g 1, g 2, g 3, g 4, g 5, g 6, g 7, g 8, g 9, g 10, g 11, g 12, g 13, g 14, g 15, g 16, g 17, g 18, g 19, g 20, g 21, g 22, g 23, g 24, g 25, g 26, g 27, g 28, g 29, g 30, g 31, g 32, g 33, g 34, g 35, g 36, g 37, g 38, g 39, g 40, g 41, g 42, g 43, g 44, g 45, g 46, g 47, g 48, g 49, g 50, g 51, g 52, g 53, g 54, g 55, g 56, g 57, g 58, g 59, g 60, g 61, g 62, g 63, g 64, g 65, g 66, g 67, g 68, g 69, g 70, g 71, g 72, g 73, g 74, g 75, g 76, g 77, g 78, g 79, g 80, g 81, g 82, g 83, g 84, g 85, g 86, g 87, g 88, g 89] := by kernel_rfl
structure FxO (xb Y : Nat) (a : Option Addr) (len cap m : Nat) (n0 j : Nat) (g : Nat → Value) : Prop where
  s8 : g 8 = .pointer (some ⟨n0, 0, none⟩)
  s9 : g 9 = .pointer (some ⟨xb, 0, none⟩)
  s10 : g 10 = .pointer (some ⟨Y, 0, none⟩)
  s12 : g 12 = .int .i64 (m : Nat)
  s36 : g 36 = .slice a len cap
  s37 : g 37 = .int .i64 (len : Nat)
  s38 : g 38 = .int .i64 (j : Nat)
def lastA (l : List EvR) : Int := (l.getLast?.map EvR.at_).getD (-1)
theorem lastA_nil : lastA [] = -1 := rfl
theorem lastA_snoc (l : List EvR) (x : EvR) : lastA (l ++ [x]) = x.at_ := by simp [lastA]
theorem lastA_ok {pre es : List EvR} {x : EvR} (hs : SortE es) (hp : ∀ e ∈ es, 0 ≤ e.at_) (h : pre ++ [x] <+: es) : lastA pre ≤ x.at_ := by
  have hx : x ∈ es := h.subset (by simp)
  unfold lastA
  cases hl : pre.getLast? with
  | none => have := hp x hx; simp; omega
  | some y =>
    obtain ⟨t, ht⟩ := h
    obtain ⟨pre', rfl⟩ : ∃ p, pre = p ++ [y] := ⟨_, (List.getLast?_eq_some_iff.1 hl).choose_spec⟩
    have hs' : SortE ((pre' ++ [y]) ++ ([x] ++ t)) := by rw [← List.append_assoc, ht]; exact hs
    have := (List.pairwise_append.1 hs').2.2 y (by simp) x (by simp)
    simpa using this
def RelO (n X : Nat) (xb Y : Nat) (a : Option Addr) (len cap : Nat) (w : World) (a' : Act) (V : World) : Prop :=
  ∃ (m j : Nat) (ds : List Deferred) (g : Nat → Value), a' = { tmps := frO g, defers := ds } ∧ FxO xb Y a len cap m w.heap.size j g ∧ j ≤ len ∧ ∃ (S : St8) (F : Nat → Prop) (az : Option Addr) (nz cz : Nat) (ac : Option Addr) (cc : Nat) (ah : Option Addr) (ch : Nat), m ≤ j ∧ Bd S n j ∧ OrI S m ∧ LvM w X Y S F (.slice az nz cz) (.slice ac S.R.cs.length cc) (.slice ah S.R.h.length ch) ds V ∧ Blk V xb 24 #[.pointer (some ⟨X, 0, none⟩)] ∧ ¬ F xb
theorem RelO.mk {n X : Nat} {xb Y : Nat} {a : Option Addr} {len cap m : Nat} {w V : World} {t : Array Value} {ds : List Deferred} (j : Nat) (h : t.size = 90) (hf : FxO xb Y a len cap m w.heap.size j (fun i => t.getD i undef)) (hj : j ≤ len) (hI : ∃ (S : St8) (F : Nat → Prop) (az : Option Addr) (nz cz : Nat) (ac : Option Addr) (cc : Nat) (ah : Option Addr) (ch : Nat), m ≤ j ∧ Bd S n j ∧ OrI S m ∧ LvM w X Y S F (.slice az nz cz) (.slice ac S.R.cs.length cc) (.slice ah S.R.h.length ch) ds V ∧ Blk V xb 24 #[.pointer (some ⟨X, 0, none⟩)] ∧ ¬ F xb) : RelO n X xb Y a len cap w { tmps := t, defers := ds } V :=
  ⟨m, j, ds, fun i => t.getD i undef, by rw [← frO_of h], hf, hj, hI⟩
set_option maxRecDepth 100000 in
set_option maxHeartbeats 8000000 in
theorem por_t (n : Nat) (size opn : Int) (a : Option Addr) (len cap : Nat) (f : Nat → Op8) (w : World) (h1 : 1 ≤ n ∧ n ≤ 40) (h2 : 1 ≤ opn ∧ opn ≤ 64) (h3 : 1 ≤ size ∧ size ≤ 64) (hops : RowOp8 w a len cap f) (hl : len ≤ 60) : Calls Try.prog 6 #[.int .i64 (n : Nat), .int .i64 size, .int .i64 opn, .slice a len cap] w fun e w' => e = .returned (.bool true) ∧ Below w.heap.size w w' := by
  have dl : decide ((60 : Int) < (len : Int)) = false := decide_eq_false (by omega)
  have Hops := Lib.hid hops
  obtain ⟨m1, m2⟩ : len ≤ cap ∧ cap ≤ 9223372036854775807 := by have h := hops.max; unfold maxLen at h; exact ⟨hops.le, h⟩
  clear hops
  have HB0 := Lib.hid (below_alloc w (Obj.cells #[.bool false] 4))
  have HR0 := Lib.hid (Blk.new w 4 #[.bool false])
  refine calls_marks Try.func6 rfl ?_
  simp only [Try.ntmps6, List.size_toArray, List.length_cons, List.length_nil, Nat.reduceAdd, Nat.reduceSub, Array.replicate_succ, Array.replicate_zero, List.push_toArray, List.append_toArray, List.nil_append, List.cons_append]
  go_upto_region 1 with fail
  generalize w.alloc (Obj.cells #[.bool false] 4) = w0 at *
  go_wp2_with fail
  refine (anchor8_any theDrv w0).mono ?_
  rintro e w1 ⟨rfl, hb⟩
  have HR1 := Lib.hid (HR0.out.below hb HR0.out.lt)
  have HB1 := Lib.hid (bthen' HB0.out hb)
  clear HR0 HB0 hb
  go_wp2_with fail
  refine (started_ok theDrv (lo := w.heap.size) n size opn w1 h1 h2 h3 HB1.out.size).mono ?_
  rintro e w2 ⟨X, F, az, nz, cz, rfl, hA, hD, hb⟩
  have HR2 := Lib.hid (HR1.out.below hb HR1.out.lt)
  have HnT : Hid (¬ F w.heap.size) := Lib.hid (pdAt.notT hA HR2.out (by decide) (by decide) (by decide) (by decide) (by decide) (by decide))
  go_upto_region 4 with (first | (refine wpl_store_new rfl _ _ rfl (d8A (d70 size opn) (.slice az nz cz) (.slice none 0 0) (.slice none 0 0)) (w2.alloc (Obj.cells #[.pointer (some ⟨X, 0, none⟩)] 24)) 30 d8Z rfl (by rw [World.size_alloc]; rfl) rfl Try.info8D rfl (d8A_one _ _ _ _ _ _ _ _ _ _) ?_; go_frame))
  have hbx := below_alloc w2 (Obj.cells #[.pointer (some ⟨X, 0, none⟩)] 24)
  have HDb : Hid (Blk ((w2.alloc (Obj.cells #[.pointer (some ⟨X, 0, none⟩)] 24)).alloc (Obj.cells (d8A (d70 size opn) (.slice az nz cz) (.slice none 0 0) (.slice none 0 0)) 30)) w2.heap.size 24 #[.pointer (some ⟨X, 0, none⟩)]) := Lib.hid ((Blk.new w2 24 #[.pointer (some ⟨X, 0, none⟩)]).alloc _)
  have HnD : Hid (¬ F w2.heap.size) := Lib.hid (fun hi => Nat.lt_irrefl _ (theDrv.lt hA hi))
  have hb2 : Below w2.heap.size w2 ((w2.alloc (Obj.cells #[.pointer (some ⟨X, 0, none⟩)] 24)).alloc (Obj.cells (d8A (d70 size opn) (.slice az nz cz) (.slice none 0 0) (.slice none 0 0)) 30)) := bthen hbx (below_alloc _ _)
  have hbY : Blk ((w2.alloc (Obj.cells #[.pointer (some ⟨X, 0, none⟩)] 24)).alloc (Obj.cells (d8A (d70 size opn) (.slice az nz cz) (.slice none 0 0) (.slice none 0 0)) 30)) (w2.heap.size + 1) 30 (d8A (d70 size opn) (.slice az nz cz) (.slice none 0 0) (.slice none 0 0)) := by
    have h9 := Blk.new (w2.alloc (Obj.cells #[.pointer (some ⟨X, 0, none⟩)] 24)) 30 (d8A (d70 size opn) (.slice az nz cz) (.slice none 0 0) (.slice none 0 0))
    rwa [show (w2.alloc (Obj.cells #[.pointer (some ⟨X, 0, none⟩)] 24)).heap.size = w2.heap.size + 1 by simp] at h9
  have HJ : Hid (LvM w X (w2.heap.size + 1) (st80 n size opn) F (.slice az nz cz) (.slice none 0 0) (.slice none 0 0) [] ((w2.alloc (Obj.cells #[.pointer (some ⟨X, 0, none⟩)] 24)).alloc (Obj.cells (d8A (d70 size opn) (.slice az nz cz) (.slice none 0 0) (.slice none 0 0)) 30))) := Lib.hid ⟨⟨theDrv.below hA hb2, hD.below hb2, hbY, (bthen' HB1.out (bthen' hb hb2)), by have := HB1.out.size; have := hb.size; omega⟩, HR2.out.below hb2 HR2.out.lt, HnT.out, Marks.nil _ _, by have := HR2.out.lt; omega⟩
  have HnY : Hid (w2.heap.size ≠ w2.heap.size + 1 ∧ w.heap.size < w2.heap.size) := Lib.hid ⟨by omega, HR2.out.lt⟩
  clear hA hD hb hb2 HB1 HR1 HR2 hbY HnT hbx
  generalize ((w2.alloc (Obj.cells #[.pointer (some ⟨X, 0, none⟩)] 24)).alloc (Obj.cells (d8A (d70 size opn) (.slice az nz cz) (.slice none 0 0) (.slice none 0 0)) 30)) = W0 at *
  generalize w2.heap.size + 1 = Y at *
  generalize w2.heap.size = xb at *
  have HBd : Hid (Bd (st80 n size opn) n 0) := Lib.hid ⟨Int.le_refl _, Int.le_refl _, Nat.zero_le _, Nat.zero_le _, List.length_replicate⟩
  have HOr : Hid (OrI (st80 n size opn) 0) := Lib.hid ⟨List.Pairwise.nil, by simp [st80], by simp [st80], rfl⟩
  have HnY2 : Hid (xb ≠ Y ∧ w.heap.size < xb) := HnY
  clear HnY
  go_wp2_with fail
  refine wp_loop (RelO n X xb Y a len cap w) (fun a' _ => (len - (intOf (a'.tmps.getD 38 undef)).toNat)) ?start ?round
  case start =>
    exact RelO.mk (m := 0) 0 rfl ⟨rfl, rfl, rfl, rfl, rfl, rfl, rfl⟩ (Nat.zero_le _) ⟨st80 n size opn, F, az, nz, cz, none, 0, none, 0, Nat.le_refl _, HBd.out, HOr.out, HJ.out, HDb.out, HnD.out⟩
  case round =>
    rintro a' V ⟨m, j, ds, g, rfl, hfx, hj, S, F, az, nz, cz, ac, cc, ah, ch, hmj, hbd, hor, hJ, hDb, hnD⟩
    rw [frO_lit g]
    simp only [hfx.s8, hfx.s9, hfx.s10, hfx.s12, hfx.s36, hfx.s37, hfx.s38]
    clear hfx
    have HJr := Lib.hid hJ
    have HBd := Lib.hid hbd
    have HOr := Lib.hid hor
    have HDr := Lib.hid hDb
    have HnDr := Lib.hid hnD
    clear hbd hor hJ HJ hDb hnD HDb HnD
    by_cases hlt : j < len
    case neg =>
      have hje : j = len := by omega
      clear hje
      have cR := blk_one HJr.out.T
      have fR := (HJr.out.T).frozen 0
      go_wp2_with fail
      exact leave_marks (HJr.out.M.mono (KeepsOthers.setCell _ _ _)) (fun w' hw' => ⟨_, results_cell1 Try.results6 _ _ ⟨w.heap.size, 0, none⟩ (.bool true) rfl (agg_bool _) (blk_one (hw'.same _ _ _ (blk_set1 (HJr.out.T) (.bool true)))), rfl, ((HJr.out.J.B).setCell (p := ⟨w.heap.size, 0, none⟩) (Nat.le_refl _) _).trans hw'.bel⟩)
    obtain ⟨b, off, rfl, hat, hok⟩ := Hops.out.at_ HJr.out.J.B j hlt
    generalize f j = o at *
    have Ho := Lib.hid hok
    have Hat := Lib.hid hat
    have hOp0 : (zeroValue 39).run Try.prog V = .ok (.agg (op8A op80)) V := by kernel_rfl
    clear hat hok
    go_upto_region 10 with (first | (refine wpl_load_at (by rfl) 39 _ rfl b (off + j * 136) rfl (op8A o) _ Hat.out Try.underlying39 rfl (info_op8 Ho.out.len Ho.out.ev.len) ?_; go_frame) | (refine wpl_store_new rfl _ _ rfl (op8A o) V 39 (op8A op80) rfl rfl rfl (info_op8 Ho.out.len Ho.out.ev.len) (by rw [op8A_size Ho.out.len Ho.out.ev.len, op8A_size (zeros_length 64) (zeros_length 64)]) (op8A_one o) ?_; go_frame))
    have hbO := below_alloc V (Obj.cells (op8A o) 39)
    have HJ1 := Lib.hid (HJr.out.below hbO)
    have HO1 := Lib.hid (Blk.new V 39 (op8A o))
    have HD1 := Lib.hid (HDr.out.below hbO HDr.out.lt)
    clear hbO HJr hOp0 Hat HDr
    generalize V.alloc (Obj.cells (op8A o) 39) = wr1 at *
    generalize V.heap.size = Q at *
    have k0 : wr1.cell? ⟨Q, 0, none⟩ = some (.int .i64 o.k) := (HO1.out.cell 0).trans (op8_0 o)
    -- planned
    obtain ⟨m2, hm2⟩ : ∃ m2, m2 = (if o.k = 7 ∧ evRight o.e = true then m + 1 else m) := ⟨_, rfl⟩
    have Hm2 := Lib.hid hm2
    have key : ∀ (wr2 : World) (tm : Array Value), True := fun _ _ => trivial
    clear hm2 key
    have hm60 : (m : Int) ≤ 60 := by omega
    have HPL : Hid (m2 ≤ j + 1 ∧ m < 256) := Lib.hid (by
      rw [Hm2.out]
      refine ⟨?_, by omega⟩
      split <;> omega)
    by_cases h7 : o.k = 7
    case pos =>
      have d7 : decide (o.k = 7) = true := decide_eq_true h7
      have H7 := Lib.hid h7
      clear h7
      go_wp2_with (first | (refine wpl_load_ev (by rfl) _ _ rfl Q 68 rfl o.e _ (op8_ev HO1.out Ho.out.len) Try.underlying37 rfl (info_evL Ho.out.ev.len) ?_; go_frame))
      refine (pright o.e wr1 Ho.out.ev.len).mono ?_
      rintro e wr2 ⟨rfl, hb2⟩
      have HJ2 := Lib.hid (HJ1.out.below hb2)
      have HO2 := Lib.hid (HO1.out.below hb2 HO1.out.lt)
      have HD2 := Lib.hid (HD1.out.below hb2 HD1.out.lt)
      clear hb2 HJ1 HO1 HD1 k0 d7
      have k0 : wr2.cell? ⟨Q, 0, none⟩ = some (.int .i64 o.k) := (HO2.out.cell 0).trans (op8_0 o)
      have HJ1 := HJ2
      have HO1 := HO2
      have HD1 := HD2
      clear HJ2 HO2 HD2
      have h8 : ¬ o.k = 8 := by have := H7.out; omega
      have d8 : decide (o.k = 8) = false := decide_eq_false h8
      have H8 := Lib.hid h8
      by_cases hr : evRight o.e = true
      · have Hm3 : Hid ((m : Int) + 1 = (m2 : Int)) := Lib.hid (by rw [Hm2.out, if_pos ⟨H7.out, hr⟩]; rfl)
        rw [hr]
        clear hr h8
        go_upto_region 12 with fail
        rw [Hm3.out]
        have h8 := H8.out
        have c9 : wr2.cell? ⟨xb, 0, none⟩ = some (.pointer (some ⟨X, 0, none⟩)) := blk_one HD1.out
        have hor2 := HOr.out.next o h8 HPL.out.2
        rw [← Hm2.out] at hor2
        clear h8
        go_wp2_with (first | (refine wpl_load rfl _ rfl Y rfl _ _ _ (HJ1.out.J.bY) Try.underlying30 rfl Try.info8D ?_; go_frame) | (refine wpl_load rfl _ rfl Q rfl _ _ _ (HO1.out) Try.underlying39 rfl (info_op8 Ho.out.len Ho.out.ev.len) ?_; go_frame))
        refine (st8_all o Ho.out HJ1.out.J.B (Nat.le_refl _) HJ1.out.J.at_ (HBd.out.fine (by omega)) HJ1.out.J.dc HJ1.out.J.B.size).mono ?_
        have hbd2 := HBd.out.next o HJ1.out.J.dc.cs.ok (theDrv.sane HJ1.out.J.at_)
        obtain ⟨S2, hS2⟩ : ∃ S2, st8 S o = S2 := ⟨_, rfl⟩
        rw [hS2] at hbd2 hor2 ⊢
        have HBd2 := Lib.hid hbd2
        have HOr2 := Lib.hid hor2
        clear hbd2 hS2 hor2 k0 d8 c9
        rintro e w3 ⟨az2, nz2, cz2, ac2, cc2, ah2, ch2, rfl, hD3, hT3⟩
        have HT3 := Lib.hid hT3
        have HD3 := Lib.hid hD3
        have HY3 : Hid (Blk w3 Y 30 (d8A (dd7 S.R.d) (.slice az nz cz) (.slice ac S.R.cs.length cc) (.slice ah S.R.h.length ch))) := Lib.hid (hT3.blk HJ1.out.J.at_ HJ1.out.J.bY (by decide))
        clear hT3 hD3
        go_upto_region 15 with (first | (refine wpl_store rfl _ _ rfl Y (d8A (dd7 S2.R.d) (.slice az2 nz2 cz2) (.slice ac2 S2.R.cs.length cc2) (.slice ah2 S2.R.h.length ch2)) rfl rfl _ _ HY3.out Try.info8D rfl (d8A_one _ _ _ _ _ _ _ _ _ _) ?_; intro w4 hY4 hK4; have HN4 := Lib.hid (HJ1.out.next HD3.out HT3.out hY4 hK4); clear hY4 hK4; go_frame))
        obtain ⟨F2, hJ4, hn4⟩ := HN4.out
        obtain ⟨hDx, hnx⟩ := hn4 xb _ _ HD1.out HnDr.out HnY2.out.1
        have HJ4 := Lib.hid hJ4
        have HD4 := Lib.hid hDx
        have HnD4 := Lib.hid hnx
        clear hJ4 hn4 hDx hnx HN4 HT3 HD3 HY3 HJ1 HO1 HD1
        go_upto_region 19 with fail
        have hb5 := below_alloc w4 (Obj.cells #[.int .i64 (-1)] 3)
        have hb6 := below_alloc (w4.alloc (Obj.cells #[.int .i64 (-1)] 3)) (Obj.cells #[.int .i64 0] 3)
        have HJ6 := Lib.hid (HJ4.out.below (bthen' hb5 hb6))
        have HD6 := Lib.hid (HD4.out.below (bthen' hb5 hb6) HD4.out.lt)
        have HL6 := Lib.hid ((Blk.new w4 3 #[.int .i64 (-1)]).alloc (Obj.cells #[.int .i64 0] 3))
        have hx6 := Blk.new (w4.alloc (Obj.cells #[.int .i64 (-1)] 3)) 3 #[.int .i64 0]
        rw [World.size_alloc] at hx6
        have HN6 := Lib.hid hx6
        have Hlb : Hid (w.heap.size < w4.heap.size ∧ ¬ F2 w4.heap.size ∧ w4.heap.size ≠ w4.heap.size + 1 ∧ w4.heap.size ≠ xb) := Lib.hid ⟨by have := HJ4.out.T.lt; exact this, fun hi => Nat.lt_irrefl _ (HJ4.out.fresh hi), by omega, by have := HD4.out.lt; omega⟩
        have Hnb : Hid (w.heap.size < w4.heap.size + 1 ∧ ¬ F2 (w4.heap.size + 1) ∧ w4.heap.size + 1 ≠ xb) := Lib.hid ⟨by have := HJ4.out.T.lt; omega, fun hi => by have := HJ4.out.fresh hi; omega, by have := HD4.out.lt; omega⟩
        have Hhn : Hid (S2.R.h.length + S2.R.cs.length ≤ 1000000) := Lib.hid (by have := HBd2.out.h; omega)
        have Hnum : Hid (S2.R.cs.length + S2.R.h.length = m2) := Lib.hid (by have := HOr2.out.num; omega)
        clear hb5 hb6 hx6 HJ4 HD4
        generalize (w4.alloc (Obj.cells #[.int .i64 (-1)] 3)).alloc (Obj.cells #[.int .i64 0] 3) = w6 at *
        generalize w4.heap.size + 1 = nb at *
        generalize w4.heap.size = lb at *
        have c9 : w6.cell? ⟨xb, 0, none⟩ = some (.pointer (some ⟨X, 0, none⟩)) := blk_one HD6.out
        go_wp2_with fail
        refine (pcom_call (show pdAt w.heap.size w6 X S2 F2 from HJ6.out.J.at_)).mono ?_
        rintro e w7 ⟨rfl, rfl⟩
        have hb8 := below_alloc w6 (Obj.cells #[.pointer (some ⟨X, 0, none⟩)] 24)
        have hBx := Blk.new w6 24 #[.pointer (some ⟨X, 0, none⟩)]
        have hJ5 := HJ6.out.below hb8
        have hD5 := HD6.out.below hb8 HD6.out.lt
        have hL5 := HL6.out.below hb8 HL6.out.lt
        have hN5 := HN6.out.below hb8 HN6.out.lt
        clear hb8 HJ6 HD6 HL6 HN6 c9
        go_wp2_with fail
        generalize w6.heap.size = bp at *
        generalize w6.alloc (Obj.cells #[.pointer (some ⟨X, 0, none⟩)] 24) = V9 at *
        refine wp_rangeB (N := S2.R.cs.length) (w0 := V9) rfl (enters_of Try.func47 (by kernel_rfl) rfl) (pcom_gives hJ5.J.at_ hBx Hhn.out) (fun h k => h.trans k) (KpF.put (fun i hi => hJ5.fresh hi)) (Below.refl _ _) (fun _ => rfl)
          (fun pre W => (LvM w X Y S2 F2 (.slice az2 nz2 cz2) (.slice ac2 S2.R.cs.length cc2) (.slice ah2 S2.R.h.length ch2) ds W ∧ V9.heap.size ≤ W.heap.size) ∧ (Blk W nb 3 #[.int .i64 (pre.length : Int)] ∧ (Blk W lb 3 #[.int .i64 (lastA pre)] ∧ Blk W xb 24 #[.pointer (some ⟨X, 0, none⟩)]))) (fun cc pre _ => cc = .ret ∧ ¬ pre <+: S2.R.cs)
          (OwnFrom.and (LvM.ownF hJ5) (OwnFrom.and (Own.from (blk_own _ _ (fun pre : List EvR => #[.int .i64 (pre.length : Int)])) _) (OwnFrom.and (Own.from (blk_own _ _ (fun pre : List EvR => #[.int .i64 (lastA pre)])) _) (Own.from (blk_own (β := List EvR) _ _ (fun _ => _)) _)))) (fun cc => ownFrom_pure' (fun pre => cc = .ret ∧ ¬ pre <+: S2.R.cs)) ⟨⟨hJ5, Nat.le_refl _⟩, by simpa using hN5, hL5, hD5⟩ 37 (fun x => evA (nrE x))
          ?acs1 (fun pre x W hI => KpF.alloc (fun i hi => hI.1.1.fresh hi) _) ?assigncs1 ?bodycs1 ?donecs1 ?stopcs1
        case assigncs1 =>
          intro lb9 pre x W K hI hK
          unfold encV
          clear hI
          have hzv := Try.zeroEv
          gi_wp2_with (first | (refine wplIn_store_new rfl _ _ rfl (evA (nrE x)) W 37 (evA ev0) rfl rfl rfl (info_evA (nrE_len x)) (by rw [evA_size (nrE_len x), evA_size (zeros_length 64)]) (evA_one _) ?_; go_frame))
          generalize W.heap.size = bx at hK ⊢
          exact hK
        case stopcs1 =>
          rintro D c pre W hD hp ⟨rfl, hn⟩ _
          exact absurd hp hn
        case bodycs1 =>
          rintro lb9 pre x be W1 ⟨⟨hI, hWw⟩, hNw, hLw, hDw⟩ hbe hpl
          have HI1 := Lib.hid hI
          have HN1 := Lib.hid hNw
          have HL1 := Lib.hid hLw
          have HD1 := Lib.hid hDw
          have HW1 := Lib.hid hWw
          have Hpl := Lib.hid hpl
          have ke : W1.cell? ⟨be, 0, none⟩ = some (.int .i64 x.at_) := (hbe.cell 0).trans (evA_at0 (nrE x))
          have kl : W1.cell? ⟨lb, 0, none⟩ = some (.int .i64 (lastA pre)) := blk_one hLw
          have kn : W1.cell? ⟨nb, 0, none⟩ = some (.int .i64 (pre.length : Nat)) := blk_one hNw
          have fl := hLw.frozen 0
          have fn := hNw.frozen 0
          have Hpf : Hid ((pre ++ [x] <+: S2.R.cs) → lastA pre ≤ x.at_) := Lib.hid (fun hp => lastA_ok HOr2.out.sort HOr2.out.pos hp)
          have hl64 : (pre.length : Int) < 1000000 := by have := Hpl.out; have := Hhn.out; omega
          clear hI hNw hLw hDw hbe hWw hpl
          by_cases hlt : x.at_ < lastA pre
          · have dl : decide (x.at_ < lastA pre) = true := decide_eq_true hlt
            have HNp : Hid (¬ pre ++ [x] <+: S2.R.cs) := Lib.hid (fun hp => by have := Hpf.out hp; omega)
            clear hlt Hpf
            have cT := blk_one HI1.out.T
            have fT := HI1.out.T.frozen 0
            gi_wp2
            exact ⟨(KeepsOthers.setCell _ _ _).from _, rfl, HNp.out⟩
          · have dl : decide (x.at_ < lastA pre) = false := decide_eq_false hlt
            clear hlt Hpf
            have hk1 := (Kept.refl (· = lb) W1).setCell (p := ⟨lb, 0, none⟩) rfl (.int .i64 x.at_)
            have HI2 := Lib.hid (HI1.out.keptB HL1.out Hlb.out.1 Hlb.out.2.1 (by decide) (by decide) (by decide) (by decide) hk1)
            have HN2 := Lib.hid (HN1.out.kept hk1 (fun e9 => Hlb.out.2.2.1 e9.symm))
            have HL2 : Hid (Blk (W1.setCell ⟨lb, 0, none⟩ (.int .i64 x.at_)) lb 3 #[.int .i64 (lastA (pre ++ [x]))]) := Lib.hid (by rw [lastA_snoc]; exact blk_set1 HL1.out _)
            have HD2 := Lib.hid (HD1.out.kept hk1 (fun e9 => Hlb.out.2.2.2 e9.symm))
            have HW2 := Lib.hid (Nat.le_trans HW1.out hk1.size)
            have kn2 : (W1.setCell ⟨lb, 0, none⟩ (.int .i64 x.at_)).cell? ⟨nb, 0, none⟩ = some (.int .i64 (pre.length : Nat)) := blk_one HN2.out
            have hk2 := (Kept.refl (· = nb) (W1.setCell ⟨lb, 0, none⟩ (.int .i64 x.at_))).setCell (p := ⟨nb, 0, none⟩) rfl (.int .i64 ((pre.length : Int) + 1))
            have hlen : ((pre ++ [x]).length : Int) = (pre.length : Int) + 1 := by simp
            have HEn := Lib.hid (And.intro (And.intro (HI2.out.keptB HN2.out Hnb.out.1 Hnb.out.2.1 (by decide) (by decide) (by decide) (by decide) hk2) (Nat.le_trans HW2.out hk2.size)) (And.intro (show Blk ((W1.setCell ⟨lb, 0, none⟩ (.int .i64 x.at_)).setCell ⟨nb, 0, none⟩ (.int .i64 ((pre.length : Int) + 1))) nb 3 #[.int .i64 ((pre ++ [x]).length : Int)] by rw [hlen]; exact blk_set1 HN2.out _) (And.intro (HL2.out.kept hk2 Hlb.out.2.2.1) (HD2.out.kept hk2 (fun e9 => Hnb.out.2.2 e9.symm)))))
            have HKf := Lib.hid (((KeepsOthers.setCell W1 ⟨lb, 0, none⟩ (.int .i64 x.at_)).trans (KeepsOthers.setCell (W1.setCell ⟨lb, 0, none⟩ (.int .i64 x.at_)) ⟨nb, 0, none⟩ (.int .i64 ((pre.length : Int) + 1)))).from V9.heap.size)
            have HKr : Hid (KpF F2 W1 ((W1.setCell ⟨lb, 0, none⟩ (.int .i64 x.at_)).setCell ⟨nb, 0, none⟩ (.int .i64 ((pre.length : Int) + 1)))) := Lib.hid ((KpF.set _ Hlb.out.2.1).trans (KpF.set _ Hnb.out.2.1))
            clear hk1 hk2 hlen kn
            gi_wp2
            exact ⟨HKf.out, HKr.out, HEn.out⟩
        case donecs1 =>
          rintro Dd yz W1 hD rfl ⟨⟨hJ6, _⟩, hN6, hL6, hD6⟩ hd
          have HM6 := Lib.hid (Marks.cons hJ5.M hJ5.J.B.size hD hd hJ6.M)
          have HJ6 : Hid (LvM w X Y S2 F2 (.slice az2 nz2 cz2) (.slice ac2 S2.R.cs.length cc2) (.slice ah2 S2.R.h.length ch2) ({ target := .collected Dd, args := #[] } :: ds) W1) := Lib.hid ⟨hJ6.J, hJ6.T, hJ6.nT, HM6.out, hJ6.nY⟩
          have HN6 := Lib.hid hN6
          have HD6 := Lib.hid hD6
          have c9 : W1.cell? ⟨xb, 0, none⟩ = some (.pointer (some ⟨X, 0, none⟩)) := blk_one hD6
          clear hJ5 hN5 hL5 hD5 hBx hJ6 hN6 hL6 hD6 hd HM6
          generalize ({ target := .collected Dd, args := #[] } :: ds : List Deferred) = ds at *
          go_wp2_with fail
          refine (phpd_call (show pdAt w.heap.size W1 X S2 F2 from HJ6.out.J.at_)).mono ?_
          rintro e w8 ⟨rfl, rfl⟩
          have hb8 := below_alloc W1 (Obj.cells #[.pointer (some ⟨X, 0, none⟩)] 24)
          have hBx := Blk.new W1 24 #[.pointer (some ⟨X, 0, none⟩)]
          have hJ5 := HJ6.out.below hb8
          have hD5 := HD6.out.below hb8 HD6.out.lt
          have hN5 := HN6.out.below hb8 HN6.out.lt
          clear hb8 HJ6 HD6 HN6 c9
          go_wp2_with fail
          generalize W1.heap.size = bq at *
          generalize W1.alloc (Obj.cells #[.pointer (some ⟨X, 0, none⟩)] 24) = V9 at *
          refine wp_rangeB (N := S2.R.h.length) (w0 := V9) rfl (enters_of Try.func49 (by kernel_rfl) rfl) (phpd_gives hJ5.J.at_ hBx Hhn.out) (fun h k => h.trans k) (KpF.put (fun i hi => hJ5.fresh hi)) (Below.refl _ _) (fun _ => rfl)
            (fun pre W => (LvM w X Y S2 F2 (.slice az2 nz2 cz2) (.slice ac2 S2.R.cs.length cc2) (.slice ah2 S2.R.h.length ch2) ds W ∧ V9.heap.size ≤ W.heap.size) ∧ (Blk W nb 3 #[.int .i64 ((S2.R.cs.length + pre.length : Nat) : Int)] ∧ (Blk W xb 24 #[.pointer (some ⟨X, 0, none⟩)]))) (fun cc pre _ => cc = .ret ∧ ¬ pre <+: S2.R.h)
            (OwnFrom.and (LvM.ownF hJ5) (OwnFrom.and (Own.from (blk_own _ _ (fun pre : List EvR => #[.int .i64 ((S2.R.cs.length + pre.length : Nat) : Int)])) _) (Own.from (blk_own (β := List EvR) _ _ (fun _ => _)) _))) (fun cc => ownFrom_pure' (fun pre => cc = .ret ∧ ¬ pre <+: S2.R.h)) ⟨⟨hJ5, Nat.le_refl _⟩, by simpa using hN5, hD5⟩ 37 (fun x => evA (nrE x))
            ?ah1 (fun pre x W hI => KpF.alloc (fun i hi => hI.1.1.fresh hi) _) ?assignh1 ?bodyh1 ?doneh1 ?stoph1
          case assignh1 =>
            intro lb9 pre x W K hI hK
            unfold encV
            clear hI
            have hzv := Try.zeroEv
            gi_wp2_with (first | (refine wplIn_store_new rfl _ _ rfl (evA (nrE x)) W 37 (evA ev0) rfl rfl rfl (info_evA (nrE_len x)) (by rw [evA_size (nrE_len x), evA_size (zeros_length 64)]) (evA_one _) ?_; go_frame))
            generalize W.heap.size = bx at hK ⊢
            exact hK
          case stoph1 =>
            rintro D c pre W hD hp ⟨rfl, hn⟩ _
            exact absurd hp hn
          case bodyh1 =>
            rintro lb9 pre x be W1 ⟨⟨hI, hWw⟩, hNw, hDw⟩ hbe hpl
            obtain ⟨D, vz, ve, l, mb, nn, ff, hp1, hF1⟩ := (show pdAt w.heap.size W1 X S2 F2 from hI.J.at_)
            have Hp1 := Lib.hid hp1
            have HI1 := Lib.hid hI
            have HN1 := Lib.hid hNw
            have HD1 := Lib.hid hDw
            have HE1 := Lib.hid hbe
            have HW1 := Lib.hid hWw
            have Hpl := Lib.hid hpl
            have Hpf : Hid ((pre ++ [x] <+: S2.R.h) → x.at_ ≤ S2.R.d.count) := Lib.hid (fun hp => HOr2.out.hap x (hp.subset (by simp)))
            have Hl64 : Hid ((((S2.R.cs.length + pre.length : Nat)) : Int) < 1000000) := Lib.hid (by have := Hpl.out; have := Hhn.out; omega)
            clear hI hNw hDw hbe hWw hpl hp1 hF1
            gi_upto_region 27 with fail
            by_cases hlt : x.at_ > S2.R.d.count
            · have Hcmp : Hid (decide (x.at_ > S2.R.d.count) = true) := Lib.hid (decide_eq_true hlt)
              have HNp : Hid (¬ pre ++ [x] <+: S2.R.h) := Lib.hid (fun hp => by have := Hpf.out hp; omega)
              clear hlt Hpf
              refine wpIn_region_heldIn (l := lb9) (S := fun w' => Kept (fun _ => False) W1 w') (by kernel_rfl) (by kernel_rfl) (by rintro ⟨_, _, h9⟩; exact h9) ?_
              change wpAnyH _ _ _ _ _ _ _ _ (World.drew _)
              have hQ : Kept (fun _ => False) W1 W1.drew := (Kept.refl _ _).drew
              have hB0 : Below W1.heap.size W1 W1.drew := (Below.refl _ _).drew
              refine takeH hQ (i := 0) (d := 78) (v := .pointer (some ⟨be, 0, none⟩)) rfl rfl (by kernel_rfl) (by kernel_rfl) (by kernel_rfl) (fun _ _ _ h => h) (Or.inl ⟨by kernel_rfl, fun w' hw' => by kernel_rfl⟩) ?_
              refine takeH hQ (i := 1) (d := 79) (v := .int .i64 (x.at_)) rfl rfl (by kernel_rfl) (by kernel_rfl) (by kernel_rfl) (fun _ _ _ h => h) (Or.inl ⟨by kernel_rfl, fun w' hw' => by exact exec_cell _ rfl ⟨be, 0, none⟩ rfl _ Try.underlying3 (((HE1.out.kept hw' (fun h => h)).cell 0).trans (evA_at0 (nrE x)))⟩) ?_
              refine takeH hQ (i := 2) (d := 80) (v := .pointer (some ⟨X, 0, none⟩)) rfl rfl (by kernel_rfl) (by kernel_rfl) (by kernel_rfl) (fun _ _ _ h => h) (Or.inl ⟨by kernel_rfl, fun w' hw' => by exact exec_cellv _ rfl ⟨xb, 0, none⟩ rfl (.pointer (some ⟨X, 0, none⟩)) Try.underlying24 rfl (((HD1.out.kept hw' (fun h => h)).cell 0).trans (rfl))⟩) ?_
              try go_frame
              refine nextH (i := 3) rfl (by kernel_rfl) (by kernel_rfl) (fun K' hK => ?_)
              go_wp2_with fail
              refine (pdevP (Hp1.out.below hB0)).mono ?_
              rintro en W1c1 ⟨rfl, hw9⟩
              have hb := below_eqD hw9
              clear hw9
              have hQ1 : Kept (fun _ => False) W1 W1c1 := kept_next hQ hb
              have hB1 : Below W1.heap.size W1 W1c1 := bel_next hB0 hb
              refine hK.out _ _ ⟨hQ1, ?_⟩
              clear hK K' hQ hb hB0
              refine nextH (i := 4) rfl (by kernel_rfl) (by kernel_rfl) (fun K' hK => ?_)
              go_wp2_with fail
              refine (dcount8 (Hp1.out.dv.below hB1)).mono ?_
              rintro en W1c2 ⟨rfl, hb⟩
              have hQ2 : Kept (fun _ => False) W1 W1c2 := kept_next hQ1 hb
              have hB2 : Below W1.heap.size W1 W1c2 := bel_next hB1 hb
              refine hK.out _ _ ⟨hQ2, ?_⟩
              clear hK K' hQ1 hb hB1
              refine takeH hQ2 (i := 5) (d := 83) (v := .bool true) rfl rfl (by kernel_rfl) (by kernel_rfl) (by kernel_rfl) (fun _ _ _ h => h) (Or.inl ⟨by kernel_rfl, fun w' hw' => by exact exec_gtr _ _ rfl (x.at_) (S2.R.d.count) rfl rfl true (Hcmp.out) rfl⟩) ?_
              refine wpAnyH_done (by kernel_rfl) ?_ _
              try go_frame
              have HI2 := Lib.hid (HI1.out.below hB2)
              have HK2 := Lib.hid (keepsOthers_below hB2)
              clear hQ2 hB2 HI1 HN1 HD1 HE1 HW1 Hp1
              generalize W1c2 = W2 at *
              have cT := blk_one HI2.out.T
              have fT := HI2.out.T.frozen 0
              gi_wp2
              exact ⟨(HK2.out.trans (KeepsOthers.setCell _ _ _)).from _, rfl, HNp.out⟩
            · have Hcmp : Hid (decide (x.at_ > S2.R.d.count) = false) := Lib.hid (decide_eq_false hlt)
              clear hlt Hpf
              refine wpIn_region_heldIn (l := lb9) (S := fun w' => Kept (fun _ => False) W1 w') (by kernel_rfl) (by kernel_rfl) (by rintro ⟨_, _, h9⟩; exact h9) ?_
              change wpAnyH _ _ _ _ _ _ _ _ (World.drew _)
              have hQ : Kept (fun _ => False) W1 W1.drew := (Kept.refl _ _).drew
              have hB0 : Below W1.heap.size W1 W1.drew := (Below.refl _ _).drew
              refine takeH hQ (i := 0) (d := 78) (v := .pointer (some ⟨be, 0, none⟩)) rfl rfl (by kernel_rfl) (by kernel_rfl) (by kernel_rfl) (fun _ _ _ h => h) (Or.inl ⟨by kernel_rfl, fun w' hw' => by kernel_rfl⟩) ?_
              refine takeH hQ (i := 1) (d := 79) (v := .int .i64 (x.at_)) rfl rfl (by kernel_rfl) (by kernel_rfl) (by kernel_rfl) (fun _ _ _ h => h) (Or.inl ⟨by kernel_rfl, fun w' hw' => by exact exec_cell _ rfl ⟨be, 0, none⟩ rfl _ Try.underlying3 (((HE1.out.kept hw' (fun h => h)).cell 0).trans (evA_at0 (nrE x)))⟩) ?_
              refine takeH hQ (i := 2) (d := 80) (v := .pointer (some ⟨X, 0, none⟩)) rfl rfl (by kernel_rfl) (by kernel_rfl) (by kernel_rfl) (fun _ _ _ h => h) (Or.inl ⟨by kernel_rfl, fun w' hw' => by exact exec_cellv _ rfl ⟨xb, 0, none⟩ rfl (.pointer (some ⟨X, 0, none⟩)) Try.underlying24 rfl (((HD1.out.kept hw' (fun h => h)).cell 0).trans (rfl))⟩) ?_
              try go_frame
              refine nextH (i := 3) rfl (by kernel_rfl) (by kernel_rfl) (fun K' hK => ?_)
              go_wp2_with fail
              refine (pdevP (Hp1.out.below hB0)).mono ?_
              rintro en W1c1 ⟨rfl, hw9⟩
              have hb := below_eqD hw9
              clear hw9
              have hQ1 : Kept (fun _ => False) W1 W1c1 := kept_next hQ hb
              have hB1 : Below W1.heap.size W1 W1c1 := bel_next hB0 hb
              refine hK.out _ _ ⟨hQ1, ?_⟩
              clear hK K' hQ hb hB0
              refine nextH (i := 4) rfl (by kernel_rfl) (by kernel_rfl) (fun K' hK => ?_)
              go_wp2_with fail
              refine (dcount8 (Hp1.out.dv.below hB1)).mono ?_
              rintro en W1c2 ⟨rfl, hb⟩
              have hQ2 : Kept (fun _ => False) W1 W1c2 := kept_next hQ1 hb
              have hB2 : Below W1.heap.size W1 W1c2 := bel_next hB1 hb
              refine hK.out _ _ ⟨hQ2, ?_⟩
              clear hK K' hQ1 hb hB1
              refine takeH hQ2 (i := 5) (d := 83) (v := .bool false) rfl rfl (by kernel_rfl) (by kernel_rfl) (by kernel_rfl) (fun _ _ _ h => h) (Or.inl ⟨by kernel_rfl, fun w' hw' => by exact exec_gtr _ _ rfl (x.at_) (S2.R.d.count) rfl rfl false (Hcmp.out) rfl⟩) ?_
              refine wpAnyH_done (by kernel_rfl) ?_ _
              try go_frame
              have HI2 := Lib.hid (HI1.out.below hB2)
              have HN2 := Lib.hid (HN1.out.below hB2 HN1.out.lt)
              have HD2 := Lib.hid (HD1.out.below hB2 HD1.out.lt)
              have HK2 := Lib.hid (keepsOthers_below hB2)
              have HW2 := Lib.hid (Nat.le_trans HW1.out hB2.size)
              have HKr2 : Hid (KpF F2 W1 W1c2) := Lib.hid (fun i hi => hB2.block i (HI1.out.fresh hi))
              clear hQ2 hB2 HI1 HN1 HD1 HE1 HW1 Hp1
              generalize W1c2 = W2 at *
              obtain ⟨q, hq⟩ : ∃ q, q = S2.R.cs.length + pre.length := ⟨_, rfl⟩
              have kn : W2.cell? ⟨nb, 0, none⟩ = some (.int .i64 (q : Nat)) := by rw [hq]; exact blk_one HN2.out
              have fn := HN2.out.frozen 0
              have hl64 : (q : Int) < 1000000 := by rw [hq]; exact Hl64.out
              have hlen : ((S2.R.cs.length + (pre ++ [x]).length : Nat) : Int) = (q : Int) + 1 := by rw [hq]; simp; omega
              have hk2 := (Kept.refl (· = nb) W2).setCell (p := ⟨nb, 0, none⟩) rfl (.int .i64 ((q : Int) + 1))
              have HEn := Lib.hid (And.intro (And.intro (HI2.out.keptB HN2.out Hnb.out.1 Hnb.out.2.1 (by decide) (by decide) (by decide) (by decide) hk2) (Nat.le_trans HW2.out hk2.size)) (And.intro (show Blk (W2.setCell ⟨nb, 0, none⟩ (.int .i64 ((q : Int) + 1))) nb 3 #[.int .i64 ((S2.R.cs.length + (pre ++ [x]).length : Nat) : Int)] by rw [hlen]; exact blk_set1 HN2.out _) (HD2.out.kept hk2 (fun e9 => Hnb.out.2.2 e9.symm))))
              have HKf := Lib.hid ((HK2.out.trans (KeepsOthers.setCell W2 ⟨nb, 0, none⟩ (.int .i64 ((q : Int) + 1)))).from V9.heap.size)
              have HKrf : Hid (KpF F2 W1 (W2.setCell ⟨nb, 0, none⟩ (.int .i64 ((q : Int) + 1)))) := Lib.hid (HKr2.out.trans (KpF.set _ Hnb.out.2.1))
              clear hk2 hlen hq
              gi_wp2
              exact ⟨HKf.out, HKrf.out, HEn.out⟩
          case doneh1 =>
            rintro Dd yz W2 hD rfl ⟨⟨hJ7, _⟩, hN7, hD7⟩ hd
            have HM7 := Lib.hid (Marks.cons hJ5.M hJ5.J.B.size hD hd hJ7.M)
            have HJ7 : Hid (LvM w X Y S2 F2 (.slice az2 nz2 cz2) (.slice ac2 S2.R.cs.length cc2) (.slice ah2 S2.R.h.length ch2) ({ target := .collected Dd, args := #[] } :: ds) W2) := Lib.hid ⟨hJ7.J, hJ7.T, hJ7.nT, HM7.out, hJ7.nY⟩
            have HD7 := Lib.hid hD7
            have cn : W2.cell? ⟨nb, 0, none⟩ = some (.int .i64 (m2 : Nat)) := by rw [← Hnum.out]; exact blk_one hN7
            clear hJ5 hN5 hD5 hBx hJ7 hN7 hD7 hd HM7
            generalize ({ target := .collected Dd, args := #[] } :: ds : List Deferred) = ds at *
            go_wp2_with fail
            exact ⟨RelO.mk (m := m2) (j + 1) rfl ⟨rfl, rfl, rfl, rfl, rfl, rfl, (show Value.int .i64 ((j : Int) + 1) = .int .i64 ((j + 1 : Nat) : Int) by go_num)⟩ (by omega) ⟨S2, F2, az2, nz2, cz2, ac2, cc2, ah2, ch2, HPL.out.1, HBd2.out, HOr2.out, HJ7.out, HD7.out, HnD4.out⟩, by simp [intOf]; omega⟩
      · have Hm3 : Hid (m2 = m) := Lib.hid (by rw [Hm2.out, if_neg (fun h9 => hr h9.2)])
        rw [eq_false_of_ne_true hr]
        clear hr h8
        go_upto_region 12 with fail
        have h8 := H8.out
        have hm3 := Hm3.out
        subst hm3
        have c9 : wr2.cell? ⟨xb, 0, none⟩ = some (.pointer (some ⟨X, 0, none⟩)) := blk_one HD1.out
        have hor2 := HOr.out.next o h8 HPL.out.2
        rw [← Hm2.out] at hor2
        clear h8
        go_wp2_with (first | (refine wpl_load rfl _ rfl Y rfl _ _ _ (HJ1.out.J.bY) Try.underlying30 rfl Try.info8D ?_; go_frame) | (refine wpl_load rfl _ rfl Q rfl _ _ _ (HO1.out) Try.underlying39 rfl (info_op8 Ho.out.len Ho.out.ev.len) ?_; go_frame))
        refine (st8_all o Ho.out HJ1.out.J.B (Nat.le_refl _) HJ1.out.J.at_ (HBd.out.fine (by omega)) HJ1.out.J.dc HJ1.out.J.B.size).mono ?_
        have hbd2 := HBd.out.next o HJ1.out.J.dc.cs.ok (theDrv.sane HJ1.out.J.at_)
        obtain ⟨S2, hS2⟩ : ∃ S2, st8 S o = S2 := ⟨_, rfl⟩
        rw [hS2] at hbd2 hor2 ⊢
        have HBd2 := Lib.hid hbd2
        have HOr2 := Lib.hid hor2
        clear hbd2 hS2 hor2 k0 d8 c9
        rintro e w3 ⟨az2, nz2, cz2, ac2, cc2, ah2, ch2, rfl, hD3, hT3⟩
        have HT3 := Lib.hid hT3
        have HD3 := Lib.hid hD3
        have HY3 : Hid (Blk w3 Y 30 (d8A (dd7 S.R.d) (.slice az nz cz) (.slice ac S.R.cs.length cc) (.slice ah S.R.h.length ch))) := Lib.hid (hT3.blk HJ1.out.J.at_ HJ1.out.J.bY (by decide))
        clear hT3 hD3
        go_upto_region 15 with (first | (refine wpl_store rfl _ _ rfl Y (d8A (dd7 S2.R.d) (.slice az2 nz2 cz2) (.slice ac2 S2.R.cs.length cc2) (.slice ah2 S2.R.h.length ch2)) rfl rfl _ _ HY3.out Try.info8D rfl (d8A_one _ _ _ _ _ _ _ _ _ _) ?_; intro w4 hY4 hK4; have HN4 := Lib.hid (HJ1.out.next HD3.out HT3.out hY4 hK4); clear hY4 hK4; go_frame))
        obtain ⟨F2, hJ4, hn4⟩ := HN4.out
        obtain ⟨hDx, hnx⟩ := hn4 xb _ _ HD1.out HnDr.out HnY2.out.1
        have HJ4 := Lib.hid hJ4
        have HD4 := Lib.hid hDx
        have HnD4 := Lib.hid hnx
        clear hJ4 hn4 hDx hnx HN4 HT3 HD3 HY3 HJ1 HO1 HD1
        go_upto_region 19 with fail
        have hb5 := below_alloc w4 (Obj.cells #[.int .i64 (-1)] 3)
        have hb6 := below_alloc (w4.alloc (Obj.cells #[.int .i64 (-1)] 3)) (Obj.cells #[.int .i64 0] 3)
        have HJ6 := Lib.hid (HJ4.out.below (bthen' hb5 hb6))
        have HD6 := Lib.hid (HD4.out.below (bthen' hb5 hb6) HD4.out.lt)
        have HL6 := Lib.hid ((Blk.new w4 3 #[.int .i64 (-1)]).alloc (Obj.cells #[.int .i64 0] 3))
        have hx6 := Blk.new (w4.alloc (Obj.cells #[.int .i64 (-1)] 3)) 3 #[.int .i64 0]
        rw [World.size_alloc] at hx6
        have HN6 := Lib.hid hx6
        have Hlb : Hid (w.heap.size < w4.heap.size ∧ ¬ F2 w4.heap.size ∧ w4.heap.size ≠ w4.heap.size + 1 ∧ w4.heap.size ≠ xb) := Lib.hid ⟨by have := HJ4.out.T.lt; exact this, fun hi => Nat.lt_irrefl _ (HJ4.out.fresh hi), by omega, by have := HD4.out.lt; omega⟩
        have Hnb : Hid (w.heap.size < w4.heap.size + 1 ∧ ¬ F2 (w4.heap.size + 1) ∧ w4.heap.size + 1 ≠ xb) := Lib.hid ⟨by have := HJ4.out.T.lt; omega, fun hi => by have := HJ4.out.fresh hi; omega, by have := HD4.out.lt; omega⟩
        have Hhn : Hid (S2.R.h.length + S2.R.cs.length ≤ 1000000) := Lib.hid (by have := HBd2.out.h; omega)
        have Hnum : Hid (S2.R.cs.length + S2.R.h.length = m2) := Lib.hid (by have := HOr2.out.num; omega)
        clear hb5 hb6 hx6 HJ4 HD4
        generalize (w4.alloc (Obj.cells #[.int .i64 (-1)] 3)).alloc (Obj.cells #[.int .i64 0] 3) = w6 at *
        generalize w4.heap.size + 1 = nb at *
        generalize w4.heap.size = lb at *
        have c9 : w6.cell? ⟨xb, 0, none⟩ = some (.pointer (some ⟨X, 0, none⟩)) := blk_one HD6.out
        go_wp2_with fail
        refine (pcom_call (show pdAt w.heap.size w6 X S2 F2 from HJ6.out.J.at_)).mono ?_
        rintro e w7 ⟨rfl, rfl⟩
        have hb8 := below_alloc w6 (Obj.cells #[.pointer (some ⟨X, 0, none⟩)] 24)
        have hBx := Blk.new w6 24 #[.pointer (some ⟨X, 0, none⟩)]
        have hJ5 := HJ6.out.below hb8
        have hD5 := HD6.out.below hb8 HD6.out.lt
        have hL5 := HL6.out.below hb8 HL6.out.lt
        have hN5 := HN6.out.below hb8 HN6.out.lt
        clear hb8 HJ6 HD6 HL6 HN6 c9
        go_wp2_with fail
        generalize w6.heap.size = bp at *
        generalize w6.alloc (Obj.cells #[.pointer (some ⟨X, 0, none⟩)] 24) = V9 at *
        refine wp_rangeB (N := S2.R.cs.length) (w0 := V9) rfl (enters_of Try.func47 (by kernel_rfl) rfl) (pcom_gives hJ5.J.at_ hBx Hhn.out) (fun h k => h.trans k) (KpF.put (fun i hi => hJ5.fresh hi)) (Below.refl _ _) (fun _ => rfl)
          (fun pre W => (LvM w X Y S2 F2 (.slice az2 nz2 cz2) (.slice ac2 S2.R.cs.length cc2) (.slice ah2 S2.R.h.length ch2) ds W ∧ V9.heap.size ≤ W.heap.size) ∧ (Blk W nb 3 #[.int .i64 (pre.length : Int)] ∧ (Blk W lb 3 #[.int .i64 (lastA pre)] ∧ Blk W xb 24 #[.pointer (some ⟨X, 0, none⟩)]))) (fun cc pre _ => cc = .ret ∧ ¬ pre <+: S2.R.cs)
          (OwnFrom.and (LvM.ownF hJ5) (OwnFrom.and (Own.from (blk_own _ _ (fun pre : List EvR => #[.int .i64 (pre.length : Int)])) _) (OwnFrom.and (Own.from (blk_own _ _ (fun pre : List EvR => #[.int .i64 (lastA pre)])) _) (Own.from (blk_own (β := List EvR) _ _ (fun _ => _)) _)))) (fun cc => ownFrom_pure' (fun pre => cc = .ret ∧ ¬ pre <+: S2.R.cs)) ⟨⟨hJ5, Nat.le_refl _⟩, by simpa using hN5, hL5, hD5⟩ 37 (fun x => evA (nrE x))
          ?acs2 (fun pre x W hI => KpF.alloc (fun i hi => hI.1.1.fresh hi) _) ?assigncs2 ?bodycs2 ?donecs2 ?stopcs2
        case assigncs2 =>
          intro lb9 pre x W K hI hK
          unfold encV
          clear hI
          have hzv := Try.zeroEv
          gi_wp2_with (first | (refine wplIn_store_new rfl _ _ rfl (evA (nrE x)) W 37 (evA ev0) rfl rfl rfl (info_evA (nrE_len x)) (by rw [evA_size (nrE_len x), evA_size (zeros_length 64)]) (evA_one _) ?_; go_frame))
          generalize W.heap.size = bx at hK ⊢
          exact hK
        case stopcs2 =>
          rintro D c pre W hD hp ⟨rfl, hn⟩ _
          exact absurd hp hn
        case bodycs2 =>
          rintro lb9 pre x be W1 ⟨⟨hI, hWw⟩, hNw, hLw, hDw⟩ hbe hpl
          have HI1 := Lib.hid hI
          have HN1 := Lib.hid hNw
          have HL1 := Lib.hid hLw
          have HD1 := Lib.hid hDw
          have HW1 := Lib.hid hWw
          have Hpl := Lib.hid hpl
          have ke : W1.cell? ⟨be, 0, none⟩ = some (.int .i64 x.at_) := (hbe.cell 0).trans (evA_at0 (nrE x))
          have kl : W1.cell? ⟨lb, 0, none⟩ = some (.int .i64 (lastA pre)) := blk_one hLw
          have kn : W1.cell? ⟨nb, 0, none⟩ = some (.int .i64 (pre.length : Nat)) := blk_one hNw
          have fl := hLw.frozen 0
          have fn := hNw.frozen 0
          have Hpf : Hid ((pre ++ [x] <+: S2.R.cs) → lastA pre ≤ x.at_) := Lib.hid (fun hp => lastA_ok HOr2.out.sort HOr2.out.pos hp)
          have hl64 : (pre.length : Int) < 1000000 := by have := Hpl.out; have := Hhn.out; omega
          clear hI hNw hLw hDw hbe hWw hpl
          by_cases hlt : x.at_ < lastA pre
          · have dl : decide (x.at_ < lastA pre) = true := decide_eq_true hlt
            have HNp : Hid (¬ pre ++ [x] <+: S2.R.cs) := Lib.hid (fun hp => by have := Hpf.out hp; omega)
            clear hlt Hpf
            have cT := blk_one HI1.out.T
            have fT := HI1.out.T.frozen 0
            gi_wp2
            exact ⟨(KeepsOthers.setCell _ _ _).from _, rfl, HNp.out⟩
          · have dl : decide (x.at_ < lastA pre) = false := decide_eq_false hlt
            clear hlt Hpf
            have hk1 := (Kept.refl (· = lb) W1).setCell (p := ⟨lb, 0, none⟩) rfl (.int .i64 x.at_)
            have HI2 := Lib.hid (HI1.out.keptB HL1.out Hlb.out.1 Hlb.out.2.1 (by decide) (by decide) (by decide) (by decide) hk1)
            have HN2 := Lib.hid (HN1.out.kept hk1 (fun e9 => Hlb.out.2.2.1 e9.symm))
            have HL2 : Hid (Blk (W1.setCell ⟨lb, 0, none⟩ (.int .i64 x.at_)) lb 3 #[.int .i64 (lastA (pre ++ [x]))]) := Lib.hid (by rw [lastA_snoc]; exact blk_set1 HL1.out _)
            have HD2 := Lib.hid (HD1.out.kept hk1 (fun e9 => Hlb.out.2.2.2 e9.symm))
            have HW2 := Lib.hid (Nat.le_trans HW1.out hk1.size)
            have kn2 : (W1.setCell ⟨lb, 0, none⟩ (.int .i64 x.at_)).cell? ⟨nb, 0, none⟩ = some (.int .i64 (pre.length : Nat)) := blk_one HN2.out
            have hk2 := (Kept.refl (· = nb) (W1.setCell ⟨lb, 0, none⟩ (.int .i64 x.at_))).setCell (p := ⟨nb, 0, none⟩) rfl (.int .i64 ((pre.length : Int) + 1))
            have hlen : ((pre ++ [x]).length : Int) = (pre.length : Int) + 1 := by simp
            have HEn := Lib.hid (And.intro (And.intro (HI2.out.keptB HN2.out Hnb.out.1 Hnb.out.2.1 (by decide) (by decide) (by decide) (by decide) hk2) (Nat.le_trans HW2.out hk2.size)) (And.intro (show Blk ((W1.setCell ⟨lb, 0, none⟩ (.int .i64 x.at_)).setCell ⟨nb, 0, none⟩ (.int .i64 ((pre.length : Int) + 1))) nb 3 #[.int .i64 ((pre ++ [x]).length : Int)] by rw [hlen]; exact blk_set1 HN2.out _) (And.intro (HL2.out.kept hk2 Hlb.out.2.2.1) (HD2.out.kept hk2 (fun e9 => Hnb.out.2.2 e9.symm)))))
            have HKf := Lib.hid (((KeepsOthers.setCell W1 ⟨lb, 0, none⟩ (.int .i64 x.at_)).trans (KeepsOthers.setCell (W1.setCell ⟨lb, 0, none⟩ (.int .i64 x.at_)) ⟨nb, 0, none⟩ (.int .i64 ((pre.length : Int) + 1)))).from V9.heap.size)
            have HKr : Hid (KpF F2 W1 ((W1.setCell ⟨lb, 0, none⟩ (.int .i64 x.at_)).setCell ⟨nb, 0, none⟩ (.int .i64 ((pre.length : Int) + 1)))) := Lib.hid ((KpF.set _ Hlb.out.2.1).trans (KpF.set _ Hnb.out.2.1))
            clear hk1 hk2 hlen kn
            gi_wp2
            exact ⟨HKf.out, HKr.out, HEn.out⟩
        case donecs2 =>
          rintro Dd yz W1 hD rfl ⟨⟨hJ6, _⟩, hN6, hL6, hD6⟩ hd
          have HM6 := Lib.hid (Marks.cons hJ5.M hJ5.J.B.size hD hd hJ6.M)
          have HJ6 : Hid (LvM w X Y S2 F2 (.slice az2 nz2 cz2) (.slice ac2 S2.R.cs.length cc2) (.slice ah2 S2.R.h.length ch2) ({ target := .collected Dd, args := #[] } :: ds) W1) := Lib.hid ⟨hJ6.J, hJ6.T, hJ6.nT, HM6.out, hJ6.nY⟩
          have HN6 := Lib.hid hN6
          have HD6 := Lib.hid hD6
          have c9 : W1.cell? ⟨xb, 0, none⟩ = some (.pointer (some ⟨X, 0, none⟩)) := blk_one hD6
          clear hJ5 hN5 hL5 hD5 hBx hJ6 hN6 hL6 hD6 hd HM6
          generalize ({ target := .collected Dd, args := #[] } :: ds : List Deferred) = ds at *
          go_wp2_with fail
          refine (phpd_call (show pdAt w.heap.size W1 X S2 F2 from HJ6.out.J.at_)).mono ?_
          rintro e w8 ⟨rfl, rfl⟩
          have hb8 := below_alloc W1 (Obj.cells #[.pointer (some ⟨X, 0, none⟩)] 24)
          have hBx := Blk.new W1 24 #[.pointer (some ⟨X, 0, none⟩)]
          have hJ5 := HJ6.out.below hb8
          have hD5 := HD6.out.below hb8 HD6.out.lt
          have hN5 := HN6.out.below hb8 HN6.out.lt
          clear hb8 HJ6 HD6 HN6 c9
          go_wp2_with fail
          generalize W1.heap.size = bq at *
          generalize W1.alloc (Obj.cells #[.pointer (some ⟨X, 0, none⟩)] 24) = V9 at *
          refine wp_rangeB (N := S2.R.h.length) (w0 := V9) rfl (enters_of Try.func49 (by kernel_rfl) rfl) (phpd_gives hJ5.J.at_ hBx Hhn.out) (fun h k => h.trans k) (KpF.put (fun i hi => hJ5.fresh hi)) (Below.refl _ _) (fun _ => rfl)
            (fun pre W => (LvM w X Y S2 F2 (.slice az2 nz2 cz2) (.slice ac2 S2.R.cs.length cc2) (.slice ah2 S2.R.h.length ch2) ds W ∧ V9.heap.size ≤ W.heap.size) ∧ (Blk W nb 3 #[.int .i64 ((S2.R.cs.length + pre.length : Nat) : Int)] ∧ (Blk W xb 24 #[.pointer (some ⟨X, 0, none⟩)]))) (fun cc pre _ => cc = .ret ∧ ¬ pre <+: S2.R.h)
            (OwnFrom.and (LvM.ownF hJ5) (OwnFrom.and (Own.from (blk_own _ _ (fun pre : List EvR => #[.int .i64 ((S2.R.cs.length + pre.length : Nat) : Int)])) _) (Own.from (blk_own (β := List EvR) _ _ (fun _ => _)) _))) (fun cc => ownFrom_pure' (fun pre => cc = .ret ∧ ¬ pre <+: S2.R.h)) ⟨⟨hJ5, Nat.le_refl _⟩, by simpa using hN5, hD5⟩ 37 (fun x => evA (nrE x))
            ?ah2 (fun pre x W hI => KpF.alloc (fun i hi => hI.1.1.fresh hi) _) ?assignh2 ?bodyh2 ?doneh2 ?stoph2
          case assignh2 =>
            intro lb9 pre x W K hI hK
            unfold encV
            clear hI
            have hzv := Try.zeroEv
            gi_wp2_with (first | (refine wplIn_store_new rfl _ _ rfl (evA (nrE x)) W 37 (evA ev0) rfl rfl rfl (info_evA (nrE_len x)) (by rw [evA_size (nrE_len x), evA_size (zeros_length 64)]) (evA_one _) ?_; go_frame))
            generalize W.heap.size = bx at hK ⊢
            exact hK
          case stoph2 =>
            rintro D c pre W hD hp ⟨rfl, hn⟩ _
            exact absurd hp hn
          case bodyh2 =>
            rintro lb9 pre x be W1 ⟨⟨hI, hWw⟩, hNw, hDw⟩ hbe hpl
            obtain ⟨D, vz, ve, l, mb, nn, ff, hp1, hF1⟩ := (show pdAt w.heap.size W1 X S2 F2 from hI.J.at_)
            have Hp1 := Lib.hid hp1
            have HI1 := Lib.hid hI
            have HN1 := Lib.hid hNw
            have HD1 := Lib.hid hDw
            have HE1 := Lib.hid hbe
            have HW1 := Lib.hid hWw
            have Hpl := Lib.hid hpl
            have Hpf : Hid ((pre ++ [x] <+: S2.R.h) → x.at_ ≤ S2.R.d.count) := Lib.hid (fun hp => HOr2.out.hap x (hp.subset (by simp)))
            have Hl64 : Hid ((((S2.R.cs.length + pre.length : Nat)) : Int) < 1000000) := Lib.hid (by have := Hpl.out; have := Hhn.out; omega)
            clear hI hNw hDw hbe hWw hpl hp1 hF1
            gi_upto_region 27 with fail
            by_cases hlt : x.at_ > S2.R.d.count
            · have Hcmp : Hid (decide (x.at_ > S2.R.d.count) = true) := Lib.hid (decide_eq_true hlt)
              have HNp : Hid (¬ pre ++ [x] <+: S2.R.h) := Lib.hid (fun hp => by have := Hpf.out hp; omega)
              clear hlt Hpf
              refine wpIn_region_heldIn (l := lb9) (S := fun w' => Kept (fun _ => False) W1 w') (by kernel_rfl) (by kernel_rfl) (by rintro ⟨_, _, h9⟩; exact h9) ?_
              change wpAnyH _ _ _ _ _ _ _ _ (World.drew _)
              have hQ : Kept (fun _ => False) W1 W1.drew := (Kept.refl _ _).drew
              have hB0 : Below W1.heap.size W1 W1.drew := (Below.refl _ _).drew
              refine takeH hQ (i := 0) (d := 78) (v := .pointer (some ⟨be, 0, none⟩)) rfl rfl (by kernel_rfl) (by kernel_rfl) (by kernel_rfl) (fun _ _ _ h => h) (Or.inl ⟨by kernel_rfl, fun w' hw' => by kernel_rfl⟩) ?_
              refine takeH hQ (i := 1) (d := 79) (v := .int .i64 (x.at_)) rfl rfl (by kernel_rfl) (by kernel_rfl) (by kernel_rfl) (fun _ _ _ h => h) (Or.inl ⟨by kernel_rfl, fun w' hw' => by exact exec_cell _ rfl ⟨be, 0, none⟩ rfl _ Try.underlying3 (((HE1.out.kept hw' (fun h => h)).cell 0).trans (evA_at0 (nrE x)))⟩) ?_
              refine takeH hQ (i := 2) (d := 80) (v := .pointer (some ⟨X, 0, none⟩)) rfl rfl (by kernel_rfl) (by kernel_rfl) (by kernel_rfl) (fun _ _ _ h => h) (Or.inl ⟨by kernel_rfl, fun w' hw' => by exact exec_cellv _ rfl ⟨xb, 0, none⟩ rfl (.pointer (some ⟨X, 0, none⟩)) Try.underlying24 rfl (((HD1.out.kept hw' (fun h => h)).cell 0).trans (rfl))⟩) ?_
              try go_frame
              refine nextH (i := 3) rfl (by kernel_rfl) (by kernel_rfl) (fun K' hK => ?_)
              go_wp2_with fail
              refine (pdevP (Hp1.out.below hB0)).mono ?_
              rintro en W1c1 ⟨rfl, hw9⟩
              have hb := below_eqD hw9
              clear hw9
              have hQ1 : Kept (fun _ => False) W1 W1c1 := kept_next hQ hb
              have hB1 : Below W1.heap.size W1 W1c1 := bel_next hB0 hb
              refine hK.out _ _ ⟨hQ1, ?_⟩
              clear hK K' hQ hb hB0
              refine nextH (i := 4) rfl (by kernel_rfl) (by kernel_rfl) (fun K' hK => ?_)
              go_wp2_with fail
              refine (dcount8 (Hp1.out.dv.below hB1)).mono ?_
              rintro en W1c2 ⟨rfl, hb⟩
              have hQ2 : Kept (fun _ => False) W1 W1c2 := kept_next hQ1 hb
              have hB2 : Below W1.heap.size W1 W1c2 := bel_next hB1 hb
              refine hK.out _ _ ⟨hQ2, ?_⟩
              clear hK K' hQ1 hb hB1
              refine takeH hQ2 (i := 5) (d := 83) (v := .bool true) rfl rfl (by kernel_rfl) (by kernel_rfl) (by kernel_rfl) (fun _ _ _ h => h) (Or.inl ⟨by kernel_rfl, fun w' hw' => by exact exec_gtr _ _ rfl (x.at_) (S2.R.d.count) rfl rfl true (Hcmp.out) rfl⟩) ?_
              refine wpAnyH_done (by kernel_rfl) ?_ _
              try go_frame
              have HI2 := Lib.hid (HI1.out.below hB2)
              have HK2 := Lib.hid (keepsOthers_below hB2)
              clear hQ2 hB2 HI1 HN1 HD1 HE1 HW1 Hp1
              generalize W1c2 = W2 at *
              have cT := blk_one HI2.out.T
              have fT := HI2.out.T.frozen 0
              gi_wp2
              exact ⟨(HK2.out.trans (KeepsOthers.setCell _ _ _)).from _, rfl, HNp.out⟩
            · have Hcmp : Hid (decide (x.at_ > S2.R.d.count) = false) := Lib.hid (decide_eq_false hlt)
              clear hlt Hpf
              refine wpIn_region_heldIn (l := lb9) (S := fun w' => Kept (fun _ => False) W1 w') (by kernel_rfl) (by kernel_rfl) (by rintro ⟨_, _, h9⟩; exact h9) ?_
              change wpAnyH _ _ _ _ _ _ _ _ (World.drew _)
              have hQ : Kept (fun _ => False) W1 W1.drew := (Kept.refl _ _).drew
              have hB0 : Below W1.heap.size W1 W1.drew := (Below.refl _ _).drew
              refine takeH hQ (i := 0) (d := 78) (v := .pointer (some ⟨be, 0, none⟩)) rfl rfl (by kernel_rfl) (by kernel_rfl) (by kernel_rfl) (fun _ _ _ h => h) (Or.inl ⟨by kernel_rfl, fun w' hw' => by kernel_rfl⟩) ?_
              refine takeH hQ (i := 1) (d := 79) (v := .int .i64 (x.at_)) rfl rfl (by kernel_rfl) (by kernel_rfl) (by kernel_rfl) (fun _ _ _ h => h) (Or.inl ⟨by kernel_rfl, fun w' hw' => by exact exec_cell _ rfl ⟨be, 0, none⟩ rfl _ Try.underlying3 (((HE1.out.kept hw' (fun h => h)).cell 0).trans (evA_at0 (nrE x)))⟩) ?_
              refine takeH hQ (i := 2) (d := 80) (v := .pointer (some ⟨X, 0, none⟩)) rfl rfl (by kernel_rfl) (by kernel_rfl) (by kernel_rfl) (fun _ _ _ h => h) (Or.inl ⟨by kernel_rfl, fun w' hw' => by exact exec_cellv _ rfl ⟨xb, 0, none⟩ rfl (.pointer (some ⟨X, 0, none⟩)) Try.underlying24 rfl (((HD1.out.kept hw' (fun h => h)).cell 0).trans (rfl))⟩) ?_
              try go_frame
              refine nextH (i := 3) rfl (by kernel_rfl) (by kernel_rfl) (fun K' hK => ?_)
              go_wp2_with fail
              refine (pdevP (Hp1.out.below hB0)).mono ?_
              rintro en W1c1 ⟨rfl, hw9⟩
              have hb := below_eqD hw9
              clear hw9
              have hQ1 : Kept (fun _ => False) W1 W1c1 := kept_next hQ hb
              have hB1 : Below W1.heap.size W1 W1c1 := bel_next hB0 hb
              refine hK.out _ _ ⟨hQ1, ?_⟩
              clear hK K' hQ hb hB0
              refine nextH (i := 4) rfl (by kernel_rfl) (by kernel_rfl) (fun K' hK => ?_)
              go_wp2_with fail
              refine (dcount8 (Hp1.out.dv.below hB1)).mono ?_
              rintro en W1c2 ⟨rfl, hb⟩
              have hQ2 : Kept (fun _ => False) W1 W1c2 := kept_next hQ1 hb
              have hB2 : Below W1.heap.size W1 W1c2 := bel_next hB1 hb
              refine hK.out _ _ ⟨hQ2, ?_⟩
              clear hK K' hQ1 hb hB1
              refine takeH hQ2 (i := 5) (d := 83) (v := .bool false) rfl rfl (by kernel_rfl) (by kernel_rfl) (by kernel_rfl) (fun _ _ _ h => h) (Or.inl ⟨by kernel_rfl, fun w' hw' => by exact exec_gtr _ _ rfl (x.at_) (S2.R.d.count) rfl rfl false (Hcmp.out) rfl⟩) ?_
              refine wpAnyH_done (by kernel_rfl) ?_ _
              try go_frame
              have HI2 := Lib.hid (HI1.out.below hB2)
              have HN2 := Lib.hid (HN1.out.below hB2 HN1.out.lt)
              have HD2 := Lib.hid (HD1.out.below hB2 HD1.out.lt)
              have HK2 := Lib.hid (keepsOthers_below hB2)
              have HW2 := Lib.hid (Nat.le_trans HW1.out hB2.size)
              have HKr2 : Hid (KpF F2 W1 W1c2) := Lib.hid (fun i hi => hB2.block i (HI1.out.fresh hi))
              clear hQ2 hB2 HI1 HN1 HD1 HE1 HW1 Hp1
              generalize W1c2 = W2 at *
              obtain ⟨q, hq⟩ : ∃ q, q = S2.R.cs.length + pre.length := ⟨_, rfl⟩
              have kn : W2.cell? ⟨nb, 0, none⟩ = some (.int .i64 (q : Nat)) := by rw [hq]; exact blk_one HN2.out
              have fn := HN2.out.frozen 0
              have hl64 : (q : Int) < 1000000 := by rw [hq]; exact Hl64.out
              have hlen : ((S2.R.cs.length + (pre ++ [x]).length : Nat) : Int) = (q : Int) + 1 := by rw [hq]; simp; omega
              have hk2 := (Kept.refl (· = nb) W2).setCell (p := ⟨nb, 0, none⟩) rfl (.int .i64 ((q : Int) + 1))
              have HEn := Lib.hid (And.intro (And.intro (HI2.out.keptB HN2.out Hnb.out.1 Hnb.out.2.1 (by decide) (by decide) (by decide) (by decide) hk2) (Nat.le_trans HW2.out hk2.size)) (And.intro (show Blk (W2.setCell ⟨nb, 0, none⟩ (.int .i64 ((q : Int) + 1))) nb 3 #[.int .i64 ((S2.R.cs.length + (pre ++ [x]).length : Nat) : Int)] by rw [hlen]; exact blk_set1 HN2.out _) (HD2.out.kept hk2 (fun e9 => Hnb.out.2.2 e9.symm))))
              have HKf := Lib.hid ((HK2.out.trans (KeepsOthers.setCell W2 ⟨nb, 0, none⟩ (.int .i64 ((q : Int) + 1)))).from V9.heap.size)
              have HKrf : Hid (KpF F2 W1 (W2.setCell ⟨nb, 0, none⟩ (.int .i64 ((q : Int) + 1)))) := Lib.hid (HKr2.out.trans (KpF.set _ Hnb.out.2.1))
              clear hk2 hlen hq
              gi_wp2
              exact ⟨HKf.out, HKrf.out, HEn.out⟩
          case doneh2 =>
            rintro Dd yz W2 hD rfl ⟨⟨hJ7, _⟩, hN7, hD7⟩ hd
            have HM7 := Lib.hid (Marks.cons hJ5.M hJ5.J.B.size hD hd hJ7.M)
            have HJ7 : Hid (LvM w X Y S2 F2 (.slice az2 nz2 cz2) (.slice ac2 S2.R.cs.length cc2) (.slice ah2 S2.R.h.length ch2) ({ target := .collected Dd, args := #[] } :: ds) W2) := Lib.hid ⟨hJ7.J, hJ7.T, hJ7.nT, HM7.out, hJ7.nY⟩
            have HD7 := Lib.hid hD7
            have cn : W2.cell? ⟨nb, 0, none⟩ = some (.int .i64 (m2 : Nat)) := by rw [← Hnum.out]; exact blk_one hN7
            clear hJ5 hN5 hD5 hBx hJ7 hN7 hD7 hd HM7
            generalize ({ target := .collected Dd, args := #[] } :: ds : List Deferred) = ds at *
            go_wp2_with fail
            exact ⟨RelO.mk (m := m2) (j + 1) rfl ⟨rfl, rfl, rfl, rfl, rfl, rfl, (show Value.int .i64 ((j : Int) + 1) = .int .i64 ((j + 1 : Nat) : Int) by go_num)⟩ (by omega) ⟨S2, F2, az2, nz2, cz2, ac2, cc2, ah2, ch2, HPL.out.1, HBd2.out, HOr2.out, HJ7.out, HD7.out, HnD4.out⟩, by simp [intOf]; omega⟩
    have d7 : decide (o.k = 7) = false := decide_eq_false h7
    have d7b : (o.k == 7) = false := by simpa using h7
    have Hm2' : Hid (m2 = m) := Lib.hid (by rw [Hm2.out, if_neg (fun h => h7 h.1)])
    clear h7
    go_upto_region 12 with fail
    have Hm3 := Hm2'.out
    clear d7 d7b
    subst Hm3
    by_cases h8 : o.k = 8
    case pos =>
      have d8 : decide (o.k = 8) = true := decide_eq_true h8
      have d8b : (o.k == 8) = true := by simpa using h8
      clear h8
      have cR := blk_one HJ1.out.T
      have fR := (HJ1.out.T).frozen 0
      go_wp2_with fail
      exact leave_marks (HJ1.out.M.mono (KeepsOthers.setCell _ _ _)) (fun w' hw' => ⟨_, results_cell1 Try.results6 _ _ ⟨w.heap.size, 0, none⟩ (.bool true) rfl (agg_bool _) (blk_one (hw'.same _ _ _ (blk_set1 (HJ1.out.T) (.bool true)))), rfl, ((HJ1.out.J.B).setCell (p := ⟨w.heap.size, 0, none⟩) (Nat.le_refl _) _).trans hw'.bel⟩)
    have d8b : (o.k == 8) = false := by simpa using h8
    have d8 : decide (o.k = 8) = false := decide_eq_false h8
    have c9 : wr1.cell? ⟨xb, 0, none⟩ = some (.pointer (some ⟨X, 0, none⟩)) := blk_one HD1.out
    have hor2 := HOr.out.next o h8 HPL.out.2
    rw [← Hm2.out] at hor2
    clear h8
    go_wp2_with (first | (refine wpl_load rfl _ rfl Y rfl _ _ _ (HJ1.out.J.bY) Try.underlying30 rfl Try.info8D ?_; go_frame) | (refine wpl_load rfl _ rfl Q rfl _ _ _ (HO1.out) Try.underlying39 rfl (info_op8 Ho.out.len Ho.out.ev.len) ?_; go_frame))
    refine (st8_all o Ho.out HJ1.out.J.B (Nat.le_refl _) HJ1.out.J.at_ (HBd.out.fine (by omega)) HJ1.out.J.dc HJ1.out.J.B.size).mono ?_
    have hbd2 := HBd.out.next o HJ1.out.J.dc.cs.ok (theDrv.sane HJ1.out.J.at_)
    obtain ⟨S2, hS2⟩ : ∃ S2, st8 S o = S2 := ⟨_, rfl⟩
    rw [hS2] at hbd2 hor2 ⊢
    have HBd2 := Lib.hid hbd2
    have HOr2 := Lib.hid hor2
    clear hbd2 hS2 hor2 k0 d8 d8b c9
    rintro e w3 ⟨az2, nz2, cz2, ac2, cc2, ah2, ch2, rfl, hD3, hT3⟩
    have HT3 := Lib.hid hT3
    have HD3 := Lib.hid hD3
    have HY3 : Hid (Blk w3 Y 30 (d8A (dd7 S.R.d) (.slice az nz cz) (.slice ac S.R.cs.length cc) (.slice ah S.R.h.length ch))) := Lib.hid (hT3.blk HJ1.out.J.at_ HJ1.out.J.bY (by decide))
    clear hT3 hD3
    go_upto_region 15 with (first | (refine wpl_store rfl _ _ rfl Y (d8A (dd7 S2.R.d) (.slice az2 nz2 cz2) (.slice ac2 S2.R.cs.length cc2) (.slice ah2 S2.R.h.length ch2)) rfl rfl _ _ HY3.out Try.info8D rfl (d8A_one _ _ _ _ _ _ _ _ _ _) ?_; intro w4 hY4 hK4; have HN4 := Lib.hid (HJ1.out.next HD3.out HT3.out hY4 hK4); clear hY4 hK4; go_frame))
    obtain ⟨F2, hJ4, hn4⟩ := HN4.out
    obtain ⟨hDx, hnx⟩ := hn4 xb _ _ HD1.out HnDr.out HnY2.out.1
    have HJ4 := Lib.hid hJ4
    have HD4 := Lib.hid hDx
    have HnD4 := Lib.hid hnx
    clear hJ4 hn4 hDx hnx HN4 HT3 HD3 HY3 HJ1 HO1 HD1
    go_upto_region 19 with fail
    have hb5 := below_alloc w4 (Obj.cells #[.int .i64 (-1)] 3)
    have hb6 := below_alloc (w4.alloc (Obj.cells #[.int .i64 (-1)] 3)) (Obj.cells #[.int .i64 0] 3)
    have HJ6 := Lib.hid (HJ4.out.below (bthen' hb5 hb6))
    have HD6 := Lib.hid (HD4.out.below (bthen' hb5 hb6) HD4.out.lt)
    have HL6 := Lib.hid ((Blk.new w4 3 #[.int .i64 (-1)]).alloc (Obj.cells #[.int .i64 0] 3))
    have hx6 := Blk.new (w4.alloc (Obj.cells #[.int .i64 (-1)] 3)) 3 #[.int .i64 0]
    rw [World.size_alloc] at hx6
    have HN6 := Lib.hid hx6
    have Hlb : Hid (w.heap.size < w4.heap.size ∧ ¬ F2 w4.heap.size ∧ w4.heap.size ≠ w4.heap.size + 1 ∧ w4.heap.size ≠ xb) := Lib.hid ⟨by have := HJ4.out.T.lt; exact this, fun hi => Nat.lt_irrefl _ (HJ4.out.fresh hi), by omega, by have := HD4.out.lt; omega⟩
    have Hnb : Hid (w.heap.size < w4.heap.size + 1 ∧ ¬ F2 (w4.heap.size + 1) ∧ w4.heap.size + 1 ≠ xb) := Lib.hid ⟨by have := HJ4.out.T.lt; omega, fun hi => by have := HJ4.out.fresh hi; omega, by have := HD4.out.lt; omega⟩
    have Hhn : Hid (S2.R.h.length + S2.R.cs.length ≤ 1000000) := Lib.hid (by have := HBd2.out.h; omega)
    have Hnum : Hid (S2.R.cs.length + S2.R.h.length = m2) := Lib.hid (by have := HOr2.out.num; omega)
    clear hb5 hb6 hx6 HJ4 HD4
    generalize (w4.alloc (Obj.cells #[.int .i64 (-1)] 3)).alloc (Obj.cells #[.int .i64 0] 3) = w6 at *
    generalize w4.heap.size + 1 = nb at *
    generalize w4.heap.size = lb at *
    have c9 : w6.cell? ⟨xb, 0, none⟩ = some (.pointer (some ⟨X, 0, none⟩)) := blk_one HD6.out
    go_wp2_with fail
    refine (pcom_call (show pdAt w.heap.size w6 X S2 F2 from HJ6.out.J.at_)).mono ?_
    rintro e w7 ⟨rfl, rfl⟩
    have hb8 := below_alloc w6 (Obj.cells #[.pointer (some ⟨X, 0, none⟩)] 24)
    have hBx := Blk.new w6 24 #[.pointer (some ⟨X, 0, none⟩)]
    have hJ5 := HJ6.out.below hb8
    have hD5 := HD6.out.below hb8 HD6.out.lt
    have hL5 := HL6.out.below hb8 HL6.out.lt
    have hN5 := HN6.out.below hb8 HN6.out.lt
    clear hb8 HJ6 HD6 HL6 HN6 c9
    go_wp2_with fail
    generalize w6.heap.size = bp at *
    generalize w6.alloc (Obj.cells #[.pointer (some ⟨X, 0, none⟩)] 24) = V9 at *
    refine wp_rangeB (N := S2.R.cs.length) (w0 := V9) rfl (enters_of Try.func47 (by kernel_rfl) rfl) (pcom_gives hJ5.J.at_ hBx Hhn.out) (fun h k => h.trans k) (KpF.put (fun i hi => hJ5.fresh hi)) (Below.refl _ _) (fun _ => rfl)
      (fun pre W => (LvM w X Y S2 F2 (.slice az2 nz2 cz2) (.slice ac2 S2.R.cs.length cc2) (.slice ah2 S2.R.h.length ch2) ds W ∧ V9.heap.size ≤ W.heap.size) ∧ (Blk W nb 3 #[.int .i64 (pre.length : Int)] ∧ (Blk W lb 3 #[.int .i64 (lastA pre)] ∧ Blk W xb 24 #[.pointer (some ⟨X, 0, none⟩)]))) (fun cc pre _ => cc = .ret ∧ ¬ pre <+: S2.R.cs)
      (OwnFrom.and (LvM.ownF hJ5) (OwnFrom.and (Own.from (blk_own _ _ (fun pre : List EvR => #[.int .i64 (pre.length : Int)])) _) (OwnFrom.and (Own.from (blk_own _ _ (fun pre : List EvR => #[.int .i64 (lastA pre)])) _) (Own.from (blk_own (β := List EvR) _ _ (fun _ => _)) _)))) (fun cc => ownFrom_pure' (fun pre => cc = .ret ∧ ¬ pre <+: S2.R.cs)) ⟨⟨hJ5, Nat.le_refl _⟩, by simpa using hN5, hL5, hD5⟩ 37 (fun x => evA (nrE x))
      ?acs (fun pre x W hI => KpF.alloc (fun i hi => hI.1.1.fresh hi) _) ?assigncs ?bodycs ?donecs ?stopcs
    case assigncs =>
      intro lb9 pre x W K hI hK
      unfold encV
      clear hI
      have hzv := Try.zeroEv
      gi_wp2_with (first | (refine wplIn_store_new rfl _ _ rfl (evA (nrE x)) W 37 (evA ev0) rfl rfl rfl (info_evA (nrE_len x)) (by rw [evA_size (nrE_len x), evA_size (zeros_length 64)]) (evA_one _) ?_; go_frame))
      generalize W.heap.size = bx at hK ⊢
      exact hK
    case stopcs =>
      rintro D c pre W hD hp ⟨rfl, hn⟩ _
      exact absurd hp hn
    case bodycs =>
      rintro lb9 pre x be W1 ⟨⟨hI, hWw⟩, hNw, hLw, hDw⟩ hbe hpl
      have HI1 := Lib.hid hI
      have HN1 := Lib.hid hNw
      have HL1 := Lib.hid hLw
      have HD1 := Lib.hid hDw
      have HW1 := Lib.hid hWw
      have Hpl := Lib.hid hpl
      have ke : W1.cell? ⟨be, 0, none⟩ = some (.int .i64 x.at_) := (hbe.cell 0).trans (evA_at0 (nrE x))
      have kl : W1.cell? ⟨lb, 0, none⟩ = some (.int .i64 (lastA pre)) := blk_one hLw
      have kn : W1.cell? ⟨nb, 0, none⟩ = some (.int .i64 (pre.length : Nat)) := blk_one hNw
      have fl := hLw.frozen 0
      have fn := hNw.frozen 0
      have Hpf : Hid ((pre ++ [x] <+: S2.R.cs) → lastA pre ≤ x.at_) := Lib.hid (fun hp => lastA_ok HOr2.out.sort HOr2.out.pos hp)
      have hl64 : (pre.length : Int) < 1000000 := by have := Hpl.out; have := Hhn.out; omega
      clear hI hNw hLw hDw hbe hWw hpl
      by_cases hlt : x.at_ < lastA pre
      · have dl : decide (x.at_ < lastA pre) = true := decide_eq_true hlt
        have HNp : Hid (¬ pre ++ [x] <+: S2.R.cs) := Lib.hid (fun hp => by have := Hpf.out hp; omega)
        clear hlt Hpf
        have cT := blk_one HI1.out.T
        have fT := HI1.out.T.frozen 0
        gi_wp2
        exact ⟨(KeepsOthers.setCell _ _ _).from _, rfl, HNp.out⟩
      · have dl : decide (x.at_ < lastA pre) = false := decide_eq_false hlt
        clear hlt Hpf
        have hk1 := (Kept.refl (· = lb) W1).setCell (p := ⟨lb, 0, none⟩) rfl (.int .i64 x.at_)
        have HI2 := Lib.hid (HI1.out.keptB HL1.out Hlb.out.1 Hlb.out.2.1 (by decide) (by decide) (by decide) (by decide) hk1)
        have HN2 := Lib.hid (HN1.out.kept hk1 (fun e9 => Hlb.out.2.2.1 e9.symm))
        have HL2 : Hid (Blk (W1.setCell ⟨lb, 0, none⟩ (.int .i64 x.at_)) lb 3 #[.int .i64 (lastA (pre ++ [x]))]) := Lib.hid (by rw [lastA_snoc]; exact blk_set1 HL1.out _)
        have HD2 := Lib.hid (HD1.out.kept hk1 (fun e9 => Hlb.out.2.2.2 e9.symm))
        have HW2 := Lib.hid (Nat.le_trans HW1.out hk1.size)
        have kn2 : (W1.setCell ⟨lb, 0, none⟩ (.int .i64 x.at_)).cell? ⟨nb, 0, none⟩ = some (.int .i64 (pre.length : Nat)) := blk_one HN2.out
        have hk2 := (Kept.refl (· = nb) (W1.setCell ⟨lb, 0, none⟩ (.int .i64 x.at_))).setCell (p := ⟨nb, 0, none⟩) rfl (.int .i64 ((pre.length : Int) + 1))
        have hlen : ((pre ++ [x]).length : Int) = (pre.length : Int) + 1 := by simp
        have HEn := Lib.hid (And.intro (And.intro (HI2.out.keptB HN2.out Hnb.out.1 Hnb.out.2.1 (by decide) (by decide) (by decide) (by decide) hk2) (Nat.le_trans HW2.out hk2.size)) (And.intro (show Blk ((W1.setCell ⟨lb, 0, none⟩ (.int .i64 x.at_)).setCell ⟨nb, 0, none⟩ (.int .i64 ((pre.length : Int) + 1))) nb 3 #[.int .i64 ((pre ++ [x]).length : Int)] by rw [hlen]; exact blk_set1 HN2.out _) (And.intro (HL2.out.kept hk2 Hlb.out.2.2.1) (HD2.out.kept hk2 (fun e9 => Hnb.out.2.2 e9.symm)))))
        have HKf := Lib.hid (((KeepsOthers.setCell W1 ⟨lb, 0, none⟩ (.int .i64 x.at_)).trans (KeepsOthers.setCell (W1.setCell ⟨lb, 0, none⟩ (.int .i64 x.at_)) ⟨nb, 0, none⟩ (.int .i64 ((pre.length : Int) + 1)))).from V9.heap.size)
        have HKr : Hid (KpF F2 W1 ((W1.setCell ⟨lb, 0, none⟩ (.int .i64 x.at_)).setCell ⟨nb, 0, none⟩ (.int .i64 ((pre.length : Int) + 1)))) := Lib.hid ((KpF.set _ Hlb.out.2.1).trans (KpF.set _ Hnb.out.2.1))
        clear hk1 hk2 hlen kn
        gi_wp2
        exact ⟨HKf.out, HKr.out, HEn.out⟩
    case donecs =>
      rintro Dd yz W1 hD rfl ⟨⟨hJ6, _⟩, hN6, hL6, hD6⟩ hd
      have HM6 := Lib.hid (Marks.cons hJ5.M hJ5.J.B.size hD hd hJ6.M)
      have HJ6 : Hid (LvM w X Y S2 F2 (.slice az2 nz2 cz2) (.slice ac2 S2.R.cs.length cc2) (.slice ah2 S2.R.h.length ch2) ({ target := .collected Dd, args := #[] } :: ds) W1) := Lib.hid ⟨hJ6.J, hJ6.T, hJ6.nT, HM6.out, hJ6.nY⟩
      have HN6 := Lib.hid hN6
      have HD6 := Lib.hid hD6
      have c9 : W1.cell? ⟨xb, 0, none⟩ = some (.pointer (some ⟨X, 0, none⟩)) := blk_one hD6
      clear hJ5 hN5 hL5 hD5 hBx hJ6 hN6 hL6 hD6 hd HM6
      generalize ({ target := .collected Dd, args := #[] } :: ds : List Deferred) = ds at *
      go_wp2_with fail
      refine (phpd_call (show pdAt w.heap.size W1 X S2 F2 from HJ6.out.J.at_)).mono ?_
      rintro e w8 ⟨rfl, rfl⟩
      have hb8 := below_alloc W1 (Obj.cells #[.pointer (some ⟨X, 0, none⟩)] 24)
      have hBx := Blk.new W1 24 #[.pointer (some ⟨X, 0, none⟩)]
      have hJ5 := HJ6.out.below hb8
      have hD5 := HD6.out.below hb8 HD6.out.lt
      have hN5 := HN6.out.below hb8 HN6.out.lt
      clear hb8 HJ6 HD6 HN6 c9
      go_wp2_with fail
      generalize W1.heap.size = bq at *
      generalize W1.alloc (Obj.cells #[.pointer (some ⟨X, 0, none⟩)] 24) = V9 at *
      refine wp_rangeB (N := S2.R.h.length) (w0 := V9) rfl (enters_of Try.func49 (by kernel_rfl) rfl) (phpd_gives hJ5.J.at_ hBx Hhn.out) (fun h k => h.trans k) (KpF.put (fun i hi => hJ5.fresh hi)) (Below.refl _ _) (fun _ => rfl)
        (fun pre W => (LvM w X Y S2 F2 (.slice az2 nz2 cz2) (.slice ac2 S2.R.cs.length cc2) (.slice ah2 S2.R.h.length ch2) ds W ∧ V9.heap.size ≤ W.heap.size) ∧ (Blk W nb 3 #[.int .i64 ((S2.R.cs.length + pre.length : Nat) : Int)] ∧ (Blk W xb 24 #[.pointer (some ⟨X, 0, none⟩)]))) (fun cc pre _ => cc = .ret ∧ ¬ pre <+: S2.R.h)
        (OwnFrom.and (LvM.ownF hJ5) (OwnFrom.and (Own.from (blk_own _ _ (fun pre : List EvR => #[.int .i64 ((S2.R.cs.length + pre.length : Nat) : Int)])) _) (Own.from (blk_own (β := List EvR) _ _ (fun _ => _)) _))) (fun cc => ownFrom_pure' (fun pre => cc = .ret ∧ ¬ pre <+: S2.R.h)) ⟨⟨hJ5, Nat.le_refl _⟩, by simpa using hN5, hD5⟩ 37 (fun x => evA (nrE x))
        ?ah (fun pre x W hI => KpF.alloc (fun i hi => hI.1.1.fresh hi) _) ?assignh ?bodyh ?doneh ?stoph
      case assignh =>
        intro lb9 pre x W K hI hK
        unfold encV
        clear hI
        have hzv := Try.zeroEv
        gi_wp2_with (first | (refine wplIn_store_new rfl _ _ rfl (evA (nrE x)) W 37 (evA ev0) rfl rfl rfl (info_evA (nrE_len x)) (by rw [evA_size (nrE_len x), evA_size (zeros_length 64)]) (evA_one _) ?_; go_frame))
        generalize W.heap.size = bx at hK ⊢
        exact hK
      case stoph =>
        rintro D c pre W hD hp ⟨rfl, hn⟩ _
        exact absurd hp hn
      case bodyh =>
        rintro lb9 pre x be W1 ⟨⟨hI, hWw⟩, hNw, hDw⟩ hbe hpl
        obtain ⟨D, vz, ve, l, mb, nn, ff, hp1, hF1⟩ := (show pdAt w.heap.size W1 X S2 F2 from hI.J.at_)
        have Hp1 := Lib.hid hp1
        have HI1 := Lib.hid hI
        have HN1 := Lib.hid hNw
        have HD1 := Lib.hid hDw
        have HE1 := Lib.hid hbe
        have HW1 := Lib.hid hWw
        have Hpl := Lib.hid hpl
        have Hpf : Hid ((pre ++ [x] <+: S2.R.h) → x.at_ ≤ S2.R.d.count) := Lib.hid (fun hp => HOr2.out.hap x (hp.subset (by simp)))
        have Hl64 : Hid ((((S2.R.cs.length + pre.length : Nat)) : Int) < 1000000) := Lib.hid (by have := Hpl.out; have := Hhn.out; omega)
        clear hI hNw hDw hbe hWw hpl hp1 hF1
        gi_upto_region 27 with fail
        by_cases hlt : x.at_ > S2.R.d.count
        · have Hcmp : Hid (decide (x.at_ > S2.R.d.count) = true) := Lib.hid (decide_eq_true hlt)
          have HNp : Hid (¬ pre ++ [x] <+: S2.R.h) := Lib.hid (fun hp => by have := Hpf.out hp; omega)
          clear hlt Hpf
          refine wpIn_region_heldIn (l := lb9) (S := fun w' => Kept (fun _ => False) W1 w') (by kernel_rfl) (by kernel_rfl) (by rintro ⟨_, _, h9⟩; exact h9) ?_
          change wpAnyH _ _ _ _ _ _ _ _ (World.drew _)
          have hQ : Kept (fun _ => False) W1 W1.drew := (Kept.refl _ _).drew
          have hB0 : Below W1.heap.size W1 W1.drew := (Below.refl _ _).drew
          refine takeH hQ (i := 0) (d := 78) (v := .pointer (some ⟨be, 0, none⟩)) rfl rfl (by kernel_rfl) (by kernel_rfl) (by kernel_rfl) (fun _ _ _ h => h) (Or.inl ⟨by kernel_rfl, fun w' hw' => by kernel_rfl⟩) ?_
          refine takeH hQ (i := 1) (d := 79) (v := .int .i64 (x.at_)) rfl rfl (by kernel_rfl) (by kernel_rfl) (by kernel_rfl) (fun _ _ _ h => h) (Or.inl ⟨by kernel_rfl, fun w' hw' => by exact exec_cell _ rfl ⟨be, 0, none⟩ rfl _ Try.underlying3 (((HE1.out.kept hw' (fun h => h)).cell 0).trans (evA_at0 (nrE x)))⟩) ?_
          refine takeH hQ (i := 2) (d := 80) (v := .pointer (some ⟨X, 0, none⟩)) rfl rfl (by kernel_rfl) (by kernel_rfl) (by kernel_rfl) (fun _ _ _ h => h) (Or.inl ⟨by kernel_rfl, fun w' hw' => by exact exec_cellv _ rfl ⟨xb, 0, none⟩ rfl (.pointer (some ⟨X, 0, none⟩)) Try.underlying24 rfl (((HD1.out.kept hw' (fun h => h)).cell 0).trans (rfl))⟩) ?_
          try go_frame
          refine nextH (i := 3) rfl (by kernel_rfl) (by kernel_rfl) (fun K' hK => ?_)
          go_wp2_with fail
          refine (pdevP (Hp1.out.below hB0)).mono ?_
          rintro en W1c1 ⟨rfl, hw9⟩
          have hb := below_eqD hw9
          clear hw9
          have hQ1 : Kept (fun _ => False) W1 W1c1 := kept_next hQ hb
          have hB1 : Below W1.heap.size W1 W1c1 := bel_next hB0 hb
          refine hK.out _ _ ⟨hQ1, ?_⟩
          clear hK K' hQ hb hB0
          refine nextH (i := 4) rfl (by kernel_rfl) (by kernel_rfl) (fun K' hK => ?_)
          go_wp2_with fail
          refine (dcount8 (Hp1.out.dv.below hB1)).mono ?_
          rintro en W1c2 ⟨rfl, hb⟩
          have hQ2 : Kept (fun _ => False) W1 W1c2 := kept_next hQ1 hb
          have hB2 : Below W1.heap.size W1 W1c2 := bel_next hB1 hb
          refine hK.out _ _ ⟨hQ2, ?_⟩
          clear hK K' hQ1 hb hB1
          refine takeH hQ2 (i := 5) (d := 83) (v := .bool true) rfl rfl (by kernel_rfl) (by kernel_rfl) (by kernel_rfl) (fun _ _ _ h => h) (Or.inl ⟨by kernel_rfl, fun w' hw' => by exact exec_gtr _ _ rfl (x.at_) (S2.R.d.count) rfl rfl true (Hcmp.out) rfl⟩) ?_
          refine wpAnyH_done (by kernel_rfl) ?_ _
          try go_frame
          have HI2 := Lib.hid (HI1.out.below hB2)
          have HK2 := Lib.hid (keepsOthers_below hB2)
          clear hQ2 hB2 HI1 HN1 HD1 HE1 HW1 Hp1
          generalize W1c2 = W2 at *
          have cT := blk_one HI2.out.T
          have fT := HI2.out.T.frozen 0
          gi_wp2
          exact ⟨(HK2.out.trans (KeepsOthers.setCell _ _ _)).from _, rfl, HNp.out⟩
        · have Hcmp : Hid (decide (x.at_ > S2.R.d.count) = false) := Lib.hid (decide_eq_false hlt)
          clear hlt Hpf
          refine wpIn_region_heldIn (l := lb9) (S := fun w' => Kept (fun _ => False) W1 w') (by kernel_rfl) (by kernel_rfl) (by rintro ⟨_, _, h9⟩; exact h9) ?_
          change wpAnyH _ _ _ _ _ _ _ _ (World.drew _)
          have hQ : Kept (fun _ => False) W1 W1.drew := (Kept.refl _ _).drew
          have hB0 : Below W1.heap.size W1 W1.drew := (Below.refl _ _).drew
          refine takeH hQ (i := 0) (d := 78) (v := .pointer (some ⟨be, 0, none⟩)) rfl rfl (by kernel_rfl) (by kernel_rfl) (by kernel_rfl) (fun _ _ _ h => h) (Or.inl ⟨by kernel_rfl, fun w' hw' => by kernel_rfl⟩) ?_
          refine takeH hQ (i := 1) (d := 79) (v := .int .i64 (x.at_)) rfl rfl (by kernel_rfl) (by kernel_rfl) (by kernel_rfl) (fun _ _ _ h => h) (Or.inl ⟨by kernel_rfl, fun w' hw' => by exact exec_cell _ rfl ⟨be, 0, none⟩ rfl _ Try.underlying3 (((HE1.out.kept hw' (fun h => h)).cell 0).trans (evA_at0 (nrE x)))⟩) ?_
          refine takeH hQ (i := 2) (d := 80) (v := .pointer (some ⟨X, 0, none⟩)) rfl rfl (by kernel_rfl) (by kernel_rfl) (by kernel_rfl) (fun _ _ _ h => h) (Or.inl ⟨by kernel_rfl, fun w' hw' => by exact exec_cellv _ rfl ⟨xb, 0, none⟩ rfl (.pointer (some ⟨X, 0, none⟩)) Try.underlying24 rfl (((HD1.out.kept hw' (fun h => h)).cell 0).trans (rfl))⟩) ?_
          try go_frame
          refine nextH (i := 3) rfl (by kernel_rfl) (by kernel_rfl) (fun K' hK => ?_)
          go_wp2_with fail
          refine (pdevP (Hp1.out.below hB0)).mono ?_
          rintro en W1c1 ⟨rfl, hw9⟩
          have hb := below_eqD hw9
          clear hw9
          have hQ1 : Kept (fun _ => False) W1 W1c1 := kept_next hQ hb
          have hB1 : Below W1.heap.size W1 W1c1 := bel_next hB0 hb
          refine hK.out _ _ ⟨hQ1, ?_⟩
          clear hK K' hQ hb hB0
          refine nextH (i := 4) rfl (by kernel_rfl) (by kernel_rfl) (fun K' hK => ?_)
          go_wp2_with fail
          refine (dcount8 (Hp1.out.dv.below hB1)).mono ?_
          rintro en W1c2 ⟨rfl, hb⟩
          have hQ2 : Kept (fun _ => False) W1 W1c2 := kept_next hQ1 hb
          have hB2 : Below W1.heap.size W1 W1c2 := bel_next hB1 hb
          refine hK.out _ _ ⟨hQ2, ?_⟩
          clear hK K' hQ1 hb hB1
          refine takeH hQ2 (i := 5) (d := 83) (v := .bool false) rfl rfl (by kernel_rfl) (by kernel_rfl) (by kernel_rfl) (fun _ _ _ h => h) (Or.inl ⟨by kernel_rfl, fun w' hw' => by exact exec_gtr _ _ rfl (x.at_) (S2.R.d.count) rfl rfl false (Hcmp.out) rfl⟩) ?_
          refine wpAnyH_done (by kernel_rfl) ?_ _
          try go_frame
          have HI2 := Lib.hid (HI1.out.below hB2)
          have HN2 := Lib.hid (HN1.out.below hB2 HN1.out.lt)
          have HD2 := Lib.hid (HD1.out.below hB2 HD1.out.lt)
          have HK2 := Lib.hid (keepsOthers_below hB2)
          have HW2 := Lib.hid (Nat.le_trans HW1.out hB2.size)
          have HKr2 : Hid (KpF F2 W1 W1c2) := Lib.hid (fun i hi => hB2.block i (HI1.out.fresh hi))
          clear hQ2 hB2 HI1 HN1 HD1 HE1 HW1 Hp1
          generalize W1c2 = W2 at *
          obtain ⟨q, hq⟩ : ∃ q, q = S2.R.cs.length + pre.length := ⟨_, rfl⟩
          have kn : W2.cell? ⟨nb, 0, none⟩ = some (.int .i64 (q : Nat)) := by rw [hq]; exact blk_one HN2.out
          have fn := HN2.out.frozen 0
          have hl64 : (q : Int) < 1000000 := by rw [hq]; exact Hl64.out
          have hlen : ((S2.R.cs.length + (pre ++ [x]).length : Nat) : Int) = (q : Int) + 1 := by rw [hq]; simp; omega
          have hk2 := (Kept.refl (· = nb) W2).setCell (p := ⟨nb, 0, none⟩) rfl (.int .i64 ((q : Int) + 1))
          have HEn := Lib.hid (And.intro (And.intro (HI2.out.keptB HN2.out Hnb.out.1 Hnb.out.2.1 (by decide) (by decide) (by decide) (by decide) hk2) (Nat.le_trans HW2.out hk2.size)) (And.intro (show Blk (W2.setCell ⟨nb, 0, none⟩ (.int .i64 ((q : Int) + 1))) nb 3 #[.int .i64 ((S2.R.cs.length + (pre ++ [x]).length : Nat) : Int)] by rw [hlen]; exact blk_set1 HN2.out _) (HD2.out.kept hk2 (fun e9 => Hnb.out.2.2 e9.symm))))
          have HKf := Lib.hid ((HK2.out.trans (KeepsOthers.setCell W2 ⟨nb, 0, none⟩ (.int .i64 ((q : Int) + 1)))).from V9.heap.size)
          have HKrf : Hid (KpF F2 W1 (W2.setCell ⟨nb, 0, none⟩ (.int .i64 ((q : Int) + 1)))) := Lib.hid (HKr2.out.trans (KpF.set _ Hnb.out.2.1))
          clear hk2 hlen hq
          gi_wp2
          exact ⟨HKf.out, HKrf.out, HEn.out⟩
      case doneh =>
        rintro Dd yz W2 hD rfl ⟨⟨hJ7, _⟩, hN7, hD7⟩ hd
        have HM7 := Lib.hid (Marks.cons hJ5.M hJ5.J.B.size hD hd hJ7.M)
        have HJ7 : Hid (LvM w X Y S2 F2 (.slice az2 nz2 cz2) (.slice ac2 S2.R.cs.length cc2) (.slice ah2 S2.R.h.length ch2) ({ target := .collected Dd, args := #[] } :: ds) W2) := Lib.hid ⟨hJ7.J, hJ7.T, hJ7.nT, HM7.out, hJ7.nY⟩
        have HD7 := Lib.hid hD7
        have cn : W2.cell? ⟨nb, 0, none⟩ = some (.int .i64 (m2 : Nat)) := by rw [← Hnum.out]; exact blk_one hN7
        clear hJ5 hN5 hD5 hBx hJ7 hN7 hD7 hd HM7
        generalize ({ target := .collected Dd, args := #[] } :: ds : List Deferred) = ds at *
        go_wp2_with fail
        exact ⟨RelO.mk (m := m2) (j + 1) rfl ⟨rfl, rfl, rfl, rfl, rfl, rfl, (show Value.int .i64 ((j : Int) + 1) = .int .i64 ((j + 1 : Nat) : Int) by go_num)⟩ (by omega) ⟨S2, F2, az2, nz2, cz2, ac2, cc2, ah2, ch2, HPL.out.1, HBd2.out, HOr2.out, HJ7.out, HD7.out, HnD4.out⟩, by simp [intOf]; omega⟩
theorem walkPlanOrder (zones size opn : Int) (a : Option Addr) (len cap : Nat) (f : Nat → Op8) (w : World) (h0 : (Lit.int .i64 zones).wf = true) (h1 : (Lit.int .i64 size).wf = true) (h2 : (Lit.int .i64 opn).wf = true) (h3 : RowOp8 w a len cap f) : Calls Try.prog 6 #[.int .i64 zones, .int .i64 size, .int .i64 opn, .slice a len cap] w fun e w' => e = .returned (.bool true) ∧ Below w.heap.size w w' := by
  by_cases hr : ((1 ≤ zones ∧ zones ≤ 512) ∧ (1 ≤ size ∧ size ≤ 64) ∧ 1 ≤ opn ∧ opn ≤ 64)
  · obtain ⟨⟨r1, r2⟩, ⟨r3, r4⟩, r5, r6⟩ := hr
    obtain ⟨n, rfl⟩ := Int.eq_ofNat_of_zero_le (show 0 ≤ zones by omega)
    by_cases hz : 40 < n
    · exact por_b n size opn a len cap w ⟨by omega, by omega⟩ ⟨r5, r6⟩ ⟨r3, r4⟩ hz
    · by_cases hl : 60 < len
      · exact por_l n size opn a len cap w ⟨by omega, by omega⟩ ⟨r5, r6⟩ ⟨r3, r4⟩ hl
      · exact por_t n size opn a len cap f w ⟨by omega, by omega⟩ ⟨r5, r6⟩ ⟨r3, r4⟩ h3 (by omega)
  · exact por_n zones size opn a len cap w hr
end Go.Proofs.Ytajkajgnjcnolaa

