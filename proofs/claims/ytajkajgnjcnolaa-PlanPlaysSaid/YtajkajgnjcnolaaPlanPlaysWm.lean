import Derived.Test.YtajkajgnjcnolaaMo27
namespace Go.Proofs.Ytajkajgnjcnolaa
open Go.RowKit
set_option linter.unusedVariables false
set_option linter.unnecessarySimpa false
set_option linter.unusedSimpArgs false
set_option maxRecDepth 100000 in
set_option maxHeartbeats 8000000 in
theorem ppl_0 (C : Drv) (zones size opn : Int) (a : Option Addr) (len cap : Nat) (w : World) (h : ¬ ((1 ≤ zones ∧ zones ≤ 512) ∧ (1 ≤ size ∧ size ≤ 64) ∧ 1 ≤ opn ∧ opn ≤ 64)) (e0 : zones < 1) : Calls Try.prog 3 #[.int .i64 zones, .int .i64 size, .int .i64 opn, .slice a len cap] w fun e w' => e = .returned (.bool true) ∧ Below w.heap.size w w' := by
  have d0 : decide (zones < 1) = true := decide_eq_true (by omega)
  have H := Lib.hid h
  clear h e0
  go_enter Try.func3, Try.ntmps3
  go_wp2_with fail
  refine (anchor8_any C w).mono ?_
  rintro e w1 ⟨rfl, hb1⟩
  have HB1 := Lib.hid hb1
  clear hb1
  go_wp2_with fail
  refine (started_no C zones size opn w1 H.out).mono ?_
  rintro e w2 ⟨rfl, hb⟩
  have HB2 := Lib.hid (bthen' HB1.out (bthen' hb (below_alloc w2 (Obj.cells d8Z 30))))
  clear hb
  go_wp2_with (first | (refine wpl_store_new rfl _ _ rfl d8Z w2 30 d8Z rfl rfl rfl Try.info8D rfl d8Z_one ?_; go_frame))
  go_ret
  exact ⟨rfl, HB2.out⟩
set_option maxRecDepth 100000 in
set_option maxHeartbeats 8000000 in
theorem ppl_1 (C : Drv) (zones size opn : Int) (a : Option Addr) (len cap : Nat) (w : World) (h : ¬ ((1 ≤ zones ∧ zones ≤ 512) ∧ (1 ≤ size ∧ size ≤ 64) ∧ 1 ≤ opn ∧ opn ≤ 64)) (e0 : ¬ (zones < 1)) (e1 : 40 < zones) : Calls Try.prog 3 #[.int .i64 zones, .int .i64 size, .int .i64 opn, .slice a len cap] w fun e w' => e = .returned (.bool true) ∧ Below w.heap.size w w' := by
  have d0 : decide (zones < 1) = false := decide_eq_false (by omega)
  have d1 : decide (40 < zones) = true := decide_eq_true (by omega)
  have H := Lib.hid h
  clear h e0 e1
  go_enter Try.func3, Try.ntmps3
  go_wp2_with fail
  refine (anchor8_any C w).mono ?_
  rintro e w1 ⟨rfl, hb1⟩
  have HB1 := Lib.hid hb1
  clear hb1
  go_wp2_with fail
  refine (started_no C zones size opn w1 H.out).mono ?_
  rintro e w2 ⟨rfl, hb⟩
  have HB2 := Lib.hid (bthen' HB1.out (bthen' hb (below_alloc w2 (Obj.cells d8Z 30))))
  clear hb
  go_wp2_with (first | (refine wpl_store_new rfl _ _ rfl d8Z w2 30 d8Z rfl rfl rfl Try.info8D rfl d8Z_one ?_; go_frame))
  go_ret
  exact ⟨rfl, HB2.out⟩
set_option maxRecDepth 100000 in
set_option maxHeartbeats 8000000 in
theorem ppl_2 (C : Drv) (zones size opn : Int) (a : Option Addr) (len cap : Nat) (w : World) (h : ¬ ((1 ≤ zones ∧ zones ≤ 512) ∧ (1 ≤ size ∧ size ≤ 64) ∧ 1 ≤ opn ∧ opn ≤ 64)) (e0 : ¬ (zones < 1)) (e1 : ¬ (40 < zones)) (e2 : size < 1) : Calls Try.prog 3 #[.int .i64 zones, .int .i64 size, .int .i64 opn, .slice a len cap] w fun e w' => e = .returned (.bool true) ∧ Below w.heap.size w w' := by
  have d0 : decide (zones < 1) = false := decide_eq_false (by omega)
  have d1 : decide (40 < zones) = false := decide_eq_false (by omega)
  have d2 : decide (size < 1) = true := decide_eq_true (by omega)
  have H := Lib.hid h
  clear h e0 e1 e2
  go_enter Try.func3, Try.ntmps3
  go_wp2_with fail
  refine (anchor8_any C w).mono ?_
  rintro e w1 ⟨rfl, hb1⟩
  have HB1 := Lib.hid hb1
  clear hb1
  go_wp2_with fail
  refine (started_no C zones size opn w1 H.out).mono ?_
  rintro e w2 ⟨rfl, hb⟩
  have HB2 := Lib.hid (bthen' HB1.out (bthen' hb (below_alloc w2 (Obj.cells d8Z 30))))
  clear hb
  go_wp2_with (first | (refine wpl_store_new rfl _ _ rfl d8Z w2 30 d8Z rfl rfl rfl Try.info8D rfl d8Z_one ?_; go_frame))
  go_ret
  exact ⟨rfl, HB2.out⟩
set_option maxRecDepth 100000 in
set_option maxHeartbeats 8000000 in
theorem ppl_3 (C : Drv) (zones size opn : Int) (a : Option Addr) (len cap : Nat) (w : World) (h : ¬ ((1 ≤ zones ∧ zones ≤ 512) ∧ (1 ≤ size ∧ size ≤ 64) ∧ 1 ≤ opn ∧ opn ≤ 64)) (e0 : ¬ (zones < 1)) (e1 : ¬ (40 < zones)) (e2 : ¬ (size < 1)) (e3 : 64 < size) : Calls Try.prog 3 #[.int .i64 zones, .int .i64 size, .int .i64 opn, .slice a len cap] w fun e w' => e = .returned (.bool true) ∧ Below w.heap.size w w' := by
  have d0 : decide (zones < 1) = false := decide_eq_false (by omega)
  have d1 : decide (40 < zones) = false := decide_eq_false (by omega)
  have d2 : decide (size < 1) = false := decide_eq_false (by omega)
  have d3 : decide (64 < size) = true := decide_eq_true (by omega)
  have H := Lib.hid h
  clear h e0 e1 e2 e3
  go_enter Try.func3, Try.ntmps3
  go_wp2_with fail
  refine (anchor8_any C w).mono ?_
  rintro e w1 ⟨rfl, hb1⟩
  have HB1 := Lib.hid hb1
  clear hb1
  go_wp2_with fail
  refine (started_no C zones size opn w1 H.out).mono ?_
  rintro e w2 ⟨rfl, hb⟩
  have HB2 := Lib.hid (bthen' HB1.out (bthen' hb (below_alloc w2 (Obj.cells d8Z 30))))
  clear hb
  go_wp2_with (first | (refine wpl_store_new rfl _ _ rfl d8Z w2 30 d8Z rfl rfl rfl Try.info8D rfl d8Z_one ?_; go_frame))
  go_ret
  exact ⟨rfl, HB2.out⟩
set_option maxRecDepth 100000 in
set_option maxHeartbeats 8000000 in
theorem ppl_4 (C : Drv) (zones size opn : Int) (a : Option Addr) (len cap : Nat) (w : World) (h : ¬ ((1 ≤ zones ∧ zones ≤ 512) ∧ (1 ≤ size ∧ size ≤ 64) ∧ 1 ≤ opn ∧ opn ≤ 64)) (e0 : ¬ (zones < 1)) (e1 : ¬ (40 < zones)) (e2 : ¬ (size < 1)) (e3 : ¬ (64 < size)) (e4 : opn < 1) : Calls Try.prog 3 #[.int .i64 zones, .int .i64 size, .int .i64 opn, .slice a len cap] w fun e w' => e = .returned (.bool true) ∧ Below w.heap.size w w' := by
  have d0 : decide (zones < 1) = false := decide_eq_false (by omega)
  have d1 : decide (40 < zones) = false := decide_eq_false (by omega)
  have d2 : decide (size < 1) = false := decide_eq_false (by omega)
  have d3 : decide (64 < size) = false := decide_eq_false (by omega)
  have d4 : decide (opn < 1) = true := decide_eq_true (by omega)
  have H := Lib.hid h
  clear h e0 e1 e2 e3 e4
  go_enter Try.func3, Try.ntmps3
  go_wp2_with fail
  refine (anchor8_any C w).mono ?_
  rintro e w1 ⟨rfl, hb1⟩
  have HB1 := Lib.hid hb1
  clear hb1
  go_wp2_with fail
  refine (started_no C zones size opn w1 H.out).mono ?_
  rintro e w2 ⟨rfl, hb⟩
  have HB2 := Lib.hid (bthen' HB1.out (bthen' hb (below_alloc w2 (Obj.cells d8Z 30))))
  clear hb
  go_wp2_with (first | (refine wpl_store_new rfl _ _ rfl d8Z w2 30 d8Z rfl rfl rfl Try.info8D rfl d8Z_one ?_; go_frame))
  go_ret
  exact ⟨rfl, HB2.out⟩
set_option maxRecDepth 100000 in
set_option maxHeartbeats 8000000 in
theorem ppl_5 (C : Drv) (zones size opn : Int) (a : Option Addr) (len cap : Nat) (w : World) (h : ¬ ((1 ≤ zones ∧ zones ≤ 512) ∧ (1 ≤ size ∧ size ≤ 64) ∧ 1 ≤ opn ∧ opn ≤ 64)) (e0 : ¬ (zones < 1)) (e1 : ¬ (40 < zones)) (e2 : ¬ (size < 1)) (e3 : ¬ (64 < size)) (e4 : ¬ (opn < 1)) (e5 : 64 < opn) : Calls Try.prog 3 #[.int .i64 zones, .int .i64 size, .int .i64 opn, .slice a len cap] w fun e w' => e = .returned (.bool true) ∧ Below w.heap.size w w' := by
  have d0 : decide (zones < 1) = false := decide_eq_false (by omega)
  have d1 : decide (40 < zones) = false := decide_eq_false (by omega)
  have d2 : decide (size < 1) = false := decide_eq_false (by omega)
  have d3 : decide (64 < size) = false := decide_eq_false (by omega)
  have d4 : decide (opn < 1) = false := decide_eq_false (by omega)
  have d5 : decide (64 < opn) = true := decide_eq_true (by omega)
  have H := Lib.hid h
  clear h e0 e1 e2 e3 e4 e5
  go_enter Try.func3, Try.ntmps3
  go_wp2_with fail
  refine (anchor8_any C w).mono ?_
  rintro e w1 ⟨rfl, hb1⟩
  have HB1 := Lib.hid hb1
  clear hb1
  go_wp2_with fail
  refine (started_no C zones size opn w1 H.out).mono ?_
  rintro e w2 ⟨rfl, hb⟩
  have HB2 := Lib.hid (bthen' HB1.out (bthen' hb (below_alloc w2 (Obj.cells d8Z 30))))
  clear hb
  go_wp2_with (first | (refine wpl_store_new rfl _ _ rfl d8Z w2 30 d8Z rfl rfl rfl Try.info8D rfl d8Z_one ?_; go_frame))
  go_ret
  exact ⟨rfl, HB2.out⟩
set_option maxRecDepth 100000 in
set_option maxHeartbeats 8000000 in
theorem ppl_b (C : Drv) (n : Nat) (size opn : Int) (a : Option Addr) (len cap : Nat) (w : World) (h1 : 1 ≤ n ∧ n ≤ 512) (h2 : 1 ≤ opn ∧ opn ≤ 64) (h3 : 1 ≤ size ∧ size ≤ 64) (hb : 40 < n) : Calls Try.prog 3 #[.int .i64 (n : Nat), .int .i64 size, .int .i64 opn, .slice a len cap] w fun e w' => e = .returned (.bool true) ∧ Below w.heap.size w w' := by
  have d0 : decide ((n : Int) < 1) = false := decide_eq_false (by omega)
  have d1 : decide (40 < (n : Int)) = true := decide_eq_true (by omega)
  go_enter Try.func3, Try.ntmps3
  go_wp2_with fail
  refine (anchor8_any C w).mono ?_
  rintro e w1 ⟨rfl, hb1⟩
  have HB1 := Lib.hid hb1
  clear hb1
  go_wp2_with fail
  refine (started_big C n size opn w1 h1 h2 h3 hb).mono ?_
  rintro e w2 ⟨rfl, hb⟩
  have HB2 := Lib.hid (bthen' HB1.out (bthen' hb (below_alloc w2 (Obj.cells d8Z 30))))
  clear hb
  go_wp2_with (first | (refine wpl_store_new rfl _ _ rfl d8Z w2 30 d8Z rfl rfl rfl Try.info8D rfl d8Z_one ?_; go_frame))
  go_ret
  exact ⟨rfl, HB2.out⟩
set_option maxRecDepth 100000 in
set_option maxHeartbeats 8000000 in
theorem ppl_l (C : Drv) (n : Nat) (size opn : Int) (a : Option Addr) (len cap : Nat) (w : World) (h1 : 1 ≤ n ∧ n ≤ 40) (h2 : 1 ≤ opn ∧ opn ≤ 64) (h3 : 1 ≤ size ∧ size ≤ 64) (hl : 60 < len) : Calls Try.prog 3 #[.int .i64 (n : Nat), .int .i64 size, .int .i64 opn, .slice a len cap] w fun e w' => e = .returned (.bool true) ∧ Below w.heap.size w w' := by
  have dl : decide ((60 : Int) < (len : Int)) = true := decide_eq_true (by omega)
  have d0 : decide ((n : Int) < 1) = false := decide_eq_false (by omega)
  have d1 : decide (40 < (n : Int)) = false := decide_eq_false (by omega)
  have d2 : decide (size < 1) = false := decide_eq_false (by omega)
  have d3 : decide (64 < size) = false := decide_eq_false (by omega)
  have d4 : decide (opn < 1) = false := decide_eq_false (by omega)
  have d5 : decide (64 < opn) = false := decide_eq_false (by omega)
  go_enter Try.func3, Try.ntmps3
  go_wp2_with fail
  refine (anchor8_any C w).mono ?_
  rintro e w1 ⟨rfl, hb1⟩
  have HB1 := Lib.hid hb1
  clear hb1
  go_wp2_with fail
  refine (started_ok C (lo := w.heap.size) n size opn w1 h1 h2 h3 HB1.out.size).mono ?_
  rintro e w2 ⟨X, F, az, nz, cz, rfl, hA, hD, hb⟩
  go_upto_region 4 with (first | (refine wpl_store_new rfl _ _ rfl (d8A (d70 size opn) (.slice az nz cz) (.slice none 0 0) (.slice none 0 0)) w2 30 d8Z rfl rfl rfl Try.info8D rfl (d8A_one _ _ _ _ _ _ _ _ _ _) ?_; go_frame))
  have hb2 := below_alloc w2 (Obj.cells (d8A (d70 size opn) (.slice az nz cz) (.slice none 0 0) (.slice none 0 0)) 30)
  have HJ : Hid (LvJ C w X w2.heap.size (st80 n size opn) F (.slice az nz cz) (.slice none 0 0) (.slice none 0 0) (w2.alloc (Obj.cells (d8A (d70 size opn) (.slice az nz cz) (.slice none 0 0) (.slice none 0 0)) 30))) := Lib.hid ⟨C.below hA hb2, hD.below hb2, Blk.new w2 30 (d8A (d70 size opn) (.slice az nz cz) (.slice none 0 0) (.slice none 0 0)), (bthen' HB1.out (bthen' hb hb2)), Nat.le_trans HB1.out.size hb.size⟩
  clear hA hD hb hb2 HB1
  generalize w2.alloc (Obj.cells (d8A (d70 size opn) (.slice az nz cz) (.slice none 0 0) (.slice none 0 0)) 30) = W0 at *
  generalize w2.heap.size = Y at *
  go_wp2_with fail
  go_ret
  exact ⟨rfl, HJ.out.B⟩
def SameOk (C : Drv) : Prop := ∀ (lo X : Nat) (W : World) (S : St8) (F : Nat → Prop) (az ac ah : Option Addr) (nz cz cc ch : Nat), C.At lo W X S F → Dc lo W (.slice az nz cz) (.slice ac S.R.cs.length cc) (.slice ah S.R.h.length ch) S.R → Fine S → lo ≤ W.heap.size → Calls Try.prog 11 #[.pointer (some ⟨X, 0, none⟩), .agg (d8A (dd7 S.R.d) (.slice az nz cz) (.slice ac S.R.cs.length cc) (.slice ah S.R.h.length ch))] W fun e w' => e = .returned (.bool true) ∧ Below W.heap.size W w'
set_option maxRecDepth 100000 in
set_option maxHeartbeats 8000000 in
theorem ppl_t (C : Drv) (hsame : SameOk C) (n : Nat) (size opn : Int) (a : Option Addr) (len cap : Nat) (f : Nat → Op8) (w : World) (h1 : 1 ≤ n ∧ n ≤ 40) (h2 : 1 ≤ opn ∧ opn ≤ 64) (h3 : 1 ≤ size ∧ size ≤ 64) (hops : RowOp8 w a len cap f) (hl : len ≤ 60) : Calls Try.prog 3 #[.int .i64 (n : Nat), .int .i64 size, .int .i64 opn, .slice a len cap] w fun e w' => e = .returned (.bool true) ∧ Below w.heap.size w w' := by
  have dl : decide ((60 : Int) < (len : Int)) = false := decide_eq_false (by omega)
  have Hops := Lib.hid hops
  have Hsame := Lib.hid hsame
  obtain ⟨m1, m2⟩ : len ≤ cap ∧ cap ≤ 9223372036854775807 := by have h := hops.max; unfold maxLen at h; exact ⟨hops.le, h⟩
  clear hops hsame
  go_enter Try.func3, Try.ntmps3
  go_wp2_with fail
  refine (anchor8_any C w).mono ?_
  rintro e w1 ⟨rfl, hb1⟩
  have HB1 := Lib.hid hb1
  clear hb1
  go_wp2_with fail
  refine (started_ok C (lo := w.heap.size) n size opn w1 h1 h2 h3 HB1.out.size).mono ?_
  rintro e w2 ⟨X, F, az, nz, cz, rfl, hA, hD, hb⟩
  go_upto_region 4 with (first | (refine wpl_store_new rfl _ _ rfl (d8A (d70 size opn) (.slice az nz cz) (.slice none 0 0) (.slice none 0 0)) w2 30 d8Z rfl rfl rfl Try.info8D rfl (d8A_one _ _ _ _ _ _ _ _ _ _) ?_; go_frame))
  have hb2 := below_alloc w2 (Obj.cells (d8A (d70 size opn) (.slice az nz cz) (.slice none 0 0) (.slice none 0 0)) 30)
  have HJ : Hid (LvJ C w X w2.heap.size (st80 n size opn) F (.slice az nz cz) (.slice none 0 0) (.slice none 0 0) (w2.alloc (Obj.cells (d8A (d70 size opn) (.slice az nz cz) (.slice none 0 0) (.slice none 0 0)) 30))) := Lib.hid ⟨C.below hA hb2, hD.below hb2, Blk.new w2 30 (d8A (d70 size opn) (.slice az nz cz) (.slice none 0 0) (.slice none 0 0)), (bthen' HB1.out (bthen' hb hb2)), Nat.le_trans HB1.out.size hb.size⟩
  clear hA hD hb hb2 HB1
  generalize w2.alloc (Obj.cells (d8A (d70 size opn) (.slice az nz cz) (.slice none 0 0) (.slice none 0 0)) 30) = W0 at *
  generalize w2.heap.size = Y at *
  have HBd : Hid (Bd (st80 n size opn) n 0) := Lib.hid ⟨Int.le_refl _, Int.le_refl _, Nat.zero_le _, Nat.zero_le _, List.length_replicate⟩
  go_wp2_with fail
  go_loopw [60] (fun i wr => ∃ (j : Nat) (S : St8) (F : Nat → Prop) (az : Option Addr) (nz cz : Nat) (ac : Option Addr) (cc : Nat) (ah : Option Addr) (ch : Nat), j ≤ len ∧ i = .int .i64 (j : Nat) ∧ Bd S n j ∧ LvJ C w X Y S F (.slice az nz cz) (.slice ac S.R.cs.length cc) (.slice ah S.R.h.length ch) wr) (fun i _ => len - (intOf i).toNat)
  case atStart => exact ⟨0, st80 n size opn, F, az, nz, cz, none, 0, none, 0, Nat.zero_le _, rfl, HBd.out, HJ.out⟩
  case round =>
    obtain ⟨j, S, F, az, nz, cz, ac, cc, ah, ch, hj, rfl, hbd, hJ⟩ := hrel
    have HJr := Lib.hid hJ
    have HBd := Lib.hid hbd
    clear hbd hJ HJ
    by_cases hlt : j < len
    case neg =>
      have hje : j = len := by omega
      have HBf := Lib.hid HJr.out.B
      clear hje
      go_wp2_with fail
      go_ret
      exact ⟨rfl, HBf.out⟩
    obtain ⟨b, off, rfl, hat, hok⟩ := Hops.out.at_ HJr.out.B j hlt
    generalize f j = o at *
    have Ho := Lib.hid hok
    have Hat := Lib.hid hat
    have hOp0 : (zeroValue 39).run Try.prog wr = .ok (.agg (op8A op80)) wr := by kernel_rfl
    clear hat hok
    go_upto_region 9 with (first | (refine wpl_load_at (by rfl) 39 _ rfl b (off + j * 136) rfl (op8A o) _ Hat.out Try.underlying39 rfl (info_op8 Ho.out.len Ho.out.ev.len) ?_; go_frame) | (refine wpl_store_new rfl _ _ rfl (op8A o) wr 39 (op8A op80) rfl rfl rfl (info_op8 Ho.out.len Ho.out.ev.len) (by rw [op8A_size Ho.out.len Ho.out.ev.len, op8A_size (zeros_length 64) (zeros_length 64)]) (op8A_one o) ?_; go_frame))
    have hbO := below_alloc wr (Obj.cells (op8A o) 39)
    have HJ1 := Lib.hid (HJr.out.below hbO)
    have HO1 := Lib.hid (Blk.new wr 39 (op8A o))
    clear hbO HJr hOp0 Hat
    generalize wr.alloc (Obj.cells (op8A o) 39) = wr1 at *
    generalize wr.heap.size = Q at *
    go_wp2_with (first | (refine wpl_load rfl _ rfl Y rfl _ _ _ (HJ1.out.bY) Try.underlying30 rfl Try.info8D ?_; go_frame) | (refine wpl_load rfl _ rfl Q rfl _ _ _ (HO1.out) Try.underlying39 rfl (info_op8 Ho.out.len Ho.out.ev.len) ?_; go_frame))
    refine (st8_all o Ho.out HJ1.out.B (Nat.le_refl _) HJ1.out.at_ (HBd.out.fine (by omega)) HJ1.out.dc HJ1.out.B.size).mono ?_
    have hbd2 := HBd.out.next o HJ1.out.dc.cs.ok (C.sane HJ1.out.at_)
    obtain ⟨S2, hS2⟩ : ∃ S2, st8 S o = S2 := ⟨_, rfl⟩
    rw [hS2] at hbd2 ⊢
    have HBd2 := Lib.hid hbd2
    clear hbd2 hS2
    rintro e w3 ⟨az2, nz2, cz2, ac2, cc2, ah2, ch2, rfl, hD3, hT3⟩
    have HT3 := Lib.hid hT3
    have HD3 := Lib.hid hD3
    have HY3 : Hid (Blk w3 Y 30 (d8A (dd7 S.R.d) (.slice az nz cz) (.slice ac S.R.cs.length cc) (.slice ah S.R.h.length ch))) := Lib.hid (hT3.blk HJ1.out.at_ HJ1.out.bY (by decide))
    clear hT3 hD3
    go_upto_region 10 with (first | (refine wpl_store rfl _ _ rfl Y (d8A (dd7 S2.R.d) (.slice az2 nz2 cz2) (.slice ac2 S2.R.cs.length cc2) (.slice ah2 S2.R.h.length ch2)) rfl rfl _ _ HY3.out Try.info8D rfl (d8A_one _ _ _ _ _ _ _ _ _ _) ?_; intro w4 hY4 hK4; have HN4 := Lib.hid (HJ1.out.next HD3.out HT3.out hY4 hK4); clear hY4 hK4; go_frame))
    obtain ⟨F2, hJ4, -⟩ := HN4.out
    have HJ4 := Lib.hid hJ4
    clear hJ4 HN4 HT3 HD3 HY3 HJ1 HO1
    go_wp2_with (first | (refine wpl_load_g (by rfl) _ rfl Y rfl _ _ _ (HJ4.out.bY) Try.underlying30 rfl Try.info8D ?_; go_frame))
    refine (Hsame.out _ _ _ _ _ _ _ _ _ _ _ _ HJ4.out.at_ HJ4.out.dc (HBd2.out.fine (by omega)) HJ4.out.B.size).mono ?_
    rintro e w5 ⟨rfl, hb⟩
    have HJ5 := Lib.hid (HJ4.out.below hb)
    clear hb HJ4
    go_wp2_with fail
    go_roundw
    case rel => exact ⟨j + 1, S2, F2, az2, nz2, cz2, ac2, cc2, ah2, ch2, by omega, by go_num, HBd2.out, HJ5.out⟩
    case measure => simp [intOf]; omega
theorem walkPlanPlaysC (C : Drv) (hsame : SameOk C) (zones size opn : Int) (a : Option Addr) (len cap : Nat) (f : Nat → Op8) (w : World) (h0 : (Lit.int .i64 zones).wf = true) (h1 : (Lit.int .i64 size).wf = true) (h2 : (Lit.int .i64 opn).wf = true) (h3 : RowOp8 w a len cap f) : Calls Try.prog 3 #[.int .i64 zones, .int .i64 size, .int .i64 opn, .slice a len cap] w fun e w' => e = .returned (.bool true) ∧ Below w.heap.size w w' := by
  by_cases hr : ((1 ≤ zones ∧ zones ≤ 512) ∧ (1 ≤ size ∧ size ≤ 64) ∧ 1 ≤ opn ∧ opn ≤ 64)
  · obtain ⟨⟨r1, r2⟩, ⟨r3, r4⟩, r5, r6⟩ := hr
    obtain ⟨n, rfl⟩ := Int.eq_ofNat_of_zero_le (show 0 ≤ zones by omega)
    by_cases hz : 40 < n
    · exact ppl_b C n size opn a len cap w ⟨by omega, by omega⟩ ⟨r5, r6⟩ ⟨r3, r4⟩ hz
    · by_cases hl : 60 < len
      · exact ppl_l C n size opn a len cap w ⟨by omega, by omega⟩ ⟨r5, r6⟩ ⟨r3, r4⟩ hl
      · exact ppl_t C hsame n size opn a len cap f w ⟨by omega, by omega⟩ ⟨r5, r6⟩ ⟨r3, r4⟩ h3 (by omega)
  · by_cases e0 : zones < 1
    · exact ppl_0 C zones size opn a len cap w hr e0
    · by_cases e1 : 40 < zones
      · exact ppl_1 C zones size opn a len cap w hr e0 e1
      · by_cases e2 : size < 1
        · exact ppl_2 C zones size opn a len cap w hr e0 e1 e2
        · by_cases e3 : 64 < size
          · exact ppl_3 C zones size opn a len cap w hr e0 e1 e2 e3
          · by_cases e4 : opn < 1
            · exact ppl_4 C zones size opn a len cap w hr e0 e1 e2 e3 e4
            · by_cases e5 : 64 < opn
              · exact ppl_5 C zones size opn a len cap w hr e0 e1 e2 e3 e4 e5
              · exact absurd ⟨⟨by omega, by omega⟩, ⟨by omega, by omega⟩, by omega, by omega⟩ hr
end Go.Proofs.Ytajkajgnjcnolaa

