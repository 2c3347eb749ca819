import Derived.Test.YtlngdndamgopeaaMg23
import Derived.Lib.MinMax
import Derived.Test.YtlngdndamgopeaaMg07
/-
  Layer 7 (zdev): DeviceFlushes, walked.
-/
namespace Go.Proofs.Ytlngdndamgopeaa
open Go.RowKit
set_option linter.unusedVariables false
set_option linter.unnecessarySimpa false
set_option linter.unusedSimpArgs false


set_option maxRecDepth 100000 in
set_option maxHeartbeats 2000000 in
theorem dflu_z (zones size opn : Int) (a : Option Addr) (len cap : Nat) (a2 : Option Addr) (len2 cap2 : Nat) (ka : Option Addr) (kl kc : Nat) (w : World) (h : 40 < zones) : Calls Try.prog 6 #[.int .i64 zones, .int .i64 size, .int .i64 opn, .slice a len cap, .slice a2 len2 cap2, .slice ka kl kc] w fun e w' => e = .returned (.bool true) ∧ Below w.heap.size w w' := by
  go_enter Try.func6, Try.ntmps6
  go_wp2_with fail
  refine (anchor7_any w).mono ?_
  rintro e w1 ⟨rfl, hb1⟩
  have HB1 := Lib.hid hb1
  clear hb1
  go_wp2_with fail
  go_ret
  exact ⟨rfl, HB1.out⟩
set_option maxRecDepth 100000 in
set_option maxHeartbeats 2000000 in
theorem dflu_n (zones size opn : Int) (a : Option Addr) (len cap : Nat) (a2 : Option Addr) (len2 cap2 : Nat) (ka : Option Addr) (kl kc : Nat) (w : World) (h0 : zones ≤ 40) (h : ¬ ((1 ≤ zones ∧ zones ≤ 512) ∧ (1 ≤ size ∧ size ≤ 64) ∧ 1 ≤ opn ∧ opn ≤ 64)) : Calls Try.prog 6 #[.int .i64 zones, .int .i64 size, .int .i64 opn, .slice a len cap, .slice a2 len2 cap2, .slice ka kl kc] w fun e w' => e = .returned (.bool true) ∧ Below w.heap.size w w' := by
  have H := Lib.hid h
  clear h
  go_enter Try.func6, Try.ntmps6
  go_wp2_with fail
  refine (anchor7_any w).mono ?_
  rintro e w1 ⟨rfl, hb1⟩
  have HB1 := Lib.hid hb1
  clear hb1
  go_wp2_with fail
  refine (right_no zones size opn w1 H.out).mono ?_
  rintro e w2 ⟨rfl, rfl⟩
  go_wp2_with fail
  go_ret
  exact ⟨rfl, HB1.out⟩

set_option maxRecDepth 100000 in
set_option maxHeartbeats 2000000 in
theorem dflu_l (zones size opn : Int) (a : Option Addr) (len cap : Nat) (a2 : Option Addr) (len2 cap2 : Nat) (ka : Option Addr) (kl kc : Nat) (w : World) (h0 : zones ≤ 40) (h1 : 1 ≤ zones) (h2 : 1 ≤ size) (h3 : size ≤ 64) (h4 : 1 ≤ opn) (h5 : opn ≤ 64) (hl : 60 < len) : Calls Try.prog 6 #[.int .i64 zones, .int .i64 size, .int .i64 opn, .slice a len cap, .slice a2 len2 cap2, .slice ka kl kc] w fun e w' => e = .returned (.bool true) ∧ Below w.heap.size w w' := by
  have dl : decide ((60 : Int) < (len : Int)) = true := decide_eq_true (by omega)
  go_enter Try.func6, Try.ntmps6
  go_wp2_with fail
  refine (anchor7_any w).mono ?_
  rintro e w1 ⟨rfl, hb1⟩
  have HB1 := Lib.hid hb1
  clear hb1
  go_wp2_with fail
  refine (right_yes zones size opn w1 h1 (by omega) h2 h3 h4 h5).mono ?_
  rintro e w2 ⟨rfl, rfl⟩
  go_wp2_with fail
  go_ret
  exact ⟨rfl, HB1.out⟩
set_option maxRecDepth 100000 in
set_option maxHeartbeats 2000000 in
theorem dflu_m (zones size opn : Int) (a : Option Addr) (len cap : Nat) (a2 : Option Addr) (len2 cap2 : Nat) (ka : Option Addr) (kl kc : Nat) (w : World) (h0 : zones ≤ 40) (h1 : 1 ≤ zones) (h2 : 1 ≤ size) (h3 : size ≤ 64) (h4 : 1 ≤ opn) (h5 : opn ≤ 64) (hl : len ≤ 60) (hm : 60 < len2) : Calls Try.prog 6 #[.int .i64 zones, .int .i64 size, .int .i64 opn, .slice a len cap, .slice a2 len2 cap2, .slice ka kl kc] w fun e w' => e = .returned (.bool true) ∧ Below w.heap.size w w' := by
  have dl : decide ((60 : Int) < (len : Int)) = false := decide_eq_false (by omega)
  have dm : decide ((60 : Int) < (len2 : Int)) = true := decide_eq_true (by omega)
  go_enter Try.func6, Try.ntmps6
  go_wp2_with fail
  refine (anchor7_any w).mono ?_
  rintro e w1 ⟨rfl, hb1⟩
  have HB1 := Lib.hid hb1
  clear hb1
  go_wp2_with fail
  refine (right_yes zones size opn w1 h1 (by omega) h2 h3 h4 h5).mono ?_
  rintro e w2 ⟨rfl, rfl⟩
  go_wp2_with fail
  go_ret
  exact ⟨rfl, HB1.out⟩
/-- Ints, the first q of which are the zones' lengths. -/
structure LensI (zs : List ZsR) (xs : List Int) (q : Nat) : Prop where
  len : xs.length = zs.length
  done : ∀ i, i < q → xs[i]? = (zs[i]?).map (fun z => (z.ss.length : Int))
theorem LensI.start (zs : List ZsR) : LensI zs (List.replicate zs.length 0) 0 := ⟨List.length_replicate, fun i h => absurd h (by omega)⟩
theorem LensI.next {zs : List ZsR} {xs : List Int} {q : Nat} {z : ZsR} (h : LensI zs xs q) (hz : zs[q]? = some z) : LensI zs (xs.set q (z.ss.length : Int)) (q + 1) := by
  have hq := (List.getElem?_eq_some_iff.1 hz).1
  refine ⟨by rw [List.length_set, h.len], fun i hi => ?_⟩
  by_cases e : i = q
  · subst e
    rw [List.getElem?_set_self (by rw [h.len]; exact hq), hz]; rfl
  · rw [List.getElem?_set_ne (fun e' => e e'.symm)]; exact h.done i (by omega)
theorem LensI.at_ {zs : List ZsR} {xs : List Int} {q : Nat} {z : ZsR} (h : LensI zs xs zs.length) (hz : zs[q]? = some z) : xs[q]? = some (z.ss.length : Int) := by
  rw [h.done q (List.getElem?_eq_some_iff.1 hz).1, hz]; rfl
def ivA (xs : List Int) : Array Value := (zvals xs).toArray
theorem ivA_zero (n : Nat) : zerosV n (.int .i64 0) = ivA (List.replicate n 0) := by simp [zerosV, ivA, zvals]
theorem ivA_set (xs : List Int) (q : Nat) (v : Int) : (ivA xs).setIfInBounds q (.int .i64 v) = ivA (xs.set q v) := by unfold ivA; rw [List.setIfInBounds_toArray, zvals_set]
theorem ivA_at {xs : List Int} {q : Nat} {v : Int} (h : xs[q]? = some v) : (ivA xs)[q]? = some (.int .i64 v) := by unfold ivA; rw [List.getElem?_toArray]; simp [zvals, h]
theorem lnD_at {l : List ZcR} {q : Nat} {c : ZcR} (hc : l[q]? = some c) : lnD (l.map ZcR.z) (q : Int) = (c.z.ss.length : Int) := by
  have hq : q < l.length := (List.getElem?_eq_some_iff.1 hc).1
  unfold lnD
  rw [if_pos (by unfold dhB; simp; omega), zsat_of (zof hc)]
/-- What was safe stays so, while sectors are appended. -/
structure SafeI (zs0 zs : List ZsR) : Prop where
  len : zs.length = zs0.length
  each : ∀ (i : Nat) z0, zs0[i]? = some z0 → ∃ z, zs[i]? = some z ∧ z.safe = (z0.ss.length : Int)
theorem SafeI.start (zs : List ZsR) : SafeI (zs.mapIdx (fun _ => flS)) (zs.mapIdx (fun _ => flS)) := by
  rw [mapIdx_const]
  refine ⟨rfl, fun i z0 h => ⟨z0, h, ?_⟩⟩
  rw [List.getElem?_map] at h
  cases hz : zs[i]? with
  | none => rw [hz] at h; cases h
  | some z => rw [hz] at h; injection h with h; subst h; rfl
theorem apSS_safe (z : ZsR) (s : List Nat) : (apSS z s).safe = z.safe := by unfold apSS; split <;> rfl
theorem SafeI.next {zs0 zs : List ZsR} (h : SafeI zs0 zs) (d : DvR) (i : Int) (s : List Nat) : SafeI zs0 (apSp d zs i s).zs := by
  unfold apSp
  by_cases h1 : cmdE d zs.length i = 0
  · rw [if_neg (fun e => e h1)]
    obtain ⟨k, rfl, hk, _⟩ := cmd_in h1
    obtain ⟨z, hz⟩ : ∃ z, zs[k]? = some z := ⟨_, List.getElem?_eq_getElem hk⟩
    rw [zsat_of hz, Int.toNat_natCast]
    split
    · exact h
    · refine ⟨by show (zs.set _ _).length = _; rw [List.length_set, h.len], fun j z0 hj => ?_⟩
      obtain ⟨y, hy, hs⟩ := h.each j z0 hj
      show ∃ z', (zs.set k (apSS z s))[j]? = some z' ∧ _
      by_cases e : k = j
      · subst e
        rw [hz] at hy
        injection hy with hy
        subst hy
        exact ⟨_, List.getElem?_set_self hk, (apSS_safe _ _).trans hs⟩
      · exact ⟨y, by rw [List.getElem?_set_ne e]; exact hy, hs⟩
  · rw [if_pos h1]; exact h
theorem apSp_keeps (d : DvR) (zs : List ZsR) (i : Int) (s : List Nat) : (apSp d zs i s).zs.length = zs.length ∧ d.count ≤ (apSp d zs i s).d.count ∧ (apSp d zs i s).d.count ≤ d.count + 1 := by
  have h := stSp_keeps (d := d) (zs := zs) (o := ⟨1, i, 0, s, none, 0, 0, []⟩)
  unfold stSp at h
  rw [if_pos rfl] at h
  exact ⟨h.1, h.2.2.2.1, h.2.2.2.2⟩
/-- A device that lies as it should, while a law goes on. -/
structure DvI (w : World) (D : Nat) (vz : Value) (d : DvR) (l : List ZcR) (W : World) : Prop where
  dv : DvAt w.heap.size W D vz d l
  B : Below w.heap.size w W
theorem DvI.below {w W W' : World} {D : Nat} {vz : Value} {d : DvR} {l : List ZcR} (h : DvI w D vz d l W) (hb : Below W.heap.size W W') : DvI w D vz d l W' := ⟨h.dv.below hb, h.B.trans (hb.mono h.B.size)⟩
theorem DvI.to {w W W' : World} {D : Nat} {vz : Value} {d d' : DvR} {l : List ZcR} {zs' : List ZsR} (h : DvI w D vz d l W) (hT : DvTo w.heap.size W D vz l d' zs' W') : ∃ l', DvI w D vz d' l' W' ∧ l'.map ZcR.z = zs' := by
  have hB := hT.bel h.dv h.B (Nat.le_refl _)
  obtain ⟨l', k1, k2, _, _⟩ := hT
  exact ⟨l', ⟨k1, hB⟩, k2⟩
theorem DvI.keptB {w W W' : World} {D : Nat} {vz : Value} {d : DvR} {l : List ZcR} {g : Nat} {U : TypeId} {cs : Array Value} (h : DvI w D vz d l W) (hg : Blk W g U cs) (hl : w.heap.size ≤ g) (h1 : U ≠ 61) (h2 : U ≠ 62) (h3 : U ≠ 88) (h4 : U ≠ 34) (hk : Kept (· = g) W W') : DvI w D vz d l W' :=
  ⟨h.dv.kept hk (fun i hi e => h.dv.notblk hg h1 h2 h3 h4 (e ▸ hi)), bkept h.B (Nat.le_refl _) hk (fun i hi e => by omega)⟩

set_option maxRecDepth 100000 in
set_option maxHeartbeats 8000000 in
theorem dflu_t (n : Nat) (size opn : Int) (a : Option Addr) (len cap : Nat) (f : Nat → Op7) (a2 : Option Addr) (len2 cap2 : Nat) (f2 : Nat → Op7) (ka : Option Addr) (kl kc : Nat) (ks : List Int) (w : World) (h0 : n ≤ 40) (h1 : 1 ≤ n) (h2 : 1 ≤ size) (h3 : size ≤ 64) (h4 : 1 ≤ opn) (h5 : opn ≤ 64) (hops : RowOp7 w a len cap f) (hmore : RowOp7 w a2 len2 cap2 f2) (hks : RowZ w ka kl kc ks) (hl : len ≤ 60) (hl2 : len2 ≤ 60) : Calls Try.prog 6 #[.int .i64 (n : Nat), .int .i64 size, .int .i64 opn, .slice a len cap, .slice a2 len2 cap2, .slice ka kl kc] w fun e w' => e = .returned (.bool true) ∧ Below w.heap.size w w' := by
  have dl : decide ((60 : Int) < (len : Int)) = false := decide_eq_false (by omega)
  have dm : decide ((60 : Int) < (len2 : Int)) = false := decide_eq_false (by omega)
  have Hops := Lib.hid hops
  have Hmore := Lib.hid hmore
  have Hks := Lib.hid hks
  obtain ⟨m1, m2⟩ : len ≤ cap ∧ cap ≤ 9223372036854775807 := by have h := hops.max; unfold maxLen at h; exact ⟨hops.le, h⟩
  obtain ⟨m3, m4⟩ : len2 ≤ cap2 ∧ cap2 ≤ 9223372036854775807 := by have h := hmore.max; unfold maxLen at h; exact ⟨hmore.le, h⟩
  obtain ⟨m5, m6⟩ : kl ≤ kc ∧ kc ≤ 9223372036854775807 := by have h := hks.max; unfold maxLen at h; exact ⟨hks.le, h⟩
  clear hops hmore hks
  go_enter Try.func6, Try.ntmps6
  go_wp2_with fail
  refine (anchor7_any w).mono ?_
  rintro e w1 ⟨rfl, hb1⟩
  have HB1 := Lib.hid hb1
  clear hb1
  go_wp2_with fail
  refine (right_yes (n : Int) size opn w1 (by omega) (by omega) h2 h3 h4 h5).mono ?_
  rintro e w2 ⟨rfl, rfl⟩
  go_wp2_with fail
  refine (dnew_ok (lo := w.heap.size) n size opn w1 ⟨by omega, by omega⟩ ⟨h4, h5⟩ ⟨h2, h3⟩ HB1.out.size).mono ?_
  rintro e w2 ⟨rfl, ⟨vz, l0, hA, hm⟩, hb⟩
  have HA := Lib.hid hA
  have Hm := Lib.hid hm
  have HB2 := Lib.hid (HB1.out.trans (hb.mono HB1.out.size))
  clear hA hm hb dl dm
  generalize w1.heap.size = D at *
  go_wp2_with fail
  refine (nw7 (lo := w.heap.size) n size opn (by omega) HB2.out.size).mono ?_
  rintro e w3 ⟨v7, rfl, hr, hb⟩
  have HA3 := Lib.hid (HA.out.below hb)
  have HB3 := Lib.hid (HB2.out.trans (hb.mono HB2.out.size))
  have HD3 := Lib.hid (doc_start (n := n) ⟨h2, h3⟩ hr)
  obtain ⟨a7, c7, hv7⟩ := own_slice hr.own
  subst hv7
  clear hr hb HA HB2
  go_upto_region 9 with (first | (refine wpl_store_new rfl _ _ rfl (d7A (d70 size opn) (.slice a7 (l70 n).length c7)) w3 31 d7Z rfl rfl rfl Try.info7D rfl (d7A_one _ _ _ _) ?_; go_frame))
  have hb3 := below_alloc w3 (Obj.cells (d7A (d70 size opn) (.slice a7 (l70 n).length c7)) 31)
  have HI0 : Hid (LvI w D w3.heap.size vz (.slice a7 (l70 n).length c7) (dv0 size opn) l0 (w3.alloc (Obj.cells (d7A (d70 size opn) (.slice a7 (l70 n).length c7)) 31))) := Lib.hid ⟨HA3.out.below hb3, by rw [Hm.out]; exact HD3.out.below hb3, Blk.new _ _ _, HB3.out.trans (hb3.mono HB3.out.size), HB3.out.size⟩
  have Hl0 : Hid (l0.length = n) := Lib.hid (by have h := congrArg List.length Hm.out; rwa [List.length_map, List.length_replicate] at h)
  clear HA3 HB3 HD3 hb3 HB1 Hm
  generalize w3.alloc (Obj.cells (d7A (d70 size opn) (.slice a7 (l70 n).length c7)) 31) = W0 at *
  generalize w3.heap.size = X at *
  go_wp2_with fail
  go_loopw [66] (fun i wr => ∃ (j : Nat) (d : DvR) (l : List ZcR) (v7 : Value), j ≤ len ∧ i = .int .i64 (j : Nat) ∧ LvI w D X vz v7 d l wr ∧ l.length = n ∧ 0 ≤ d.count ∧ d.count ≤ (j : Int)) (fun i _ => len - (intOf i).toNat)
  case atStart => exact ⟨0, _, _, _, Nat.zero_le _, rfl, HI0.out, Hl0.out, Int.le_refl _, Int.le_refl _⟩
  case round =>
    obtain ⟨j, d, l, v7, hj, rfl, hI, hln, hc1, hc2⟩ := hrel
    have HIr := Lib.hid hI
    have Hln := Lib.hid hln
    have Hcnt : Hid (0 ≤ d.count ∧ d.count ≤ 1000000) := Lib.hid ⟨hc1, by omega⟩
    have Hcj := Lib.hid hc2
    clear hI hln hc1 hc2 HI0 Hl0
    by_cases hlt : j < len
    · obtain ⟨b, off, rfl, hat, hok⟩ := Hops.out.at_ (HIr.out.B) j hlt
      generalize f j = o at *
      have Ho := Lib.hid hok
      have Hat := Lib.hid hat
      have hOp0 : (zeroValue 37).run Try.prog wr = .ok (.agg (opA op0)) wr := by kernel_rfl
      clear hat hok
      go_upto_region 12 with (first | (refine wpl_load_op (by rfl) _ _ rfl b (off + j * 68) rfl o _ Hat.out Try.underlying37 rfl (Try.infoOpL Ho.out.len) ?_; go_frame) | (refine wpl_store_new rfl _ _ rfl (opA o) wr 37 (opA op0) rfl rfl rfl ((Try.infoOp7).trans (by rw [opA_size Ho.out.len])) (by rw [opA_size Ho.out.len, opA_size (zeros_length 64)]) (opA_one o) ?_; go_frame))
      have hbO := below_alloc wr (Obj.cells (opA o) 37)
      have HI1 := Lib.hid (HIr.out.below hbO)
      have HO1 := Lib.hid (Blk.new wr 37 (opA o))
      have HXY := Lib.hid (show X ≠ wr.heap.size by have := HIr.out.bX.lt; omega)
      clear hbO HIr hOp0
      generalize wr.alloc (Obj.cells (opA o) 37) = wr1 at *
      generalize wr.heap.size = Y at *
      obtain ⟨av, nv, cv, rfl⟩ := HI1.out.slice
      go_wp2_with (first | (refine wpl_load rfl _ rfl (X) rfl _ _ _ (HI1.out.bX) Try.underlying31 rfl Try.info7D ?_; go_frame) | (refine wpl_load rfl _ rfl Y rfl _ _ _ (HO1.out) Try.underlying37 rfl ((Try.infoOp7).trans (by rw [opA_size Ho.out.len])) ?_; go_frame))
      refine (st7 o Ho.out (HI1.out.B) (Nat.le_refl _) HI1.out.dv HI1.out.doc Hcnt.out (by have := Hln.out; omega)).mono ?_
      rintro e w6 ⟨v8, rfl, hd8, hT⟩
      obtain ⟨a8, n8, c8, rfl⟩ : ∃ a n c, v8 = .slice a n c := by
        obtain ⟨l8, r8, _⟩ := hd8
        obtain ⟨a, c, e⟩ := own_slice r8.own
        exact ⟨a, _, c, e⟩
      have HX6 := Lib.hid (hT.blk HI1.out.dv HI1.out.bX (by decide) (by decide) (by decide) (by decide))
      have HN6 := Lib.hid (fun W3 (hX : Blk W3 X 31 (d7A (dd7 (stSp d (l.map ZcR.z) o).d) (.slice a8 n8 c8))) (hk : Kept (· = X) w6 W3) => And.intro (HI1.out.next hd8 hT hX hk) (HI1.out.other hT hk HO1.out (by decide) (by decide) (by decide) (by decide) (Ne.symm HXY.out)))
      clear hd8 hT
      go_upto_region 13 with (first | (refine wpl_store rfl _ _ rfl X (d7A (dd7 (stSp d (l.map ZcR.z) o).d) (.slice a8 n8 c8)) rfl rfl _ _ HX6.out Try.info7D rfl (d7A_one _ _ _ _) ?_; intro w7 hX7 hK7; have HN7 := Lib.hid (HN6.out w7 hX7 hK7); clear hX7 hK7; go_frame))
      obtain ⟨⟨l2, hI7, hm7⟩, hO7⟩ := HN7.out
      obtain ⟨kp1, kp2, kp3, kp4, kp5⟩ := stSp_keeps (d := d) (zs := l.map ZcR.z) (o := o)
      have HI8 := Lib.hid hI7
      have Hln2 : Hid (l2.length = n) := Lib.hid (by have h := congrArg List.length hm7; rw [List.length_map, kp1, List.length_map] at h; exact h.trans Hln.out)
      have Hc1 : Hid (0 ≤ (stSp d (l.map ZcR.z) o).d.count) := Lib.hid (Int.le_trans Hcnt.out.1 kp4)
      have Hc2 : Hid ((stSp d (l.map ZcR.z) o).d.count ≤ (j : Int) + 1) := Lib.hid (by have := Hcj.out; omega)
      clear hI7 hm7 hO7 kp1 kp2 kp3 kp4 kp5 HN7 HN6 HX6 HI1 HO1 Hln Hcnt Hcj
      generalize (stSp d (l.map ZcR.z) o).d = d2 at *
      clear HXY
      go_wp2_with fail
      go_roundw
      case rel => exact ⟨j + 1, d2, l2, _, by omega, by go_num, HI8.out, Hln2.out, Hc1.out, by have := Hc2.out; omega⟩
      case measure => simp [intOf]; omega
    · have hjl : j = len := by omega
      have HD0 : Hid (DvI w D vz d l wr) := Lib.hid ⟨HIr.out.dv, HIr.out.B⟩
      clear hjl HIr
      go_wp2_with fail
      refine (cfl7 HD0.out.dv Hcnt.out (by have := Hln.out; omega)).mono ?_
      cases hdn : d.down with
      | true =>
        have hR : flSp d (l.map ZcR.z) = ⟨0, 34, d, l.map ZcR.z⟩ := by unfold flSp; rw [if_pos hdn]
        rw [hR]
        rintro e w4 ⟨rfl, hT⟩
        obtain ⟨l2, hI2, _⟩ := HD0.out.to hT
        have HI2 := Lib.hid hI2
        have Hdn := Lib.hid hdn
        clear hT hI2 hR hdn
        go_wp2_with fail
        refine (ddown HI2.out.dv).mono ?_
        rw [Hdn.out]
        rintro e w5 ⟨rfl, rfl⟩
        go_wp2_with fail
        go_ret
        exact ⟨rfl, HI2.out.B⟩
      | false =>
        have hR : flSp d (l.map ZcR.z) = ⟨0, 0, up1 d, (l.map ZcR.z).mapIdx (fun _ => flS)⟩ := by unfold flSp; rw [if_neg (by rw [hdn]; decide)]
        rw [hR]
        rintro e w4 ⟨rfl, hT⟩
        obtain ⟨l2, hI2, hm2⟩ := HD0.out.to hT
        have HI2 := Lib.hid hI2
        have HS2 : Hid (SafeI (l2.map ZcR.z) (l2.map ZcR.z)) := Lib.hid (by rw [hm2]; exact SafeI.start _)
        have Hln2 : Hid (l2.length = n) := Lib.hid (by have h := congrArg List.length hm2; rw [List.length_map, List.length_mapIdx, List.length_map] at h; exact h.trans Hln.out)
        have Hdn2 : Hid ((up1 d).down = false) := Lib.hid hdn
        have Hc2 : Hid (0 ≤ (up1 d).count ∧ (up1 d).count ≤ 1000) := Lib.hid ⟨by show 0 ≤ d.count + 1; have := Hcnt.out.1; omega, by show d.count + 1 ≤ 1000; have := Hcj.out; omega⟩
        clear hT hI2 hR hdn hm2 HD0 Hln Hcnt Hcj
        generalize up1 d = d at *
        have Hln := Hln2
        have hmk := run_makeV elI rfl w4 n (by omega)
        rw [ivA_zero] at hmk
        go_upto_region 17 with fail
        clear hmk
        have Hgw := Lib.hid (Blk.new w4 3 (ivA (List.replicate n 0)))
        have HI3 := Lib.hid (HI2.out.below (below_alloc w4 (Obj.cells (ivA (List.replicate n 0)) 3)))
        have Hggw := Lib.hid HI2.out.B.size
        clear HI2
        generalize w4.alloc (Obj.cells (ivA (List.replicate n 0)) 3) = W1 at *
        generalize w4.heap.size = gw at *
        go_wp2_with fail
        obtain ⟨l, hren⟩ : ∃ t, t = l2 := ⟨_, rfl⟩
        subst hren
        go_loopw [86] (fun ci wr => ∃ (q : Nat) (xs : List Int), q ≤ n ∧ ci = .int .i64 (q : Nat) ∧ DvI w D vz d l wr ∧ Blk wr gw 3 (ivA xs) ∧ LensI (l.map ZcR.z) xs q) (fun ci _ => n - (intOf ci).toNat)
        case atStart => exact ⟨0, _, Nat.zero_le _, rfl, HI3.out, Hgw.out, by have h := LensI.start (l.map ZcR.z); rw [List.length_map, Hln.out] at h; exact h⟩
        case round =>
          obtain ⟨q, xs, hq, rfl, hIq, hBq, hLq⟩ := hrel
          have HIq := Lib.hid hIq
          have HBq := Lib.hid hBq
          have HLq := Lib.hid hLq
          clear hIq hBq hLq HI3 Hgw
          by_cases hlt : q < n
          · obtain ⟨c, hc⟩ : ∃ c, l[q]? = some c := ⟨_, List.getElem?_eq_getElem (by have := Hln.out; omega)⟩
            have Hld := Lib.hid (lnD_at hc)
            have Hzc := Lib.hid (zof hc)
            obtain ⟨xv, hxv⟩ : ∃ xv, xs[q]? = some xv := ⟨_, List.getElem?_eq_getElem (by rw [HLq.out.len, List.length_map]; have := Hln.out; omega)⟩
            have cg : wr.cell? ⟨gw, q, none⟩ = some (.int .i64 xv) := (HBq.out.cell q).trans (ivA_at hxv)
            have fg := HBq.out.frozen q
            clear hc hxv
            go_wp2_with fail
            refine (cln7 (q : Int) HIq.out.dv).mono ?_
            rw [Hld.out]
            rintro e w5 ⟨rfl, rfl⟩
            go_upto_region 21 with fail
            have HB5 : Hid (Blk (wr.setCell ⟨gw, q, none⟩ (.int .i64 (c.z.ss.length : Nat))) gw 3 (ivA (xs.set q (c.z.ss.length : Int)))) := Lib.hid (by have h := HBq.out.set q (.int .i64 (c.z.ss.length : Nat)); rwa [ivA_set] at h)
            have hkq := (Kept.refl (· = gw) wr).setCell (p := ⟨gw, q, none⟩) rfl (.int .i64 (c.z.ss.length : Nat))
            have HI5 := Lib.hid (HIq.out.keptB HBq.out Hggw.out (by decide) (by decide) (by decide) (by decide) hkq)
            have HL5 := Lib.hid (HLq.out.next Hzc.out)
            clear cg fg hkq HIq HBq HLq
            generalize wr.setCell ⟨gw, q, none⟩ (.int .i64 (c.z.ss.length : Nat)) = w6 at *
            go_wp2_with fail
            go_roundw
            case rel => exact ⟨q + 1, _, by omega, by go_num, HI5.out, HB5.out, HL5.out⟩
            case measure => simp [intOf]; omega
          · have hqn : q = n := by omega
            have HLn : Hid (LensI (l.map ZcR.z) xs (l.map ZcR.z).length) := Lib.hid (by have h := HLq.out; rwa [hqn, ← Hln.out, ← List.length_map (f := ZcR.z)] at h)
            clear hqn HLq
            have Hlw := HLn
            have Hxw := HBq
            clear HLn HBq
            have hmk := run_makeV elI rfl wr n (by omega)
            rw [ivA_zero] at hmk
            go_upto_region 23 with fail
            clear hmk
            have Hgn := Lib.hid (Blk.new wr 3 (ivA (List.replicate n 0)))
            have hbn := below_alloc wr (Obj.cells (ivA (List.replicate n 0)) 3)
            have HI3 := Lib.hid (HIq.out.below hbn)
            have HXw := Lib.hid (Hxw.out.below hbn Hxw.out.lt)
            have Hggn := Lib.hid HIq.out.B.size
            have Hne : Hid (gw ≠ wr.heap.size) := Lib.hid (by have := Hxw.out.lt; omega)
            clear hbn HIq Hxw
            generalize wr.alloc (Obj.cells (ivA (List.replicate n 0)) 3) = W2 at *
            generalize wr.heap.size = gn at *
            go_wp2_with fail
            go_loopw [100] (fun ci wr => ∃ (j : Nat) (d3 : DvR) (l3 : List ZcR), j ≤ len2 ∧ ci = .int .i64 (j : Nat) ∧ DvI w D vz d3 l3 wr ∧ l3.length = n ∧ SafeI (l.map ZcR.z) (l3.map ZcR.z) ∧ 0 ≤ d3.count ∧ d3.count ≤ 1000 + (j : Int) ∧ Blk wr gw 3 (ivA xs) ∧ Blk wr gn 3 (ivA (List.replicate n 0))) (fun ci _ => len2 - (intOf ci).toNat)
            case atStart => exact ⟨0, d, l, Nat.zero_le _, rfl, HI3.out, Hln.out, HS2.out, Hc2.out.1, by have := Hc2.out.2; omega, HXw.out, Hgn.out⟩
            case round =>
              obtain ⟨j3, d3, l3, hj3, rfl, hI3, hln3, hS3, hc3, hc4, hw3, hn3⟩ := hrel
              have HIr := Lib.hid hI3
              have Hln3 := Lib.hid hln3
              have HS3 := Lib.hid hS3
              have Hc3 : Hid (0 ≤ d3.count ∧ d3.count ≤ 1000000) := Lib.hid ⟨hc3, by omega⟩
              have Hc4 := Lib.hid hc4
              have HW3 := Lib.hid hw3
              have HN3 := Lib.hid hn3
              clear hI3 hln3 hS3 hc3 hc4 hw3 hn3 HI3 HXw Hgn HS2 Hc2
              by_cases hlt3 : j3 < len2
              · obtain ⟨b, off, rfl, hat, hok⟩ := Hmore.out.at_ (HIr.out.B) j3 hlt3
                generalize f2 j3 = o at *
                have Ho := Lib.hid hok
                have Hat := Lib.hid hat
                have hOp0 : (zeroValue 37).run Try.prog wr = .ok (.agg (opA op0)) wr := by kernel_rfl
                clear hat hok
                go_upto_region 26 with (first | (refine wpl_load_op (by rfl) _ _ rfl b (off + j3 * 68) rfl o _ Hat.out Try.underlying37 rfl (Try.infoOpL Ho.out.len) ?_; go_frame) | (refine wpl_store_new rfl _ _ rfl (opA o) wr 37 (opA op0) rfl rfl rfl ((Try.infoOp7).trans (by rw [opA_size Ho.out.len])) (by rw [opA_size Ho.out.len, opA_size (zeros_length 64)]) (opA_one o) ?_; go_frame))
                have hbO := below_alloc wr (Obj.cells (opA o) 37)
                have HI1 := Lib.hid (HIr.out.below hbO)
                have HO1 := Lib.hid (Blk.new wr 37 (opA o))
                have HW4 := Lib.hid (HW3.out.below hbO HW3.out.lt)
                have HN4 := Lib.hid (HN3.out.below hbO HN3.out.lt)
                clear hbO HIr hOp0
                generalize wr.alloc (Obj.cells (opA o) 37) = wr1 at *
                generalize wr.heap.size = Y at *
                have ck := (HO1.out.cell 0).trans (opA_0 o)
                have c1 := (HO1.out.cell 1).trans (opA_1 o)
                by_cases hk1 : o.k = 1
                · have e1 : (o.k == 1) = true := by simpa using hk1
                  have e1' : (o.k = 1) := hk1
                  clear hk1 e1'
                  go_wp2_with (first | (refine wpl_load_mid (by rfl) 34 _ rfl Y 3 rfl o.s _ (op_range HO1.out) Try.underlying34 rfl (by rw [bvals_length]; exact (info_sec Ho.out.len).trans (by rw [bA_size])) ?_; go_frame))
                  refine (cap7 o.z o.s Ho.out.len Ho.out.lt HI1.out.dv Hc3.out (by have := Hln3.out; omega)).mono ?_
                  rintro e w7 ⟨rfl, hT⟩
                  have HW5 := Lib.hid (hT.blk HI1.out.dv HW4.out (by decide) (by decide) (by decide) (by decide))
                  have HN5 := Lib.hid (hT.blk HI1.out.dv HN4.out (by decide) (by decide) (by decide) (by decide))
                  obtain ⟨l4, hI4, hm4⟩ := HI1.out.to hT
                  obtain ⟨kp1, kp2, kp3⟩ := apSp_keeps d3 (l3.map ZcR.z) o.z o.s
                  have HI4 := Lib.hid hI4
                  have HS4 : Hid (SafeI (l.map ZcR.z) (l4.map ZcR.z)) := Lib.hid (by rw [hm4]; exact HS3.out.next _ _ _)
                  have Hln4 : Hid (l4.length = n) := Lib.hid (by have h := congrArg List.length hm4; rw [List.length_map, kp1, List.length_map] at h; exact h.trans Hln3.out)
                  have Hc5 : Hid (0 ≤ (apSp d3 (l3.map ZcR.z) o.z o.s).d.count) := Lib.hid (Int.le_trans Hc3.out.1 kp2)
                  have Hc6 : Hid ((apSp d3 (l3.map ZcR.z) o.z o.s).d.count ≤ 1000 + (j3 : Int) + 1) := Lib.hid (by have := Hc4.out; omega)
                  clear hT hI4 hm4 kp1 kp2 kp3 ck c1 HI1 HO1 HW4 HN4
                  generalize (apSp d3 (l3.map ZcR.z) o.z o.s).d = d4 at *
                  go_wp2_with fail
                  go_roundw
                  case rel => exact ⟨j3 + 1, d4, l4, by omega, by go_num, HI4.out, Hln4.out, HS4.out, Hc5.out, by have := Hc6.out; omega, HW5.out, HN5.out⟩
                  case measure => simp [intOf]; omega
                · have e1 : (o.k == 1) = false := by simpa using hk1
                  clear hk1
                  go_wp2_with fail
                  go_roundw
                  case rel => exact ⟨j3 + 1, d3, l3, by omega, by go_num, HI1.out, Hln3.out, HS3.out, Hc3.out.1, by have := Hc4.out; omega, HW4.out, HN4.out⟩
                  case measure => simp [intOf]; omega
              · have hj3l : j3 = len2 := by omega
                clear hj3l
                have Hgn := HN3
                have Hlwz := Hlw
                have HSz := HS3
                clear HN3 Hlw HS3
                obtain ⟨lz, hren⟩ : ∃ t, t = l := ⟨_, rfl⟩
                subst hren
                obtain ⟨dz, hren⟩ : ∃ t, t = d := ⟨_, rfl⟩
                subst hren
                have Hlnz := Hln
                clear Hln
                obtain ⟨l, hren⟩ : ∃ t, t = l3 := ⟨_, rfl⟩
                subst hren
                obtain ⟨d, hren⟩ : ∃ t, t = d3 := ⟨_, rfl⟩
                subst hren
                have Hln := Hln3
                have HXw := HW3
                clear HW3 Hln3
                obtain ⟨xw, hren⟩ : ∃ t, t = xs := ⟨_, rfl⟩
                subst hren
                go_wp2_with fail
                go_loopw [115] (fun ci wr => ∃ (q : Nat) (xs : List Int), q ≤ n ∧ ci = .int .i64 (q : Nat) ∧ DvI w D vz d l wr ∧ Blk wr gn 3 (ivA xs) ∧ LensI (l.map ZcR.z) xs q ∧ Blk wr gw 3 (ivA xw)) (fun ci _ => n - (intOf ci).toNat)
                case atStart => exact ⟨0, _, Nat.zero_le _, rfl, HIr.out, Hgn.out, by have h := LensI.start (l.map ZcR.z); rw [List.length_map, Hln.out] at h; exact h, HXw.out⟩
                case round =>
                  obtain ⟨q, xs, hq, rfl, hIq, hBq, hLq, hHXw⟩ := hrel
                  have HIq := Lib.hid hIq
                  have HBq := Lib.hid hBq
                  have HLq := Lib.hid hLq
                  have HXwq := Lib.hid hHXw
                  clear hIq hBq hLq HIr Hgn hHXw HXw
                  by_cases hlt : q < n
                  · obtain ⟨c, hc⟩ : ∃ c, l[q]? = some c := ⟨_, List.getElem?_eq_getElem (by have := Hln.out; omega)⟩
                    have Hld := Lib.hid (lnD_at hc)
                    have Hzc := Lib.hid (zof hc)
                    obtain ⟨xv, hxv⟩ : ∃ xv, xs[q]? = some xv := ⟨_, List.getElem?_eq_getElem (by rw [HLq.out.len, List.length_map]; have := Hln.out; omega)⟩
                    have cg : wr.cell? ⟨gn, q, none⟩ = some (.int .i64 xv) := (HBq.out.cell q).trans (ivA_at hxv)
                    have fg := HBq.out.frozen q
                    clear hc hxv
                    go_wp2_with fail
                    refine (cln7 (q : Int) HIq.out.dv).mono ?_
                    rw [Hld.out]
                    rintro e w5 ⟨rfl, rfl⟩
                    go_upto_region 33 with fail
                    have HB5 : Hid (Blk (wr.setCell ⟨gn, q, none⟩ (.int .i64 (c.z.ss.length : Nat))) gn 3 (ivA (xs.set q (c.z.ss.length : Int)))) := Lib.hid (by have h := HBq.out.set q (.int .i64 (c.z.ss.length : Nat)); rwa [ivA_set] at h)
                    have hkq := (Kept.refl (· = gn) wr).setCell (p := ⟨gn, q, none⟩) rfl (.int .i64 (c.z.ss.length : Nat))
                    have HI5 := Lib.hid (HIq.out.keptB HBq.out Hggn.out (by decide) (by decide) (by decide) (by decide) hkq)
                    have HL5 := Lib.hid (HLq.out.next Hzc.out)
                    have HXw5 := Lib.hid (HXwq.out.kept hkq Hne.out)
                    clear cg fg hkq HIq HBq HLq
                    generalize wr.setCell ⟨gn, q, none⟩ (.int .i64 (c.z.ss.length : Nat)) = w6 at *
                    go_wp2_with fail
                    go_roundw
                    case rel => exact ⟨q + 1, _, by omega, by go_num, HI5.out, HB5.out, HL5.out, HXw5.out⟩
                    case measure => simp [intOf]; omega
                  · have hqn : q = n := by omega
                    have HLn : Hid (LensI (l.map ZcR.z) xs (l.map ZcR.z).length) := Lib.hid (by have h := HLq.out; rwa [hqn, ← Hln.out, ← List.length_map (f := ZcR.z)] at h)
                    clear hqn HLq
                    have Hln_ := HLn
                    have Hokz : Hid (∀ (i : Nat) c, l[i]? = some c → ZsOk c.z) := Lib.hid HIq.out.dv.ok
                    clear HLn
                    go_wp2_with fail
                    refine (dcr HIq.out.dv).mono ?_
                    rintro e w7 ⟨rfl, hT⟩
                    have HW5 := Lib.hid (hT.blk HIq.out.dv HXwq.out (by decide) (by decide) (by decide) (by decide))
                    have HN5 := Lib.hid (hT.blk HIq.out.dv HBq.out (by decide) (by decide) (by decide) (by decide))
                    obtain ⟨l4, hI4, hm4⟩ := HIq.out.to hT
                    have HI4 := Lib.hid hI4
                    have Hm4 := Lib.hid hm4
                    have Hln4 : Hid (l4.length = n) := Lib.hid (by have h := congrArg List.length hm4; rw [List.length_map, List.length_map] at h; exact h.trans Hln.out)
                    clear hT hI4 hm4 HIq HBq HXwq
                    go_wp2_with fail
                    refine (crv7 HI4.out.dv ⟨w, Hks.out, HI4.out.B, Nat.le_refl _⟩ (by have := Hln4.out; omega)).mono ?_
                    have hR : rvSp { d with down := true } (l4.map ZcR.z) ks = ⟨0, 0, { d with down := false }, (l.map ZcR.z).mapIdx (fun i z => crS z (ks.getD i 0))⟩ := by unfold rvSp; rw [if_pos rfl, Hm4.out]
                    rw [hR]
                    rintro e w8 ⟨rfl, hT⟩
                    have HW6 := Lib.hid (hT.blk HI4.out.dv HW5.out (by decide) (by decide) (by decide) (by decide))
                    have HN6 := Lib.hid (hT.blk HI4.out.dv HN5.out (by decide) (by decide) (by decide) (by decide))
                    obtain ⟨l5, hI5, hm5⟩ := HI4.out.to hT
                    have HI5 := Lib.hid hI5
                    have Hm5 := Lib.hid hm5
                    clear hT hI5 hm5 hR HI4 HW5 HN5 Hm4 Hln4
                    go_wp2_with fail
                    go_loopw [131] (fun ci wr => ∃ q : Nat, q ≤ n ∧ ci = .int .i64 (q : Nat) ∧ DvI w D vz { d with down := false } l5 wr ∧ Blk wr gw 3 (ivA xw) ∧ Blk wr gn 3 (ivA xs)) (fun ci _ => n - (intOf ci).toNat)
                    case atStart => exact ⟨0, Nat.zero_le _, rfl, HI5.out, HW6.out, HN6.out⟩
                    case round =>
                      obtain ⟨q, hq, rfl, hI4, hW4, hN4⟩ := hrel
                      have HI4 := Lib.hid hI4
                      have HW4 := Lib.hid hW4
                      have HN4 := Lib.hid hN4
                      clear hI4 hW4 hN4 HI5 HW6 HN6
                      by_cases hlt : q < n
                      · obtain ⟨c0, hc0⟩ : ∃ c, lz[q]? = some c := ⟨_, List.getElem?_eq_getElem (by have := Hlnz.out; omega)⟩
                        obtain ⟨c, hc⟩ : ∃ c, l[q]? = some c := ⟨_, List.getElem?_eq_getElem (by have := Hln.out; omega)⟩
                        obtain ⟨z, hz, hsf⟩ := HSz.out.each q c0.z (zof hc0)
                        rw [zof hc] at hz
                        injection hz with hz
                        subst hz
                        have hwv := Hlwz.out.at_ (zof hc0)
                        have hnv := Hln_.out.at_ (zof hc)
                        have hl5 : (l5.map ZcR.z)[q]? = some (crS c.z (ks.getD q 0)) := by rw [Hm5.out, List.getElem?_mapIdx, zof hc]; rfl
                        have hdl : (l5.map ZcR.z).length = n := by rw [Hm5.out, List.length_mapIdx, List.length_map]; exact Hln.out
                        have hdl' : l5.length = n := by rw [← hdl, List.length_map]
                        have hlr : lnD (l5.map ZcR.z) (q : Int) = (c0.z.ss.length : Int) + min (max (ks.getD q 0) 0) ((c.z.ss.length : Int) - (c0.z.ss.length : Int)) := by
                          have hkp : ∀ hok : ZsOk c.z, ((crS c.z (ks.getD q 0)).ss.length : Int) = c.z.safe + min (max (ks.getD q 0) 0) ((c.z.ss.length : Int) - c.z.safe) := fun hok => by
                            obtain ⟨n1, n2, n3⟩ := keepS_bd hok (ks.getD q 0)
                            show ((c.z.ss.take (keepS c.z (ks.getD q 0))).length : Int) = _
                            rw [List.length_take, Nat.min_eq_left n2, n1]
                          unfold lnD
                          rw [if_pos (by unfold dhB; simp; omega), zsat_of hl5, hkp (Hokz.out q c hc), hsf]
                        have Hxb : Hid (0 ≤ (c0.z.ss.length : Int) ∧ (c0.z.ss.length : Int) ≤ 64 ∧ 0 ≤ (c.z.ss.length : Int) ∧ (c.z.ss.length : Int) ≤ 64 ∧ (c0.z.ss.length : Int) ≤ (c.z.ss.length : Int)) := Lib.hid (by
                          have hok := Hokz.out q c hc
                          have q1 := hok.len; have q2 := hok.size.2; have q3 := hok.safe.2
                          rw [hsf] at q3
                          omega)
                        have Hwat := Lib.hid hwv
                        have Hnat := Lib.hid hnv
                        have Hlr := Lib.hid hlr
                        have Hkr : Hid (RowZ wr ka kl kc ks) := Lib.hid (Hks.out.below HI4.out.B)
                        clear hc0 hc hsf hwv hnv hl5 hdl hlr
                        generalize (c0.z.ss.length : Int) = xv0 at *
                        generalize (c.z.ss.length : Int) = xv1 at *
                        obtain ⟨xw_, hren⟩ : ∃ t, t = xv0 := ⟨_, rfl⟩
                        subst hren
                        obtain ⟨xn, hren⟩ : ∃ t, t = xv1 := ⟨_, rfl⟩
                        subst hren
                        by_cases hjk : q < kl
                        · obtain ⟨kb, koff, rfl, hkc⟩ := Hkr.out.cells (by omega)
                          have ck := hkc q hjk
                          have Hkb := Lib.hid (Hkr.out.bounds q)
                          clear hkc
                          go_upto_region 42 with (first | (refine wpl_run (by rfl) (.int .i64 (max (ks.getD q 0) 0)) (exec_max _ _ _ rfl (ks.getD q 0) 0 _ rfl rfl rfl) ?_; go_frame))
                          clear ck
                          refine wp_region_held (S := fun w' => Below wr.heap.size wr w') (by kernel_rfl) ?_
                          change wpAnyH _ _ _ _ _ _ _ _ (World.drew _)
                          have hS : Below wr.heap.size wr wr.drew := (Below.refl _ _).drew
                          refine takeH hS (i := 0) (d := 143) (v := .pointer (some ⟨D, 0, none⟩)) rfl rfl (by kernel_rfl) (by kernel_rfl) (by kernel_rfl) (fun _ _ _ h => h) (Or.inl ⟨by kernel_rfl, fun w' hw' => by kernel_rfl⟩) ?_
                          refine takeH hS (i := 1) (d := 144) (v := .int .i64 (q : Nat)) rfl rfl (by kernel_rfl) (by kernel_rfl) (by kernel_rfl) (fun _ _ _ h => h) (Or.inl ⟨by kernel_rfl, fun w' hw' => by kernel_rfl⟩) ?_
                          refine takeH hS (i := 3) (d := 146) (v := .slice (some ⟨gw, 0, none⟩) n n) rfl rfl (by kernel_rfl) (by kernel_rfl) (by kernel_rfl) (fun _ _ _ h => h) (Or.inl ⟨by kernel_rfl, fun w' hw' => by kernel_rfl⟩) ?_
                          try go_frame
                          refine takeH hS (i := 4) (d := 147) (v := .int .i64 (q : Nat)) rfl rfl (by kernel_rfl) (by kernel_rfl) (by kernel_rfl) (fun _ _ _ h => h) (Or.inl ⟨by kernel_rfl, fun w' hw' => by kernel_rfl⟩) ?_
                          refine takeH hS (i := 5) (d := 148) (v := .pointer (some ⟨gw, q, none⟩)) rfl rfl (by kernel_rfl) (by kernel_rfl) (by kernel_rfl) (fun _ _ _ h => h) (Or.inl ⟨by kernel_rfl, fun w' hw' => by exact exec_index elI _ _ rfl gw n n q rfl rfl hlt⟩) ?_
                          refine takeH hS (i := 6) (d := 149) (v := .int .i64 xw_) rfl rfl (by kernel_rfl) (by kernel_rfl) (by kernel_rfl) (fun _ _ _ h => h) (Or.inl ⟨by kernel_rfl, fun w' hw' => by exact exec_cell _ rfl ⟨gw, q, none⟩ rfl _ Try.underlying3 (((HW4.out.below hw' HW4.out.lt).cell q).trans (ivA_at Hwat.out))⟩) ?_
                          try go_frame
                          refine takeH hS (i := 7) (d := 150) (v := .int .i64 (max (ks.getD q 0) 0)) rfl rfl (by kernel_rfl) (by kernel_rfl) (by kernel_rfl) (fun _ _ _ h => h) (Or.inl ⟨by kernel_rfl, fun w' hw' => by kernel_rfl⟩) ?_
                          refine takeH hS (i := 8) (d := 151) (v := .slice (some ⟨gn, 0, none⟩) n n) rfl rfl (by kernel_rfl) (by kernel_rfl) (by kernel_rfl) (fun _ _ _ h => h) (Or.inl ⟨by kernel_rfl, fun w' hw' => by kernel_rfl⟩) ?_
                          refine takeH hS (i := 9) (d := 152) (v := .int .i64 (q : Nat)) rfl rfl (by kernel_rfl) (by kernel_rfl) (by kernel_rfl) (fun _ _ _ h => h) (Or.inl ⟨by kernel_rfl, fun w' hw' => by kernel_rfl⟩) ?_
                          try go_frame
                          refine takeH hS (i := 10) (d := 153) (v := .pointer (some ⟨gn, q, none⟩)) rfl rfl (by kernel_rfl) (by kernel_rfl) (by kernel_rfl) (fun _ _ _ h => h) (Or.inl ⟨by kernel_rfl, fun w' hw' => by exact exec_index elI _ _ rfl gn n n q rfl rfl hlt⟩) ?_
                          refine takeH hS (i := 11) (d := 154) (v := .int .i64 xn) rfl rfl (by kernel_rfl) (by kernel_rfl) (by kernel_rfl) (fun _ _ _ h => h) (Or.inl ⟨by kernel_rfl, fun w' hw' => by exact exec_cell _ rfl ⟨gn, q, none⟩ rfl _ Try.underlying3 (((HN4.out.below hw' HN4.out.lt).cell q).trans (ivA_at Hnat.out))⟩) ?_
                          refine takeH hS (i := 12) (d := 155) (v := .slice (some ⟨gw, 0, none⟩) n n) rfl rfl (by kernel_rfl) (by kernel_rfl) (by kernel_rfl) (fun _ _ _ h => h) (Or.inl ⟨by kernel_rfl, fun w' hw' => by kernel_rfl⟩) ?_
                          try go_frame
                          refine takeH hS (i := 13) (d := 156) (v := .int .i64 (q : Nat)) rfl rfl (by kernel_rfl) (by kernel_rfl) (by kernel_rfl) (fun _ _ _ h => h) (Or.inl ⟨by kernel_rfl, fun w' hw' => by kernel_rfl⟩) ?_
                          refine takeH hS (i := 14) (d := 157) (v := .pointer (some ⟨gw, q, none⟩)) rfl rfl (by kernel_rfl) (by kernel_rfl) (by kernel_rfl) (fun _ _ _ h => h) (Or.inl ⟨by kernel_rfl, fun w' hw' => by exact exec_index elI _ _ rfl gw n n q rfl rfl hlt⟩) ?_
                          refine takeH hS (i := 15) (d := 158) (v := .int .i64 xw_) rfl rfl (by kernel_rfl) (by kernel_rfl) (by kernel_rfl) (fun _ _ _ h => h) (Or.inl ⟨by kernel_rfl, fun w' hw' => by exact exec_cell _ rfl ⟨gw, q, none⟩ rfl _ Try.underlying3 (((HW4.out.below hw' HW4.out.lt).cell q).trans (ivA_at Hwat.out))⟩) ?_
                          try go_frame
                          refine takeH hS (i := 16) (d := 159) (v := .int .i64 (xn - xw_)) rfl rfl (by kernel_rfl) (by kernel_rfl) (by kernel_rfl) (fun _ _ _ h => h) (Or.inl ⟨by kernel_rfl, fun w' hw' => by exact exec_sub _ _ rfl xn xw_ (xn - xw_) rfl rfl rfl (by have := Hxb.out; omega)⟩) ?_
                          refine takeH hS (i := 17) (d := 160) (v := .int .i64 (min (max (ks.getD q 0) 0) (xn - xw_))) rfl rfl (by kernel_rfl) (by kernel_rfl) (by kernel_rfl) (fun _ _ _ h => h) (Or.inl ⟨by kernel_rfl, fun w' hw' => by exact exec_min _ _ _ rfl (max (ks.getD q 0) 0) (xn - xw_) _ rfl rfl rfl⟩) ?_
                          refine takeH hS (i := 18) (d := 161) (v := .int .i64 (xw_ + min (max (ks.getD q 0) 0) (xn - xw_))) rfl rfl (by kernel_rfl) (by kernel_rfl) (by kernel_rfl) (fun _ _ _ h => h) (Or.inl ⟨by kernel_rfl, fun w' hw' => by exact exec_add _ _ rfl xw_ (min (max (ks.getD q 0) 0) (xn - xw_)) _ rfl rfl rfl (by have := Hxb.out; omega)⟩) ?_
                          try go_frame
                          have HI5 := Lib.hid (HI4.out.below hS)
                          refine nextH (i := 2) rfl (by kernel_rfl) (by kernel_rfl) (fun K' hK => ?_)
                          go_wp2_with fail
                          refine (cln7 (q : Int) HI5.out.dv).mono ?_
                          rw [Hlr.out]
                          rintro en w7 ⟨rfl, rfl⟩
                          refine hK.out _ _ ⟨hS, ?_⟩
                          clear hK K'
                          try go_frame
                          refine takeH hS (i := 19) (d := 162) (v := .bool false) rfl rfl (by kernel_rfl) (by kernel_rfl) (by kernel_rfl) (fun _ _ _ h => h) (Or.inl ⟨by kernel_rfl, fun w' hw' => by exact exec_neq _ _ rfl (xw_ + min (max (ks.getD q 0) 0) (xn - xw_)) (xw_ + min (max (ks.getD q 0) 0) (xn - xw_)) rfl rfl false (by simp) rfl⟩) ?_
                          try go_frame
                          refine wpAnyH_done (by kernel_rfl) ?_ _
                          try go_frame
                          have HW5 := Lib.hid (HW4.out.below hS HW4.out.lt)
                          have HN5 := Lib.hid (HN4.out.below hS HN4.out.lt)
                          clear hS HI4 HW4 HN4
                          generalize wr.drew = wr5 at *
                          go_wp2_with fail
                          go_roundw
                          case rel => exact ⟨q + 1, by omega, by go_num, HI5.out, HW5.out, HN5.out⟩
                          case measure => simp [intOf]; omega
                        · have hk0 : ks.getD q 0 = 0 := by rw [List.getD_eq_getElem?_getD, List.getElem?_eq_none (by rw [Hkr.out.length]; omega)]; rfl
                          have Hlr0 : Hid (lnD (l5.map ZcR.z) (q : Int) = xw_ + min 0 (xn - xw_)) := Lib.hid (by rw [Hlr.out, hk0]; rfl)
                          clear Hlr hk0
                          have Hlr := Hlr0
                          clear Hlr0
                          go_upto_region 42 with fail
                          refine wp_region_held (S := fun w' => Below wr.heap.size wr w') (by kernel_rfl) ?_
                          change wpAnyH _ _ _ _ _ _ _ _ (World.drew _)
                          have hS : Below wr.heap.size wr wr.drew := (Below.refl _ _).drew
                          refine takeH hS (i := 0) (d := 143) (v := .pointer (some ⟨D, 0, none⟩)) rfl rfl (by kernel_rfl) (by kernel_rfl) (by kernel_rfl) (fun _ _ _ h => h) (Or.inl ⟨by kernel_rfl, fun w' hw' => by kernel_rfl⟩) ?_
                          refine takeH hS (i := 1) (d := 144) (v := .int .i64 (q : Nat)) rfl rfl (by kernel_rfl) (by kernel_rfl) (by kernel_rfl) (fun _ _ _ h => h) (Or.inl ⟨by kernel_rfl, fun w' hw' => by kernel_rfl⟩) ?_
                          refine takeH hS (i := 3) (d := 146) (v := .slice (some ⟨gw, 0, none⟩) n n) rfl rfl (by kernel_rfl) (by kernel_rfl) (by kernel_rfl) (fun _ _ _ h => h) (Or.inl ⟨by kernel_rfl, fun w' hw' => by kernel_rfl⟩) ?_
                          try go_frame
                          refine takeH hS (i := 4) (d := 147) (v := .int .i64 (q : Nat)) rfl rfl (by kernel_rfl) (by kernel_rfl) (by kernel_rfl) (fun _ _ _ h => h) (Or.inl ⟨by kernel_rfl, fun w' hw' => by kernel_rfl⟩) ?_
                          refine takeH hS (i := 5) (d := 148) (v := .pointer (some ⟨gw, q, none⟩)) rfl rfl (by kernel_rfl) (by kernel_rfl) (by kernel_rfl) (fun _ _ _ h => h) (Or.inl ⟨by kernel_rfl, fun w' hw' => by exact exec_index elI _ _ rfl gw n n q rfl rfl hlt⟩) ?_
                          refine takeH hS (i := 6) (d := 149) (v := .int .i64 xw_) rfl rfl (by kernel_rfl) (by kernel_rfl) (by kernel_rfl) (fun _ _ _ h => h) (Or.inl ⟨by kernel_rfl, fun w' hw' => by exact exec_cell _ rfl ⟨gw, q, none⟩ rfl _ Try.underlying3 (((HW4.out.below hw' HW4.out.lt).cell q).trans (ivA_at Hwat.out))⟩) ?_
                          try go_frame
                          refine takeH hS (i := 7) (d := 150) (v := .int .i64 (0)) rfl rfl (by kernel_rfl) (by kernel_rfl) (by kernel_rfl) (fun _ _ _ h => h) (Or.inl ⟨by kernel_rfl, fun w' hw' => by kernel_rfl⟩) ?_
                          refine takeH hS (i := 8) (d := 151) (v := .slice (some ⟨gn, 0, none⟩) n n) rfl rfl (by kernel_rfl) (by kernel_rfl) (by kernel_rfl) (fun _ _ _ h => h) (Or.inl ⟨by kernel_rfl, fun w' hw' => by kernel_rfl⟩) ?_
                          refine takeH hS (i := 9) (d := 152) (v := .int .i64 (q : Nat)) rfl rfl (by kernel_rfl) (by kernel_rfl) (by kernel_rfl) (fun _ _ _ h => h) (Or.inl ⟨by kernel_rfl, fun w' hw' => by kernel_rfl⟩) ?_
                          try go_frame
                          refine takeH hS (i := 10) (d := 153) (v := .pointer (some ⟨gn, q, none⟩)) rfl rfl (by kernel_rfl) (by kernel_rfl) (by kernel_rfl) (fun _ _ _ h => h) (Or.inl ⟨by kernel_rfl, fun w' hw' => by exact exec_index elI _ _ rfl gn n n q rfl rfl hlt⟩) ?_
                          refine takeH hS (i := 11) (d := 154) (v := .int .i64 xn) rfl rfl (by kernel_rfl) (by kernel_rfl) (by kernel_rfl) (fun _ _ _ h => h) (Or.inl ⟨by kernel_rfl, fun w' hw' => by exact exec_cell _ rfl ⟨gn, q, none⟩ rfl _ Try.underlying3 (((HN4.out.below hw' HN4.out.lt).cell q).trans (ivA_at Hnat.out))⟩) ?_
                          refine takeH hS (i := 12) (d := 155) (v := .slice (some ⟨gw, 0, none⟩) n n) rfl rfl (by kernel_rfl) (by kernel_rfl) (by kernel_rfl) (fun _ _ _ h => h) (Or.inl ⟨by kernel_rfl, fun w' hw' => by kernel_rfl⟩) ?_
                          try go_frame
                          refine takeH hS (i := 13) (d := 156) (v := .int .i64 (q : Nat)) rfl rfl (by kernel_rfl) (by kernel_rfl) (by kernel_rfl) (fun _ _ _ h => h) (Or.inl ⟨by kernel_rfl, fun w' hw' => by kernel_rfl⟩) ?_
                          refine takeH hS (i := 14) (d := 157) (v := .pointer (some ⟨gw, q, none⟩)) rfl rfl (by kernel_rfl) (by kernel_rfl) (by kernel_rfl) (fun _ _ _ h => h) (Or.inl ⟨by kernel_rfl, fun w' hw' => by exact exec_index elI _ _ rfl gw n n q rfl rfl hlt⟩) ?_
                          refine takeH hS (i := 15) (d := 158) (v := .int .i64 xw_) rfl rfl (by kernel_rfl) (by kernel_rfl) (by kernel_rfl) (fun _ _ _ h => h) (Or.inl ⟨by kernel_rfl, fun w' hw' => by exact exec_cell _ rfl ⟨gw, q, none⟩ rfl _ Try.underlying3 (((HW4.out.below hw' HW4.out.lt).cell q).trans (ivA_at Hwat.out))⟩) ?_
                          try go_frame
                          refine takeH hS (i := 16) (d := 159) (v := .int .i64 (xn - xw_)) rfl rfl (by kernel_rfl) (by kernel_rfl) (by kernel_rfl) (fun _ _ _ h => h) (Or.inl ⟨by kernel_rfl, fun w' hw' => by exact exec_sub _ _ rfl xn xw_ (xn - xw_) rfl rfl rfl (by have := Hxb.out; omega)⟩) ?_
                          refine takeH hS (i := 17) (d := 160) (v := .int .i64 (min (0) (xn - xw_))) rfl rfl (by kernel_rfl) (by kernel_rfl) (by kernel_rfl) (fun _ _ _ h => h) (Or.inl ⟨by kernel_rfl, fun w' hw' => by exact exec_min _ _ _ rfl (0) (xn - xw_) _ rfl rfl rfl⟩) ?_
                          refine takeH hS (i := 18) (d := 161) (v := .int .i64 (xw_ + min (0) (xn - xw_))) rfl rfl (by kernel_rfl) (by kernel_rfl) (by kernel_rfl) (fun _ _ _ h => h) (Or.inl ⟨by kernel_rfl, fun w' hw' => by exact exec_add _ _ rfl xw_ (min (0) (xn - xw_)) _ rfl rfl rfl (by have := Hxb.out; omega)⟩) ?_
                          try go_frame
                          have HI5 := Lib.hid (HI4.out.below hS)
                          refine nextH (i := 2) rfl (by kernel_rfl) (by kernel_rfl) (fun K' hK => ?_)
                          go_wp2_with fail
                          refine (cln7 (q : Int) HI5.out.dv).mono ?_
                          rw [Hlr.out]
                          rintro en w7 ⟨rfl, rfl⟩
                          refine hK.out _ _ ⟨hS, ?_⟩
                          clear hK K'
                          try go_frame
                          refine takeH hS (i := 19) (d := 162) (v := .bool false) rfl rfl (by kernel_rfl) (by kernel_rfl) (by kernel_rfl) (fun _ _ _ h => h) (Or.inl ⟨by kernel_rfl, fun w' hw' => by exact exec_neq _ _ rfl (xw_ + min (0) (xn - xw_)) (xw_ + min (0) (xn - xw_)) rfl rfl false (by simp) rfl⟩) ?_
                          try go_frame
                          refine wpAnyH_done (by kernel_rfl) ?_ _
                          try go_frame
                          have HW5 := Lib.hid (HW4.out.below hS HW4.out.lt)
                          have HN5 := Lib.hid (HN4.out.below hS HN4.out.lt)
                          clear hS HI4 HW4 HN4
                          generalize wr.drew = wr5 at *
                          go_wp2_with fail
                          go_roundw
                          case rel => exact ⟨q + 1, by omega, by go_num, HI5.out, HW5.out, HN5.out⟩
                          case measure => simp [intOf]; omega
                      · have hqn : q = n := by omega
                        clear hqn
                        go_wp2_with fail
                        refine (ddown HI4.out.dv).mono ?_
                        rintro e w9 ⟨rfl, rfl⟩
                        go_wp2_with fail
                        go_ret
                        exact ⟨rfl, HI4.out.B⟩

theorem walkDeviceFlushes (zones size opn : Int) (a : Option Addr) (len cap : Nat) (f : Nat → Op7) (a2 : Option Addr) (len2 cap2 : Nat) (f2 : Nat → Op7) (ka : Option Addr) (kl kc : Nat) (ks : List Int) (w : World) (h0 : (Lit.int .i64 zones).wf = true) (h1 : (Lit.int .i64 size).wf = true) (h2 : (Lit.int .i64 opn).wf = true) (h3 : RowOp7 w a len cap f) (h4 : RowOp7 w a2 len2 cap2 f2) (h5 : RowZ w ka kl kc ks) : Calls Try.prog 6 #[.int .i64 zones, .int .i64 size, .int .i64 opn, .slice a len cap, .slice a2 len2 cap2, .slice ka kl kc] w fun e w' => e = .returned (.bool true) ∧ Below w.heap.size w w' := by
  by_cases hz : 40 < zones
  · exact dflu_z zones size opn a len cap a2 len2 cap2 ka kl kc w hz
  · by_cases hr : ((1 ≤ zones ∧ zones ≤ 512) ∧ (1 ≤ size ∧ size ≤ 64) ∧ 1 ≤ opn ∧ opn ≤ 64)
    · obtain ⟨⟨r1, r2⟩, ⟨r3, r4⟩, r5, r6⟩ := hr
      by_cases hl : 60 < len
      · exact dflu_l zones size opn a len cap a2 len2 cap2 ka kl kc w (by omega) r1 r3 r4 r5 r6 hl
      · by_cases hl2 : 60 < len2
        · exact dflu_m zones size opn a len cap a2 len2 cap2 ka kl kc w (by omega) r1 r3 r4 r5 r6 (by omega) hl2
        · obtain ⟨n, rfl⟩ := Int.eq_ofNat_of_zero_le (show 0 ≤ zones by omega)
          exact dflu_t n size opn a len cap f a2 len2 cap2 f2 ka kl kc ks w (by omega) (by omega) r3 r4 r5 r6 h3 h4 h5 (by omega) (by omega)
    · exact dflu_n zones size opn a len cap a2 len2 cap2 ka kl kc w (by omega) hr

end Go.Proofs.Ytlngdndamgopeaa

