import Derived.Test.YtlngdndamgopeaaMg22
import Derived.Test.YtlngdndamgopeaaMg11
import Derived.OwnWalkIn
import Derived.Test.YtlngdndamgopeaaMg17
import Derived.Test.YtlngdndamgopeaaMg08
import Derived.Test.YtlngdndamgopeaaMg07
import Derived.RangeFuncNested
import Derived.OrdersIn
/-
  Layer 7 (zdev): what a step may change (plain); the anchor; what stands while a law goes on.
-/
namespace Go.Proofs.Ytlngdndamgopeaa
open Go.RowKit
set_option linter.unusedVariables false
set_option linter.unnecessarySimpa false
set_option linter.unusedSimpArgs false


section
variable {d : DvR} {zs : List ZsR} {o : Op7}
theorem opD_set1 (k : Nat) (z' : ZsR) : ∀ (zs : List ZsR), opD (zs.set k z') ≤ opD zs + 1 := by
  unfold opD
  induction k with
  | zero => intro zs; cases zs with
    | nil => simp
    | cons z zs => simp only [List.set_cons_zero, List.countP_cons]; split <;> split <;> omega
  | succ k ih => intro zs; cases zs with
    | nil => simp
    | cons z zs => simp only [List.set_cons_succ, List.countP_cons]; have := ih zs; omega
theorem opD_set0 (z' : ZsR) : ∀ (k : Nat) (zs : List ZsR) (z : ZsR), zs[k]? = some z → (stS z' = 1 → stS z = 1) → opD (zs.set k z') ≤ opD zs := by
  unfold opD
  intro k
  induction k with
  | zero => intro zs z hz h; cases zs with
    | nil => simp
    | cons y zs =>
      obtain rfl : y = z := by simpa using hz
      simp only [List.set_cons_zero, List.countP_cons]
      by_cases e : stS z' = 1
      · rw [if_pos (by simpa using e), if_pos (by simpa using h e)]; exact Nat.le_refl _
      · rw [if_neg (by simpa using e)]; omega
  | succ k ih => intro zs z hz h; cases zs with
    | nil => simp
    | cons y zs => simp only [List.set_cons_succ, List.countP_cons]; have := ih zs z (by simpa using hz) h; omega
theorem opD_zsat {zs : List ZsR} {k : Nat} (hk : k < zs.length) (z' : ZsR) (h : stS z' = 1 → stS (zsat zs (k : Int)) = 1) : opD (zs.set k z') ≤ opD zs := by
  obtain ⟨z, hz⟩ : ∃ z, zs[k]? = some z := ⟨_, List.getElem?_eq_getElem hk⟩
  rw [zsat_of hz] at h
  exact opD_set0 z' k zs z hz h
theorem st_rs {z : ZsR} (h : ZsOk z) (e : stS (rsS z) = 1) : stS z = 1 := by
  unfold rsS at e
  split at e
  · have h0 : stS (zs0 z.size) = 0 := congrArg R7z.state (rz_zero h.size)
    omega
  · exact e
theorem st_fn {z : ZsR} (h : ZsOk z) (e : stS (fnS z) = 1) : stS z = 1 := by
  unfold fnS at e
  split at e
  · rename_i h1
    have h2 : stS { z with fin := true } = 2 := by rw [stS_no (by exact (refS_zero h).1 h1), if_pos (.inl rfl)]
    omega
  · exact e
theorem st_fa {z : ZsR} (st : Int) (e : stS (faS z st) = 1) : stS z = 1 := by
  unfold faS at e
  split at e
  · rename_i h1
    have h2 : stS { z with failed := st } = st := stS_yes (by show st ≠ 0; omega)
    omega
  · exact e
theorem st_ch (z : ZsR) (off : Int) (p : List Nat) : stS (chS7 z off p) = stS z := by
  unfold chS7
  split
  · unfold stS; simp only [List.length_set]
  · rfl
theorem st_ap {z : ZsR} (s : List Nat) (hn : ¬ stS z = 0) (hz : ZsOk z) (e : stS (apSS z s) = 1) : stS z = 1 := by
  by_cases h : apES z = 0
  · obtain ⟨h1, h2, h3⟩ := apES_zero hz h
    rw [stS_no h1] at hn ⊢
    rw [if_neg (by rw [h2]; rintro (e' | e'); · cases e'
                   · exact h3 e')] at hn ⊢
    by_cases h4 : (z.ss.length : Int) = 0
    · rw [if_pos h4] at hn; exact absurd rfl hn
    · rw [if_neg h4]
  · rw [ap_no h] at e; exact e
theorem opD_map (zs : List ZsR) : opD (zs.mapIdx (fun _ => flS)) = opD zs := by
  rw [mapIdx_const]
  unfold opD
  rw [List.countP_map]
  rfl
/-- No step but 7 opens a zone beyond the limit. -/
theorem stSp_limit (sn : Sane d zs) (hk : o.k ≠ 7) : (opD (stSp d zs o).zs : Int) ≤ (opD zs : Int) ∨ (opD (stSp d zs o).zs : Int) ≤ d.opn := by
  unfold stSp
  by_cases k1 : o.k = 1
  · rw [if_pos k1]
    unfold apSp
    by_cases h1 : cmdE d zs.length o.z = 0
    · rw [if_neg (fun h => h h1)]
      obtain ⟨k, hz, hk', _⟩ := cmd_in h1
      rw [hz]
      obtain ⟨z, hzz⟩ : ∃ z, zs[k]? = some z := ⟨_, List.getElem?_eq_getElem hk'⟩
      obtain ⟨hok, _⟩ := sane_at sn hzz
      by_cases h2 : stS (zsat zs (k : Int)) = 0 ∧ ¬ (opD zs : Int) < d.opn
      · rw [if_pos h2]; exact .inl (Int.le_refl _)
      · rw [if_neg h2, Int.toNat_natCast, zsat_of hzz]
        rw [zsat_of hzz] at h2
        by_cases h3 : stS z = 0
        · right
          have := opD_set1 k (apSS z o.s) zs
          show (opD (zs.set k (apSS z o.s)) : Int) ≤ d.opn
          omega
        · left
          have := opD_set0 (apSS z o.s) k zs z hzz (st_ap o.s h3 hok)
          show (opD (zs.set k (apSS z o.s)) : Int) ≤ opD zs
          omega
    · rw [if_pos h1]; exact .inl (Int.le_refl _)
  rw [if_neg k1]
  left
  by_cases k2 : o.k = 2
  · rw [if_pos k2]; unfold rdSp; split <;> exact Int.le_refl _
  rw [if_neg k2]
  by_cases k3 : o.k = 3
  · rw [if_pos k3]
    unfold rsSp
    by_cases h1 : cmdE d zs.length o.z = 0
    · rw [if_neg (fun h => h h1)]
      obtain ⟨k, hz, hk', _⟩ := cmd_in h1
      obtain ⟨z, hzz⟩ : ∃ z, zs[k]? = some z := ⟨_, List.getElem?_eq_getElem hk'⟩
      rw [hz, Int.toNat_natCast, zsat_of hzz]
      have := opD_set0 (rsS z) k zs z hzz (st_rs (sane_at sn hzz).1)
      show (opD (zs.set k (rsS z)) : Int) ≤ opD zs
      omega
    · rw [if_pos h1]; exact Int.le_refl _
  rw [if_neg k3]
  by_cases k4 : o.k = 4
  · rw [if_pos k4]
    unfold fnSp
    by_cases h1 : cmdE d zs.length o.z = 0
    · rw [if_neg (fun h => h h1)]
      obtain ⟨k, hz, hk', _⟩ := cmd_in h1
      obtain ⟨z, hzz⟩ : ∃ z, zs[k]? = some z := ⟨_, List.getElem?_eq_getElem hk'⟩
      rw [hz, Int.toNat_natCast, zsat_of hzz]
      have := opD_set0 (fnS z) k zs z hzz (st_fn (sane_at sn hzz).1)
      show (opD (zs.set k (fnS z)) : Int) ≤ opD zs
      omega
    · rw [if_pos h1]; exact Int.le_refl _
  rw [if_neg k4]
  by_cases k5 : o.k = 5
  · rw [if_pos k5]
    unfold flSp
    split
    · exact Int.le_refl _
    · show (opD (zs.mapIdx (fun _ => flS)) : Int) ≤ opD zs
      rw [opD_map]; exact Int.le_refl _
  rw [if_neg k5]
  by_cases k6 : o.k = 6
  · rw [if_pos k6]; exact Int.le_refl _
  rw [if_neg k6, if_neg hk]
  by_cases k8 : o.k = 8
  · rw [if_pos k8]
    unfold faSp
    by_cases h1 : dhB zs.length o.z = true
    · rw [if_pos h1]
      obtain ⟨i0, i1⟩ := dhB_in h1
      have := opD_zsat (k := o.z.toNat) (zs := zs) (by omega) (faS (zsat zs o.z) o.off) (fun e => by rw [Int.toNat_of_nonneg i0]; exact st_fa _ e)
      show (opD (zs.set _ _) : Int) ≤ opD zs
      omega
    · rw [if_neg h1]; exact Int.le_refl _
  rw [if_neg k8]
  by_cases k9 : o.k = 9
  · rw [if_pos k9]
    unfold spSp
    by_cases h1 : dhB zs.length o.z = true
    · rw [if_pos h1]
      obtain ⟨i0, i1⟩ := dhB_in h1
      have := opD_zsat (k := o.z.toNat) (zs := zs) (by omega) (chS7 (zsat zs o.z) o.off o.s) (fun e => by rw [Int.toNat_of_nonneg i0]; rw [st_ch] at e; exact e)
      show (opD (zs.set _ _) : Int) ≤ opD zs
      omega
    · rw [if_neg h1]; exact Int.le_refl _
  rw [if_neg k9]
  exact Int.le_refl _
/-- What a step keeps of the device, and how many commands it counts. -/
theorem stSp_keeps : (stSp d zs o).zs.length = zs.length ∧ (stSp d zs o).d.size = d.size ∧ (stSp d zs o).d.opn = d.opn ∧ d.count ≤ (stSp d zs o).d.count ∧ (stSp d zs o).d.count ≤ d.count + 1 := by
  have e0 : ∀ (d : DvR) (zs : List ZsR), zs.length = zs.length ∧ d.size = d.size ∧ d.opn = d.opn ∧ d.count ≤ d.count ∧ d.count ≤ d.count + 1 := fun d zs => ⟨rfl, rfl, rfl, Int.le_refl _, by omega⟩
  unfold stSp
  split
  · unfold apSp
    split
    · exact e0 d zs
    · split
      · exact ⟨rfl, rfl, rfl, by show d.count ≤ d.count + 1; omega, Int.le_refl _⟩
      · exact ⟨List.length_set .., rfl, rfl, by show d.count ≤ d.count + 1; omega, Int.le_refl _⟩
  split
  · unfold rdSp
    split
    · exact e0 d zs
    · exact ⟨rfl, rfl, rfl, by show d.count ≤ d.count + 1; omega, Int.le_refl _⟩
  split
  · unfold rsSp
    split
    · exact e0 d zs
    · exact ⟨List.length_set .., rfl, rfl, by show d.count ≤ d.count + 1; omega, Int.le_refl _⟩
  split
  · unfold fnSp
    split
    · exact e0 d zs
    · exact ⟨List.length_set .., rfl, rfl, by show d.count ≤ d.count + 1; omega, Int.le_refl _⟩
  split
  · unfold flSp
    split
    · exact e0 d zs
    · exact ⟨List.length_mapIdx, rfl, rfl, by show d.count ≤ d.count + 1; omega, Int.le_refl _⟩
  split
  · exact ⟨rfl, rfl, rfl, Int.le_refl _, by show d.count ≤ d.count + 1; omega⟩
  split
  · unfold rvSp
    split
    · exact ⟨List.length_mapIdx, rfl, rfl, Int.le_refl _, by show d.count ≤ d.count + 1; omega⟩
    · exact e0 d zs
  split
  · unfold faSp
    split
    · exact ⟨List.length_set .., rfl, rfl, Int.le_refl _, by show d.count ≤ d.count + 1; omega⟩
    · exact e0 d zs
  split
  · unfold spSp
    split
    · exact ⟨List.length_set .., rfl, rfl, Int.le_refl _, by show d.count ≤ d.count + 1; omega⟩
    · exact e0 d zs
  exact e0 d zs
end

def s1 : List Nat := 1 :: zeros 63
theorem s1_length : s1.length = 64 := by simp [s1, zeros_length]
theorem s1_lt : ∀ b ∈ s1, b < 256 := fun b hb => by
  rcases List.mem_cons.1 hb with rfl | hb
  · decide
  · exact zeros_lt 63 b hb
theorem anchor_1 : apSp (dv0 2 1) [zs0 2, zs0 2] 0 s1 = ⟨0, 0, ⟨2, 1, 1, false⟩, [⟨2, 0, false, 0, [s1]⟩, zs0 2]⟩ := by rfl
theorem anchor_2 : apSp ⟨2, 1, 1, false⟩ [⟨2, 0, false, 0, [s1]⟩, zs0 2] 1 s1 = ⟨0, 33, ⟨2, 1, 2, false⟩, [⟨2, 0, false, 0, [s1]⟩, zs0 2]⟩ := by rfl
set_option maxRecDepth 100000 in
set_option maxHeartbeats 2000000 in
theorem anchor7_any (w : World) : Calls Try.prog 8 #[] w fun e w' => e = .returned (.bool true) ∧ Below w.heap.size w w' := by
  go_enter Try.func8, Try.ntmps8
  go_wp2_with fail
  refine (dnew_ok (lo := w.heap.size) 2 2 1 w (by decide) (by decide) (by decide) (Nat.le_refl _)).mono ?_
  rintro e w1 ⟨rfl, ⟨vz, l, hA, hm⟩, hb⟩
  have HA := Lib.hid hA
  have Hb := Lib.hid hb
  have hm' : l.map ZcR.z = [zs0 2, zs0 2] := hm
  have Hm := Lib.hid hm'
  have hl : l.length = 2 := by have h := congrArg List.length hm'; rwa [List.length_map] at h
  clear hA hb hm hm'
  go_wp2_with (refine wpl_build (by rfl) _ _ rfl (.agg (bA s1)) (fun w => by kernel_rfl) ?_; go_frame)
  refine (cap7 0 s1 s1_length s1_lt HA.out (by decide) (by omega)).mono ?_
  rw [Hm.out, anchor_1]
  rintro e w2 ⟨rfl, hT⟩
  have Hb2 := Lib.hid (hT.bel HA.out Hb.out (Nat.le_refl _))
  obtain ⟨l2, hA2, hm2, _, _⟩ := hT
  have HA2 := Lib.hid hA2
  have Hm2 := Lib.hid hm2
  have hl2 : l2.length = 2 := by have h := congrArg List.length hm2; rwa [List.length_map] at h
  clear hA2 hm2 hl HA Hb Hm
  go_wp2_with (refine wpl_build (by rfl) _ _ rfl (.agg (bA s1)) (fun w => by kernel_rfl) ?_; go_frame)
  refine (cap7 1 s1 s1_length s1_lt HA2.out (by decide) (by omega)).mono ?_
  rw [Hm2.out, anchor_2]
  rintro e w3 ⟨rfl, hT⟩
  have Hb3 := Lib.hid (hT.bel HA2.out Hb2.out (Nat.le_refl _))
  obtain ⟨l3, hA3, hm3, _, _⟩ := hT
  have HA3 := Lib.hid hA3
  have Hm3 := Lib.hid hm3
  clear hA3 hm3 hl2 HA2 Hb2 Hm2
  go_wp2_with fail
  refine (dcount HA3.out).mono ?_
  rintro e w4 ⟨rfl, rfl⟩
  go_wp2_with fail
  refine (cst7 0 HA3.out).mono ?_
  rw [Hm3.out]
  rw [show stD [⟨2, 0, false, 0, [s1]⟩, zs0 2] 0 = 1 from rfl]
  rintro e w5 ⟨rfl, hb5⟩
  have Hb5 := Lib.hid (bthen Hb3.out hb5)
  clear hb5
  go_wp2_with fail
  go_ret
  exact ⟨rfl, Hb5.out⟩

/-- What stands while a law goes on: the device, the document's zones, its device at block X. -/
structure LvI (w : World) (D X : Nat) (vz v7 : Value) (d : DvR) (l : List ZcR) (W : World) : Prop where
  dv : DvAt w.heap.size W D vz d l
  doc : Doc w.heap.size W v7 (l.map ZcR.z)
  bX : Blk W X 31 (d7A (dd7 d) v7)
  B : Below w.heap.size w W
  loX : w.heap.size ≤ X
section
variable {w W W' W1 W2 W3 : World} {D X : Nat} {vz v7 v8 : Value} {d : DvR} {l : List ZcR} {R : OutR}
theorem LvI.below (h : LvI w D X vz v7 d l W) (hb : Below W.heap.size W W') : LvI w D X vz v7 d l W' := ⟨h.dv.below hb, h.doc.below hb, h.bX.below hb h.bX.lt, h.B.trans (hb.mono h.B.size), h.loX⟩
/-- Behind a step, and the store of what it told. -/
theorem LvI.next (h : LvI w D X vz v7 d l W) (hd : Doc w.heap.size W' v8 R.zs) (hT : DvTo w.heap.size W D vz l R.d R.zs W') (hX : Blk W3 X 31 (d7A (dd7 R.d) v8)) (hk : Kept (· = X) W' W3) : ∃ l', LvI w D X vz v8 R.d l' W3 ∧ l'.map ZcR.z = R.zs := by
  have hbX := hT.blk h.dv h.bX (by decide) (by decide) (by decide) (by decide)
  have hB := hT.bel h.dv h.B (Nat.le_refl _)
  obtain ⟨l', k1, k2, k3, k4⟩ := hT
  rw [← k2] at hd
  exact ⟨l', ⟨k1.kept hk (fun i hi e => k1.notblk hbX (by decide) (by decide) (by decide) (by decide) (e ▸ hi)), hd.keptB hbX (by decide) (by decide) hk, hX, bkept hB (Nat.le_refl _) hk (fun i hi e => by have := h.loX; omega), h.loX⟩, k2⟩
theorem LvI.slice (h : LvI w D X vz v7 d l W) : ∃ a n c, v7 = .slice a n c := by
  obtain ⟨l7, r, _⟩ := h.doc
  obtain ⟨a, c, e⟩ := own_slice r.own
  exact ⟨a, _, c, e⟩
/-- Another block stays over a step. -/
theorem LvI.other (h : LvI w D X vz v7 d l W) {g : Nat} {t : TypeId} {cs : Array Value} (hT : DvTo w.heap.size W D vz l R.d R.zs W') (hk : Kept (· = X) W' W3) (hg : Blk W g t cs) (h1 : t ≠ 61) (h2 : t ≠ 62) (h3 : t ≠ 88) (h4 : t ≠ 34) (hgX : g ≠ X) : Blk W3 g t cs := (hT.blk h.dv hg h1 h2 h3 h4).kept hk (fun e => hgX e)
end

end Go.Proofs.Ytlngdndamgopeaa

/-
  Layer 7 (zdev): the beginning of a law.
-/
namespace Go.Proofs.Ytlngdndamgopeaa
open Go.RowKit
set_option linter.unusedVariables false
set_option linter.unnecessarySimpa false
set_option linter.unusedSimpArgs false


section
variable {P : Program} {w : World} {ops : Array Oper} {rest : List Oper} {o : Oper} {a : Act} {Q : Exit → Act → World → Prop}
theorem wpl_load_op (hw : Region.wanted o (yielded ops a.tmps) = true) (ty : TypeId) (x : Operand) (ho : o.op = .load ty x) (b i : Nat) (hx : a.eval x = .pointer (some ⟨b, i, none⟩)) (it : Op7) (d : TypeDesc) (hc : w.rangeAt b i (opL it))
    (hu : P.underlying ty = some d) (hd : d.isRow = true) (hi : (P.info? ty).map (·.size) = some (opL it).length)
    (h : wpList P ops Q rest (a.put o.dst (.agg (opA it))) w) : wpList P ops Q (o :: rest) a w := by
  unfold wpList
  rw [if_pos hw]
  exact .inl (wp_load_mid ty x ho b i hx (opL it) d hc hu hd hi h)
end
theorem Try.infoOpL {it : Op7} (h : it.s.length = 64) : (Try.prog.info? 37).map (·.size) = some (opL it).length := by rw [opL_length h]; exact Try.infoOp7
theorem opA_size {it : Op7} (h : it.s.length = 64) : (opA it).size = 68 := by show (opL it).toArray.size = 68; rw [List.size_toArray, opL_length h]
theorem opA_one (it : Op7) : (opA it).all (·.oneCell') = true := by
  refine all_oneCell_toArray (fun v hv => ?_)
  unfold opL at hv
  rcases List.mem_append.1 hv with h | h
  · rcases List.mem_append.1 h with h | h
    · simp at h; rcases h with rfl | rfl | rfl <;> rfl
    · exact bvals_one _ v h
  · simp at h; subst h; rfl
theorem bvals_zeros : bvals (zeros 64) = List.replicate 64 (.int .u8 0) := by simp [bvals, zeros]
def op0 : Op7 := ⟨0, 0, 0, zeros 64, none, 0, 0, []⟩
theorem right_yes (z s o : Int) (w : World) (h1 : 1 ≤ z) (h2 : z ≤ 512) (h3 : 1 ≤ s) (h4 : s ≤ 64) (h5 : 1 ≤ o) (h6 : o ≤ 64) : Calls Try.prog 10 #[.int .i64 z, .int .i64 s, .int .i64 o] w fun e w' => e = .returned (.bool true) ∧ w = w' := by
  have d1 : decide (z ≥ 1) = true := decide_eq_true h1
  have d2 : decide (z ≤ 512) = true := decide_eq_true h2
  have d3 : decide (s ≥ 1) = true := decide_eq_true h3
  have d4 : decide (s ≤ 64) = true := decide_eq_true h4
  have d5 : decide (o ≥ 1) = true := decide_eq_true h5
  have d6 : decide (o ≤ 64) = true := decide_eq_true h6
  go_enter Try.func10, Try.ntmps10
  go_wp2_with fail
  go_ret
  exact ⟨rfl, rfl⟩
set_option maxRecDepth 100000 in
set_option maxHeartbeats 2000000 in
theorem right_n0 (z s o : Int) (w : World)  (hn : z < 1) : Calls Try.prog 10 #[.int .i64 z, .int .i64 s, .int .i64 o] w fun e w' => e = .returned (.bool false) ∧ w = w' := by
  go_enter Try.func10, Try.ntmps10
  go_wp2_with fail
  go_ret
  exact ⟨ret_bool (by first | rfl | exact decide_eq_false (by omega)), rfl⟩
set_option maxRecDepth 100000 in
set_option maxHeartbeats 2000000 in
theorem right_n1 (z s o : Int) (w : World) (h0 : 1 ≤ z) (hn : 512 < z) : Calls Try.prog 10 #[.int .i64 z, .int .i64 s, .int .i64 o] w fun e w' => e = .returned (.bool false) ∧ w = w' := by
  go_enter Try.func10, Try.ntmps10
  go_wp2_with fail
  go_ret
  exact ⟨ret_bool (by first | rfl | exact decide_eq_false (by omega)), rfl⟩
set_option maxRecDepth 100000 in
set_option maxHeartbeats 2000000 in
theorem right_n2 (z s o : Int) (w : World) (h0 : 1 ≤ z) (h1 : z ≤ 512) (hn : s < 1) : Calls Try.prog 10 #[.int .i64 z, .int .i64 s, .int .i64 o] w fun e w' => e = .returned (.bool false) ∧ w = w' := by
  go_enter Try.func10, Try.ntmps10
  go_wp2_with fail
  go_ret
  exact ⟨ret_bool (by first | rfl | exact decide_eq_false (by omega)), rfl⟩
set_option maxRecDepth 100000 in
set_option maxHeartbeats 2000000 in
theorem right_n3 (z s o : Int) (w : World) (h0 : 1 ≤ z) (h1 : z ≤ 512) (h2 : 1 ≤ s) (hn : 64 < s) : Calls Try.prog 10 #[.int .i64 z, .int .i64 s, .int .i64 o] w fun e w' => e = .returned (.bool false) ∧ w = w' := by
  go_enter Try.func10, Try.ntmps10
  go_wp2_with fail
  go_ret
  exact ⟨ret_bool (by first | rfl | exact decide_eq_false (by omega)), rfl⟩
set_option maxRecDepth 100000 in
set_option maxHeartbeats 2000000 in
theorem right_n4 (z s o : Int) (w : World) (h0 : 1 ≤ z) (h1 : z ≤ 512) (h2 : 1 ≤ s) (h3 : s ≤ 64) (hn : o < 1) : Calls Try.prog 10 #[.int .i64 z, .int .i64 s, .int .i64 o] w fun e w' => e = .returned (.bool false) ∧ w = w' := by
  go_enter Try.func10, Try.ntmps10
  go_wp2_with fail
  go_ret
  exact ⟨ret_bool (by first | rfl | exact decide_eq_false (by omega)), rfl⟩
set_option maxRecDepth 100000 in
set_option maxHeartbeats 2000000 in
theorem right_n5 (z s o : Int) (w : World) (h0 : 1 ≤ z) (h1 : z ≤ 512) (h2 : 1 ≤ s) (h3 : s ≤ 64) (h4 : 1 ≤ o) (hn : 64 < o) : Calls Try.prog 10 #[.int .i64 z, .int .i64 s, .int .i64 o] w fun e w' => e = .returned (.bool false) ∧ w = w' := by
  go_enter Try.func10, Try.ntmps10
  go_wp2_with fail
  go_ret
  exact ⟨ret_bool (by first | rfl | exact decide_eq_false (by omega)), rfl⟩
theorem right_no (z s o : Int) (w : World) (h : ¬ ((1 ≤ z ∧ z ≤ 512) ∧ (1 ≤ s ∧ s ≤ 64) ∧ 1 ≤ o ∧ o ≤ 64)) : Calls Try.prog 10 #[.int .i64 z, .int .i64 s, .int .i64 o] w fun e w' => e = .returned (.bool false) ∧ w = w' := by
  by_cases h0 : 1 ≤ z
  · by_cases h1 : z ≤ 512
    · by_cases h2 : 1 ≤ s
      · by_cases h3 : s ≤ 64
        · by_cases h4 : 1 ≤ o
          · exact right_n5 z s o w h0 h1 h2 h3 h4 (by omega)
          · exact right_n4 z s o w h0 h1 h2 h3 (by omega)
        · exact right_n3 z s o w h0 h1 h2 (by omega)
      · exact right_n2 z s o w h0 h1 (by omega)
    · exact right_n1 z s o w h0 (by omega)
  · exact right_n0 z s o w (by omega)
theorem stD_at {l : List ZcR} {q : Nat} {c : ZcR} (hc : l[q]? = some c) : stD (l.map ZcR.z) (q : Int) = stS c.z := by
  have hq : q < l.length := (List.getElem?_eq_some_iff.1 hc).1
  unfold stD
  rw [if_pos (by unfold dhB; simp; omega), zsat_of (zof hc)]
theorem doc_start {lo : Nat} {w : World} {v : Value} {n : Nat} {size : Int} (h : 1 ≤ size ∧ size ≤ 64) (hr : Row7 lo w v (l70 n)) : Doc lo w v (List.replicate n (zs0 size)) := ⟨l70 n, hr, by unfold l70; rw [List.map_replicate, List.map_replicate, rz_zero h]⟩

end Go.Proofs.Ytlngdndamgopeaa

/-
  Layer 7 (zdev): All of a zone of sectors, as a range over a function gives it; Look.
-/
namespace Go.Proofs.Ytlngdndamgopeaa
open Go.RowKit
set_option linter.unusedVariables false
set_option linter.unnecessarySimpa false
set_option linter.unusedSimpArgs false


/-- A sector, whatever is given. -/
def nrm (s : List Nat) : List Nat := if s.length = 64 then s else zeros 64
theorem nrm_of {s : List Nat} (h : s.length = 64) : nrm s = s := if_pos h
theorem nrm_length (s : List Nat) : (nrm s).length = 64 := by
  unfold nrm
  split
  · assumption
  · exact zeros_length 64
def encQ (x : Nat × List Nat) : Array Value := #[.int .i64 (x.1 : Int), .agg (bA (nrm x.2))]
def numq (ss : List (List Nat)) (k : Nat) : List (Nat × List Nat) := (List.range k).map (fun i => (i, ss.getD i []))
theorem numq_succ (ss : List (List Nat)) (k : Nat) : numq ss (k + 1) = numq ss k ++ [(k, ss.getD k [])] := by simp [numq, List.range_succ]
theorem numq_length (ss : List (List Nat)) (k : Nat) : (numq ss k).length = k := by simp [numq]
theorem numq_prefix (ss : List (List Nat)) (k n : Nat) (h : k ≤ n) : numq ss k <+: numq ss n := by
  induction n with
  | zero => obtain rfl : k = 0 := by omega
            exact List.prefix_refl _
  | succ n ih =>
    by_cases hk : k = n + 1
    · subst hk; exact List.prefix_refl _
    · rw [numq_succ]
      exact (ih (by omega)).trans (List.prefix_append _ _)
theorem numq_get {ss : List (List Nat)} {n : Nat} {x : Nat × List Nat} {pre : List (Nat × List Nat)} (h : pre ++ [x] <+: numq ss n) : x = (pre.length, ss.getD pre.length []) ∧ pre.length < n := by
  obtain ⟨t, ht⟩ := h
  have h1 : (numq ss n)[pre.length]? = some x := by rw [← ht]; simp
  unfold numq at h1
  rw [List.getElem?_map] at h1
  cases hr : (List.range n)[pre.length]? with
  | none => rw [hr] at h1; cases h1
  | some i =>
    rw [hr] at h1
    obtain ⟨hi, he⟩ := List.getElem?_eq_some_iff.1 hr
    simp at he h1
    refine ⟨?_, by simpa using hi⟩
    rw [← h1, he]
    simp [List.getD]

section
variable {F : Fence} {n : Nat} {P : Program} {w w' : World} {ops : Array Oper} {rest : List Oper} {o : Oper} {a : Act} {Q : Exit → Act → World → Prop}
theorem wplIn_value (hg : o.guard = none) (v : Value) (hab : o.about P w a.eval = none) (hnd : ∀ c, o.op ≠ .defer c) (hrun : (execOp a.eval o).run P w = .ok (.value v) w') (h : wpListIn F n P ops Q rest (a.put o.dst v) w') : wpListIn F n P ops Q (o :: rest) a w :=
  wpListIn_plain hg fun K hK => by
    unfold Oper.wpIn
    refine ⟨fun f hf => (by rw [hab] at hf; cases hf), ?_⟩
    rw [Oper.semAt_plain F _ _ hnd, hrun]
    exact hK _ _ h
theorem wplIn_skip (hg : o.guard = none) (hab : o.about P w a.eval = none) (hnd : ∀ c, o.op ≠ .defer c) (hrun : (execOp a.eval o).run P w = .ok .skip w') (h : wpListIn F n P ops Q rest (a.put o.dst undef) w') : wpListIn F n P ops Q (o :: rest) a w :=
  wpListIn_plain hg fun K hK => by
    unfold Oper.wpIn
    refine ⟨fun f hf => (by rw [hab] at hf; cases hf), ?_⟩
    rw [Oper.semAt_plain F _ _ hnd, hrun]
    exact hK _ _ h
/-- A byte array in the middle of a block is read whole; a block; one is written, that was just made. -/
theorem wplIn_load_b (hg : o.guard = none) (ty : TypeId) (x : Operand) (ho : o.op = .load ty x) (b i : Nat) (hx : a.eval x = .pointer (some ⟨b, i, none⟩)) (s : List Nat) (d : TypeDesc) (hc : w.rangeAt b i (bvals s))
    (hu : P.underlying ty = some d) (hd : d.isRow = true) (hi : (P.info? ty).map (·.size) = some (bvals s).length) (h : wpListIn F n P ops Q rest (a.put o.dst (.agg (bA s))) w) : wpListIn F n P ops Q (o :: rest) a w :=
  wplIn_value hg _ (by simp [Oper.about, ho]) (by rw [ho]; intro c h; cases h) (exec_load_b ty x ho b i hx s d hc hu hd hi) h
theorem wplIn_load (hg : o.guard = none) {ty : TypeId} (x : Operand) (ho : o.op = .load ty x) (g : Nat) (hx : a.eval x = .pointer (some ⟨g, 0, none⟩)) (t : TypeId) (cs : Array Value) (d : TypeDesc) (hb : Blk w g t cs)
    (hu : P.underlying ty = some d) (hd : (match d with | .struct _ | .array _ _ => true | _ => false) = true) (hi : (P.info? ty).map (·.size) = some cs.size)
    (h : wpListIn F n P ops Q rest (a.put o.dst (.agg cs)) w) : wpListIn F n P ops Q (o :: rest) a w :=
  wplIn_value hg _ (by simp [Oper.about, ho]) (by rw [ho]; intro c h; cases h) (exec_load x ho g hx hb hu hd hi) h
theorem wplIn_store_new (hg : o.guard = none) {ty : TypeId} (x y : Operand) (ho : o.op = .store ty x y) (cs : Array Value) (w0 : World) (t : TypeId) (old : Array Value) (hw : w = w0.alloc (.cells old t)) (hx : a.eval x = .pointer (some ⟨w0.heap.size, 0, none⟩)) (hy : a.eval y = .agg cs)
    (hi : (P.info? ty).map (·.size) = some cs.size) (hold : old.size = cs.size) (h1 : cs.all (·.oneCell') = true)
    (h : wpListIn F n P ops Q rest (a.put o.dst undef) (w0.alloc (.cells cs t))) : wpListIn F n P ops Q (o :: rest) a w := by
  subst hw
  refine wplIn_skip hg (by simp [Oper.about, ho]) (by rw [ho]; intro c h; cases h) ?_ h
  unfold execOp
  simp only [ho, hx, hy, Instr.storeAt, Instr.sureAddr, Sem.run_bind, Sem.run_pure, Result.andThen_ok, run_storeVar_row _ w0.heap.size t ty old cs (heap_alloc_new w0 _) hi hold h1]
  rw [setRow_new]
end

theorem zallF {A : Nat} (w : World) :
    Calls Try.prog 62 #[.pointer (some ⟨A, 0, none⟩)] w fun e w' => e = .returned (.func (.func 66) #[] #[.pointer (some ⟨w.heap.size, 0, none⟩)]) ∧ w' = w.alloc (Obj.cells #[.pointer (some ⟨A, 0, none⟩)] 62) := by
  go_enter Try.func62, Try.ntmps62
  go_wp2_with fail
  go_ret
  exact ⟨rfl, rfl⟩

section
variable {lo A Bp : Nat} {v : Value} {z : ZsR}

set_option maxRecDepth 100000 in
set_option maxHeartbeats 1000000 in
theorem allF_none (n : Nat) (hn : 1 ≤ n) (l : Nat) (J Jx : List (Nat × List Nat) → World → Prop) (W : World) (hz : ZsAt 88 34 lo W A v z) (h00 : z.ss.length = 0) (hB : W.cell? ⟨Bp, 0, none⟩ = some (.pointer (some ⟨A, 0, none⟩))) (h0 : J [] W) :
    CallsIn Fence.wide n Try.prog 66 #[.func (.yield l) #[] #[], .pointer (some ⟨Bp, 0, none⟩)] W fun e W' => (∃ v, e = .returned v) ∧ J [] W' := by
  obtain ⟨a, cap, rfl, hc1, hc2⟩ := hz.slice
  rw [h00] at *
  have c1 : W.cell? ⟨A, 1, none⟩ = some (.slice a 0 cap) := (hz.blk.cell 1).trans (by rw [← h00]; rfl)
  clear hz h00
  refine callsIn_of_wp Try.func66 rfl trivial ?_ rfl
  simp only [Try.ntmps66, List.size_toArray, List.length_cons, List.length_nil, Nat.reduceAdd, Nat.reduceSub, Array.replicate_succ, Array.replicate_zero, List.push_toArray, List.append_toArray, List.nil_append, List.cons_append]
  gi_wp2
  gi_loopw [10] (fun i wr => i = .int .i64 0 ∧ J [] wr) (fun _ _ => 0)
  case atStart => exact ⟨rfl, h0⟩
  case round =>
    obtain ⟨rfl, hJs⟩ := hrel
    gi_wp2
    go_end0
    exact ⟨⟨_, rfl⟩, hJs⟩

set_option maxRecDepth 100000 in
set_option maxHeartbeats 2000000 in
theorem allF_some (n : Nat) (hn : 1 ≤ n) (l : Nat) (J Jx : List (Nat × List Nat) → World → Prop) (W : World) (hJ : AbidesFrom W.heap.size J) (hz : ZsAt 88 34 lo W A v z) (hok : ZsOk z) (h00 : 0 < z.ss.length)
    (hY : ∀ pre x W1, J pre W1 → pre.length < z.ss.length → YieldAt Fence.wide (n - 1) Try.prog l (encQ x) W1 fun e W' => (e = .returned (.bool true) ∧ J (pre ++ [x]) W' ∧ KpRow v W1 W') ∨ (e = .returned (.bool false) ∧ Jx (pre ++ [x]) W'))
    (hB : W.cell? ⟨Bp, 0, none⟩ = some (.pointer (some ⟨A, 0, none⟩))) (h0 : J [] W) :
    CallsIn Fence.wide n Try.prog 66 #[.func (.yield l) #[] #[], .pointer (some ⟨Bp, 0, none⟩)] W fun e W' => (∃ v, e = .returned v) ∧ ((∃ ys, ys = numq z.ss z.ss.length ∧ J ys W') ∨ (∃ pre, pre <+: numq z.ss z.ss.length ∧ Jx pre W')) := by
  obtain ⟨a, cap, rfl, hc1, hc2⟩ := hz.slice
  have hl : z.ss.length ≤ 64 := by have := hok.len; have := hok.size.2; omega
  have Hz := Lib.hid hz
  obtain ⟨g, rfl, _, hgl⟩ := ownK_form hz.own h00
  have c1 : W.cell? ⟨A, 1, none⟩ = some (.slice (some ⟨g, 0, none⟩) z.ss.length cap) := (hz.blk.cell 1).trans rfl
  unfold maxLen at hc2
  have HY := Lib.hid hY
  have HJ := Lib.hid hJ
  have H64 := Lib.hid hok.w64
  have hz64 := zero_secF
  clear hz hY hJ hok
  refine callsIn_of_wp Try.func66 rfl trivial ?_ rfl
  simp only [Try.ntmps66, List.size_toArray, List.length_cons, List.length_nil, Nat.reduceAdd, Nat.reduceSub, Array.replicate_succ, Array.replicate_zero, List.push_toArray, List.append_toArray, List.nil_append, List.cons_append]
  gi_wp2
  gi_loopw [10] (fun i wr => ∃ k : Nat, k ≤ z.ss.length ∧ i = .int .i64 k ∧ J (numq z.ss k) wr ∧ KpRow (.slice (some ⟨g, 0, none⟩) z.ss.length cap) W wr) (fun i _ => z.ss.length - (intOf i).toNat)
  case atStart => exact ⟨0, Nat.zero_le _, rfl, h0, KpRow.refl _ _⟩
  case round =>
    obtain ⟨k, hk, rfl, hJk, hK⟩ := hrel
    by_cases hlt : k < z.ss.length
    · have hown := ownK_same Hz.out.own hK
      have hrg := own_range hown rfl H64.out k hlt
      have h6 := getD_64 H64.out k hlt
      have hglr := own_lt hown (g := g) rfl
      have He := Lib.hid (numq_succ z.ss k)
      have HJ2 : Hid (J (numq z.ss k) (wr.alloc (Obj.cells (bA (z.ss.getD k [])) 34))) := Lib.hid (HJ.out _ _ _ none hJk (World.grownBy_alloc wr _ none) (fun r e => by cases e))
      have HK := Lib.hid (hK.trans (fun g' hg' => Below.heap_alloc wr (Obj.cells (bA (z.ss.getD k [])) 34) g' (own_lt hown hg')))
      obtain ⟨fn, tmps, assign, body, hy, hR⟩ := HY.out _ (k, z.ss.getD k []) _ HJ2.out (by rw [numq_length]; exact hlt)
      unfold encQ at hy
      dsimp only at hy
      rw [nrm_of h6] at hy
      generalize z.ss.getD k [] = X at *
      have HX := Lib.hid (Blk.new wr 34 (bA X))
      have Hrg := Lib.hid hrg
      have H6 := Lib.hid h6
      clear hK hown hrg h6 hJk hglr
      gi_wp2_with (first | (refine wplIn_load_b rfl _ _ rfl g (k * 64) rfl X _ Hrg.out Try.underlying34 rfl (by rw [bvals_length]; exact (info_sec H6.out).trans (by rw [bA_size])) ?_; go_frame) | (refine wplIn_store_new rfl _ _ rfl (bA X) wr 34 (bA (zeros 64)) rfl rfl rfl (info_sec H6.out) (by rw [bA_size, bA_size, zeros_length, H6.out]) (bA_one _) ?_; go_frame) | (refine wplIn_load rfl _ rfl (wr.heap.size) rfl _ _ _ (HX.out) Try.underlying34 rfl (info_sec H6.out) ?_; go_frame))
      refine hR.mono ?_
      rintro e W3 (⟨rfl, hJ3, hk3⟩ | ⟨rfl, hJx3⟩)
      · gi_wp2
        go_roundw
        case rel => exact ⟨k + 1, by omega, by go_num, by rw [He.out]; exact hJ3, HK.out.trans hk3⟩
        case measure => simp [intOf]; omega
      · gi_wp2
        refine bodyPost_ret (results_none rfl _ _ _) rfl ?_
        exact ⟨⟨_, rfl⟩, .inr ⟨_, by rw [← He.out]; exact numq_prefix _ _ _ (by omega), hJx3⟩⟩
    · obtain rfl : k = z.ss.length := by omega
      gi_wp2
      go_end0
      exact ⟨⟨_, rfl⟩, .inl ⟨_, rfl, hJk⟩⟩

theorem allF_gives (n : Nat) (hn : 1 ≤ n) (w : World) (hz : ZsAt 88 34 lo w A v z) (hok : ZsOk z) (hB : Blk w Bp 62 #[.pointer (some ⟨A, 0, none⟩)]) :
    SeqStopsK Fence.wide n Try.prog 66 #[.pointer (some ⟨Bp, 0, none⟩)] encQ (KpRow v) (fun ys => ys = numq z.ss z.ss.length) (fun pre => pre <+: numq z.ss z.ss.length) z.ss.length w := by
  intro l J Jx W hW hJ _ hY h0
  have hz' := hz.below hW
  have hB' := ((hB.below hW hB.lt).cell 0).trans (rfl : (#[Value.pointer (some ⟨A, 0, none⟩)] : Array Value)[0]? = some (.pointer (some ⟨A, 0, none⟩)))
  by_cases h00 : z.ss.length = 0
  · refine (allF_none n hn l J Jx W hz' h00 hB' h0).mono ?_
    rintro e W' ⟨he, hJ⟩
    refine ⟨he, .inl ⟨[], ?_, hJ⟩⟩
    rw [h00]; rfl
  · exact allF_some n hn l J Jx W hJ hz' hok (by omega) hY hB' h0

/-- Look of a zone that isn't there. -/
theorem lookF_gives (n : Nat) (w : World) : SeqStopsK Fence.wide n Try.prog 61 #[] encQ (fun _ _ => True) (fun ys => ys = []) (fun pre => pre = []) 0 w := by
  intro l J Jx W hW hJ _ hY h0
  refine callsIn_of_wp Try.func61 rfl trivial ?_ rfl
  simp only [Try.ntmps61, List.size_toArray, List.length_cons, List.length_nil, Nat.reduceAdd, Nat.reduceSub, Array.replicate_succ, Array.replicate_zero, List.push_toArray, List.append_toArray, List.nil_append, List.cons_append]
  gi_wp2
  go_end0
  exact ⟨⟨_, rfl⟩, .inl h0⟩
end

set_option maxRecDepth 100000 in
set_option maxHeartbeats 2000000 in
theorem dlk_no {lo D : Nat} {w : World} {vz : Value} {d : DvR} {l : List ZcR} (z : Int) (h : DvAt lo w D vz d l) (hh : dhB l.length z = false) : Calls Try.prog 41 #[.pointer (some ⟨D, 0, none⟩), .int .i64 z] w fun e w' => e = .returned (.func (.func 61) #[] #[]) ∧ w = w' := by
  have Hh := Lib.hid hh
  have H := Lib.hid h
  clear h hh
  go_enter Try.func41, Try.ntmps41
  go_wp2_with fail
  refine (dhol z H.out).mono ?_
  rintro e w1 ⟨rfl, rfl⟩
  rw [Hh.out]
  go_wp2_with fail
  go_ret
  exact ⟨rfl, rfl⟩

set_option maxRecDepth 100000 in
set_option maxHeartbeats 2000000 in
theorem dlk_ok {lo D : Nat} {w : World} {vz : Value} {d : DvR} {l : List ZcR} {k : Nat} {c : ZcR} (h : DvAt lo w D vz d l) (hc : l[k]? = some c) : Calls Try.prog 41 #[.pointer (some ⟨D, 0, none⟩), .int .i64 (k : Nat)] w fun e w' => e = .returned (.func (.func 66) #[] #[.pointer (some ⟨w.heap.size, 0, none⟩)]) ∧ w' = w.alloc (Obj.cells #[.pointer (some ⟨c.A, 0, none⟩)] 62) := by
  have hk : k < l.length := (List.getElem?_eq_some_iff.1 hc).1
  have hh : dhB l.length (k : Int) = true := by unfold dhB; simp; omega
  obtain ⟨g, cap, rfl, q1, q2, hg⟩ := h.ptr hc
  unfold maxLen at q2
  have c0 : w.cell? ⟨D, 0, none⟩ = some (.slice (some ⟨g, 0, none⟩) l.length cap) := (h.blk.cell 0).trans rfl
  have Hh := Lib.hid hh
  have H := Lib.hid h
  clear h hh hc
  go_enter Try.func41, Try.ntmps41
  go_wp2_with fail
  refine (dhol (k : Int) H.out).mono ?_
  rintro e w1 ⟨rfl, rfl⟩
  rw [Hh.out]
  go_wp2_with fail
  refine (zallF w).mono ?_
  rintro e w1 ⟨rfl, hw1⟩
  have Hw1 := Lib.hid hw1
  clear hw1 hg c0
  go_wp2_with fail
  go_ret
  exact ⟨rfl, Hw1.out⟩

end Go.Proofs.Ytlngdndamgopeaa

/-
  A drawn region that only reads, walked operation by operation at one world; also within a range over a function's round. No Go text here.
-/
namespace Go.Proofs.Ytlngdndamgopeaa
open Go.RowKit
set_option linter.unusedVariables false
set_option linter.unusedSimpArgs false

section
variable {P : Program} {md : Region.Mode} {ops : Array Oper} {Qn : Act → Prop} {w0 : World}
/-- In state a, at world w0, o leaves v and does nothing else. -/
def YieldsR (P : Program) (ops : Array Oper) (w0 : World) (o : Oper) (v : Value) (a : Act) : Prop :=
  (∀ c, o.op ≠ .defer c) ∧ ((Region.wanted o (yielded ops a.tmps) = true ∧ (execOp a.eval o).run P w0 = .ok (.value v) w0) ∨ (Region.wanted o (yielded ops a.tmps) = false ∧ v = undef))
/-- Whatever order is picked, each operation only reads. -/
def RdAny (P : Program) (md : Region.Mode) (ops : Array Oper) (Qn : Act → Prop) (w0 : World) : Nat → Array Bool → Act → Prop
  | 0, listed, a => Region.ready md ops listed = [] ∧ Qn a
  | fuel + 1, listed, a => (Region.ready md ops listed = [] → Qn a) ∧ ∀ i ∈ Region.ready md ops listed, ∃ o v, ops[i]? = some o ∧ YieldsR P ops w0 o v a ∧ RdAny P md ops Qn w0 fuel (listed.setIfInBounds i true) (a.put o.dst v)
theorem YieldsR.putR {oi oj : Oper} {v u : Value} {a : Act} (hap : oi.apart ops oj = true) (hsj : ∀ cs b, oj.op ≠ .select cs b) : YieldsR P ops w0 oj u (a.put oi.dst v) ↔ YieldsR P ops w0 oj u a := by
  obtain ⟨h1, h2, h3⟩ := Oper.apart_spec hap
  unfold YieldsR
  rw [execOp_put oj hsj a oi.dst v h1, wanted_put oj a oi.dst v h1]
theorem YieldsR.keep {oi oj : Oper} {v u : Value} {a : Act} (hap : oi.apart ops oj = true) (hsi : ∀ cs b, oi.op ≠ .select cs b) (h : YieldsR P ops w0 oi v a) : YieldsR P ops w0 oi v (a.put oj.dst u) := by
  obtain ⟨h1, h2, h3⟩ := Oper.apart_spec hap
  unfold YieldsR at *
  rw [execOp_put oi hsi a oj.dst u h3, wanted_put oi a oj.dst u h3]
  exact h
theorem RdAny.first {i : Nat} {oi : Oper} {v : Value} (hi : ops[i]? = some oi) (hsel : ∀ (j : Nat) (o : Oper) cs b, ops[j]? = some o → o.op ≠ .select cs b) :
    ∀ (fuel : Nat) (listed : Array Bool) (a : Act),
      (∀ j oj, ops[j]? = some oj → j ≠ i → listed.getD j true = false → (∀ e ∈ oj.after, Region.binds md e = true → e.on ≠ i) → oi.apart ops oj = true) →
      i ∈ Region.ready md ops listed → YieldsR P ops w0 oi v a → RdAny P md ops Qn w0 fuel (listed.setIfInBounds i true) (a.put oi.dst v) → RdAny P md ops Qn w0 (fuel + 1) listed a := by
  intro fuel
  induction fuel with
  | zero =>
    intro listed a _ hr hy H
    refine ⟨fun h => absurd hr (by rw [h]; simp), fun j hj => ?_⟩
    by_cases e : j = i
    · subst e; exact ⟨oi, v, hi, hy, H⟩
    · have := ready_mono hj e
      rw [H.1] at this
      cases this
  | succ fuel ih =>
    intro listed a hfree hr hy H
    refine ⟨fun h => absurd hr (by rw [h]; simp), fun j hj => ?_⟩
    by_cases e : j = i
    · subst e; exact ⟨oi, v, hi, hy, H⟩
    · obtain ⟨oj, u, hoj, hyj, Hj⟩ := H.2 j (ready_mono hj e)
      obtain ⟨hjun, oj', hoj', hall⟩ := mem_ready.1 hj
      obtain rfl : oj = oj' := by rw [hoj] at hoj'; exact Option.some.inj hoj'
      have hno : ∀ d ∈ oj.after, Region.binds md d = true → d.on ≠ i := fun d hd hb heq => by
        have q1 := hall d hd hb
        have q0 := (mem_ready.1 hr).1
        rw [heq] at q1
        rcases Nat.lt_or_ge i listed.size with h' | h'
        · simp [h'] at q0 q1; rw [q0] at q1; cases q1
        · simp [Array.getElem?_eq_none h'] at q1
      have hap := hfree j oj hoj e hjun hno
      obtain ⟨_, h2, _⟩ := Oper.apart_spec hap
      refine ⟨oj, u, hoj, (YieldsR.putR hap (fun cs b => hsel j oj cs b hoj)).1 hyj, ih _ _ (fun k ok hk hki hun hn => ?_) (ready_mono hr (Ne.symm e)) (YieldsR.keep hap (fun cs b => hsel i oi cs b hi) hy) ?_⟩
      · refine hfree k ok hk hki ?_ hn
        by_cases hjk : j = k
        · subst hjk; exact hjun
        · rw [getD_set_ne true hjk] at hun; exact hun
      · rw [Array.setIfInBounds_comm _ _ e, ← Act.put_comm a v u h2]
        exact Hj
/-- The same, with sides that are looked up. -/
theorem takeR {i d : Nat} {oi : Oper} {v : Value} {fuel : Nat} {listed : Array Bool} {a : Act} (hi : ops[i]? = some oi) (hd : oi.dst = some d)
    (hs : Region.noSelect ops = true) (hf : Region.free md ops listed i = true) (hr : (Region.ready md ops listed).contains i = true) (hnd : ∀ c, oi.op ≠ .defer c)
    (hy : (Region.wanted oi (yielded ops a.tmps) = true ∧ (execOp a.eval oi).run P w0 = .ok (.value v) w0) ∨ (Region.wanted oi (yielded ops a.tmps) = false ∧ v = undef))
    (h : RdAny P md ops Qn w0 fuel (listed.setIfInBounds i true) (a.put (some d) v)) : RdAny P md ops Qn w0 (fuel + 1) listed a :=
  RdAny.first hi (Region.noSelect_spec hs) fuel listed a (Region.free_spec hi hf) (by simpa using hr) ⟨hnd, hy⟩ (by rw [hd]; exact h)
theorem RdAny.done {listed : Array Bool} {a : Act} (hr : Region.ready md ops listed = []) (h : Qn a) : ∀ fuel, RdAny P md ops Qn w0 fuel listed a
  | 0 => ⟨hr, h⟩
  | _ + 1 => ⟨fun _ => h, by rw [hr]; simp⟩
/-- It holds within a fence that asks nothing. -/
theorem RdAny.toIn {F : Fence} {n : Nat} {Q : Exit → Act → World → Prop} (hF : ∀ f, F.fn f) (hQ : ∀ a, Qn a → Q .normal a w0) : ∀ (fuel : Nat) (listed : Array Bool) (a : Act), RdAny P md ops Qn w0 fuel listed a → wpAnyIn F n P md ops Q fuel listed a w0
  | 0, _, a, h => ⟨h.1, hQ a h.2⟩
  | fuel + 1, listed, a, h => ⟨fun e => hQ a (h.1 e), fun i hi => by
      obtain ⟨o, v, ho, ⟨hnd, hy⟩, H⟩ := h.2 i hi
      have ih := RdAny.toIn (n := n) hF hQ fuel _ _ H
      unfold wpOpIn
      simp only [ho]
      rcases hy with ⟨hw, hrun⟩ | ⟨hw, rfl⟩
      · rw [if_pos hw]
        unfold Oper.wpIn
        refine ⟨fun f _ => hF f, ?_⟩
        rw [Oper.semAt_plain F _ _ hnd, hrun]
        exact ih
      · rw [if_neg (by rw [hw]; decide)]
        exact ⟨fun f _ => hF f, ih⟩⟩
/-- The beginning. -/
theorem wpIn_region_reads {F : Fence} {n id : Nat} {Q : Exit → Act → World → Prop} {a : Act} {w : World} (hm : P.follows .mixedOrders = true) (hF : ∀ f, F.fn f)
    (h : RdAny P .any ops (fun a' => Q .normal a' w.drew) w.drew ops.size (Array.replicate ops.size false) a) : (Code.region id ops true).wpIn F n P Q a w :=
  wpIn_region_any hm (RdAny.toIn hF (fun _ h => h) _ _ _ h)
end

/-- A range over an iterator, whose rounds each lay their last loop variable anew in a block. -/
theorem wp_rangeB {α : Type} {P : Program} {g : Operand} {ps : Array Tmp} {assign body : Code} {Q : Exit → Act → World → Prop} {a : Act} {w : World} {gf : Nat} {lb : Array Value} {encs : α → Array Value} {Kp : World → World → Prop} {S Sp : List α → Prop} {N : Nat}
    (hg : a.eval g = .func (.func gf) #[] lb) (eg : ∀ args w, (callFunc gf args).run P w = .ok (.enter gf args) w) {w0 : World} (hseq : SeqStopsK Fence.wide 7 P gf lb encs Kp S Sp N w0)
    (hKt : ∀ {A B C : World}, Kp A B → Kp B C → Kp A C) (hKb : ∀ (W : World) (l : Nat) (o o' : Obj), w.heap.size ≤ l → W.heap[l]? = some o → o.isCells = false → o.isWalk = false → Kp W (W.putObj l o')) (hb0 : Below w0.heap.size w0 w) (hps : ∀ x, (encs x).size = ps.size)
    (I : List α → World → Prop) (Ix : Code → List α → World → Prop) (hI : OwnFrom w.heap.size I) (hIx : ∀ c, OwnFrom w.heap.size (Ix c)) (h0 : I [] w) (T : TypeId) (box : α → Array Value) (a₁ : α → Nat → Act)
    (hKa : ∀ (pre : List α) (x : α) (W : World), I pre W → Kp W (W.alloc (.cells (box x) T)))
    (hassign : ∀ (l : Nat) (pre : List α) (x : α) (W : World) (K : Act → World → Prop), I pre W → K (a₁ x W.heap.size) (W.alloc (.cells (box x) T)) →
      assign.wpIn (Fence.wide.inRound l) 6 P (Exit.then K (fun _ _ _ => False)) { tmps := (ps.zip (encs x)).foldl (fun t (p, v) => t.setIfInBounds p v) a.tmps, defers := [] } W)
    (hbody : ∀ (l : Nat) (pre : List α) (x : α) (b : Nat) (W : World), I pre W → Blk W b T (box x) → pre.length < N → body.wpIn (Fence.wide.inRound l) 6 P (ownPostG w.heap.size Kp I Ix (pre ++ [x]) W) (a₁ x b) W)
    (hdone : ∀ (D : Nat) (ys : List α) (W : World), w.heap.size ≤ D → S ys → I ys W → W.heap[D]? = some (.deferred (some [])) → Q .normal { a with defers := { target := .collected D, args := #[] } :: a.defers } W)
    (hstop : ∀ (D : Nat) (c : Code) (pre : List α) (W : World), w.heap.size ≤ D → Sp pre → Ix c pre W → W.heap[D]? = some (.deferred (some [])) → c.wp P Q { a with defers := { target := .collected D, args := #[] } :: a.defers } W) :
    (Code.rangeFunc g ps assign body).wp P Q a w :=
  wpIn_wide.1 (wpIn_rangeFunc_ownH (n := 8) rfl (by decide) hg trivial eg hseq (fun h k => hKt h k) hKb hb0 hps I Ix hI hIx h0 (fun x a' W => ∃ b, Blk W b T (box x) ∧ a' = a₁ x b)
    (fun x a' s X Y row ⟨b, hb, e⟩ hg' hr => ⟨b, Own.from (blk_own (β := Unit) b T (fun _ => box x)) _ s X Y row hb hg' hr, e⟩)
    (fun l pre x W K hi hK => hassign l pre x W K hi (hK _ _ ((KeepsOthers.alloc _ _).from _) (hKa pre x W hi) (hI.alloc _ hi) ⟨_, Blk.new _ _ _, rfl⟩))
    (fun l pre x a' W _ _ hi ⟨b, hb, e⟩ hlt => by subst e; exact hbody l pre x b W hi hb hlt)
    hdone (fun D c pre W hD hp hi hk => wpIn_wide.2 (hstop D c pre W hD hp hi hk)))

end Go.Proofs.Ytlngdndamgopeaa

