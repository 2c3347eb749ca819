import Derived.Test.YtlngdndamgopeaaMg22
/-
  Layer 7 (zdev): what a step may change (plain); the anchor; what stands while a law goes on.
-/
namespace Go.Proofs.Ytlngdndamgopeaa
open Go.RowKit
set_option linter.unusedVariables false
set_option linter.unnecessarySimpa false
set_option linter.unusedSimpArgs false


section
variable {d : DvR} {zs : List ZsR} {o : Op7}
theorem opD_set1 (k : Nat) (z' : ZsR) : ∀ (zs : List ZsR), opD (zs.set k z') ≤ opD zs + 1 := by
  unfold opD
  induction k with
  | zero => intro zs; cases zs with
    | nil => simp
    | cons z zs => simp only [List.set_cons_zero, List.countP_cons]; split <;> split <;> omega
  | succ k ih => intro zs; cases zs with
    | nil => simp
    | cons z zs => simp only [List.set_cons_succ, List.countP_cons]; have := ih zs; omega
theorem opD_set0 (z' : ZsR) : ∀ (k : Nat) (zs : List ZsR) (z : ZsR), zs[k]? = some z → (stS z' = 1 → stS z = 1) → opD (zs.set k z') ≤ opD zs := by
  unfold opD
  intro k
  induction k with
  | zero => intro zs z hz h; cases zs with
    | nil => simp
    | cons y zs =>
      obtain rfl : y = z := by simpa using hz
      simp only [List.set_cons_zero, List.countP_cons]
      by_cases e : stS z' = 1
      · rw [if_pos (by simpa using e), if_pos (by simpa using h e)]; exact Nat.le_refl _
      · rw [if_neg (by simpa using e)]; omega
  | succ k ih => intro zs z hz h; cases zs with
    | nil => simp
    | cons y zs => simp only [List.set_cons_succ, List.countP_cons]; have := ih zs z (by simpa using hz) h; omega
theorem opD_zsat {zs : List ZsR} {k : Nat} (hk : k < zs.length) (z' : ZsR) (h : stS z' = 1 → stS (zsat zs (k : Int)) = 1) : opD (zs.set k z') ≤ opD zs := by
  obtain ⟨z, hz⟩ : ∃ z, zs[k]? = some z := ⟨_, List.getElem?_eq_getElem hk⟩
  rw [zsat_of hz] at h
  exact opD_set0 z' k zs z hz h
theorem st_rs {z : ZsR} (h : ZsOk z) (e : stS (rsS z) = 1) : stS z = 1 := by
  unfold rsS at e
  split at e
  · have h0 : stS (zs0 z.size) = 0 := congrArg R7z.state (rz_zero h.size)
    omega
  · exact e
theorem st_fn {z : ZsR} (h : ZsOk z) (e : stS (fnS z) = 1) : stS z = 1 := by
  unfold fnS at e
  split at e
  · rename_i h1
    have h2 : stS { z with fin := true } = 2 := by rw [stS_no (by exact (refS_zero h).1 h1), if_pos (.inl rfl)]
    omega
  · exact e
theorem st_fa {z : ZsR} (st : Int) (e : stS (faS z st) = 1) : stS z = 1 := by
  unfold faS at e
  split at e
  · rename_i h1
    have h2 : stS { z with failed := st } = st := stS_yes (by show st ≠ 0; omega)
    omega
  · exact e
theorem st_ch (z : ZsR) (off : Int) (p : List Nat) : stS (chS7 z off p) = stS z := by
  unfold chS7
  split
  · unfold stS; simp only [List.length_set]
  · rfl
theorem st_ap {z : ZsR} (s : List Nat) (hn : ¬ stS z = 0) (hz : ZsOk z) (e : stS (apSS z s) = 1) : stS z = 1 := by
  by_cases h : apES z = 0
  · obtain ⟨h1, h2, h3⟩ := apES_zero hz h
    rw [stS_no h1] at hn ⊢
    rw [if_neg (by rw [h2]; rintro (e' | e'); · cases e'
                   · exact h3 e')] at hn ⊢
    by_cases h4 : (z.ss.length : Int) = 0
    · rw [if_pos h4] at hn; exact absurd rfl hn
    · rw [if_neg h4]
  · rw [ap_no h] at e; exact e
theorem opD_map (zs : List ZsR) : opD (zs.mapIdx (fun _ => flS)) = opD zs := by
  rw [mapIdx_const]
  unfold opD
  rw [List.countP_map]
  rfl
/-- No step but 7 opens a zone beyond the limit. -/
theorem stSp_limit (sn : Sane d zs) (hk : o.k ≠ 7) : (opD (stSp d zs o).zs : Int) ≤ (opD zs : Int) ∨ (opD (stSp d zs o).zs : Int) ≤ d.opn := by
  unfold stSp
  by_cases k1 : o.k = 1
  · rw [if_pos k1]
    unfold apSp
    by_cases h1 : cmdE d zs.length o.z = 0
    · rw [if_neg (fun h => h h1)]
      obtain ⟨k, hz, hk', _⟩ := cmd_in h1
      rw [hz]
      obtain ⟨z, hzz⟩ : ∃ z, zs[k]? = some z := ⟨_, List.getElem?_eq_getElem hk'⟩
      obtain ⟨hok, _⟩ := sane_at sn hzz
      by_cases h2 : stS (zsat zs (k : Int)) = 0 ∧ ¬ (opD zs : Int) < d.opn
      · rw [if_pos h2]; exact .inl (Int.le_refl _)
      · rw [if_neg h2, Int.toNat_natCast, zsat_of hzz]
        rw [zsat_of hzz] at h2
        by_cases h3 : stS z = 0
        · right
          have := opD_set1 k (apSS z o.s) zs
          show (opD (zs.set k (apSS z o.s)) : Int) ≤ d.opn
          omega
        · left
          have := opD_set0 (apSS z o.s) k zs z hzz (st_ap o.s h3 hok)
          show (opD (zs.set k (apSS z o.s)) : Int) ≤ opD zs
          omega
    · rw [if_pos h1]; exact .inl (Int.le_refl _)
  rw [if_neg k1]
  left
  by_cases k2 : o.k = 2
  · rw [if_pos k2]; unfold rdSp; split <;> exact Int.le_refl _
  rw [if_neg k2]
  by_cases k3 : o.k = 3
  · rw [if_pos k3]
    unfold rsSp
    by_cases h1 : cmdE d zs.length o.z = 0
    · rw [if_neg (fun h => h h1)]
      obtain ⟨k, hz, hk', _⟩ := cmd_in h1
      obtain ⟨z, hzz⟩ : ∃ z, zs[k]? = some z := ⟨_, List.getElem?_eq_getElem hk'⟩
      rw [hz, Int.toNat_natCast, zsat_of hzz]
      have := opD_set0 (rsS z) k zs z hzz (st_rs (sane_at sn hzz).1)
      show (opD (zs.set k (rsS z)) : Int) ≤ opD zs
      omega
    · rw [if_pos h1]; exact Int.le_refl _
  rw [if_neg k3]
  by_cases k4 : o.k = 4
  · rw [if_pos k4]
    unfold fnSp
    by_cases h1 : cmdE d zs.length o.z = 0
    · rw [if_neg (fun h => h h1)]
      obtain ⟨k, hz, hk', _⟩ := cmd_in h1
      obtain ⟨z, hzz⟩ : ∃ z, zs[k]? = some z := ⟨_, List.getElem?_eq_getElem hk'⟩
      rw [hz, Int.toNat_natCast, zsat_of hzz]
      have := opD_set0 (fnS z) k zs z hzz (st_fn (sane_at sn hzz).1)
      show (opD (zs.set k (fnS z)) : Int) ≤ opD zs
      omega
    · rw [if_pos h1]; exact Int.le_refl _
  rw [if_neg k4]
  by_cases k5 : o.k = 5
  · rw [if_pos k5]
    unfold flSp
    split
    · exact Int.le_refl _
    · show (opD (zs.mapIdx (fun _ => flS)) : Int) ≤ opD zs
      rw [opD_map]; exact Int.le_refl _
  rw [if_neg k5]
  by_cases k6 : o.k = 6
  · rw [if_pos k6]; exact Int.le_refl _
  rw [if_neg k6, if_neg hk]
  by_cases k8 : o.k = 8
  · rw [if_pos k8]
    unfold faSp
    by_cases h1 : dhB zs.length o.z = true
    · rw [if_pos h1]
      obtain ⟨i0, i1⟩ := dhB_in h1
      have := opD_zsat (k := o.z.toNat) (zs := zs) (by omega) (faS (zsat zs o.z) o.off) (fun e => by rw [Int.toNat_of_nonneg i0]; exact st_fa _ e)
      show (opD (zs.set _ _) : Int) ≤ opD zs
      omega
    · rw [if_neg h1]; exact Int.le_refl _
  rw [if_neg k8]
  by_cases k9 : o.k = 9
  · rw [if_pos k9]
    unfold spSp
    by_cases h1 : dhB zs.length o.z = true
    · rw [if_pos h1]
      obtain ⟨i0, i1⟩ := dhB_in h1
      have := opD_zsat (k := o.z.toNat) (zs := zs) (by omega) (chS7 (zsat zs o.z) o.off o.s) (fun e => by rw [Int.toNat_of_nonneg i0]; rw [st_ch] at e; exact e)
      show (opD (zs.set _ _) : Int) ≤ opD zs
      omega
    · rw [if_neg h1]; exact Int.le_refl _
  rw [if_neg k9]
  exact Int.le_refl _
/-- What a step keeps of the device, and how many commands it counts. -/
theorem stSp_keeps : (stSp d zs o).zs.length = zs.length ∧ (stSp d zs o).d.size = d.size ∧ (stSp d zs o).d.opn = d.opn ∧ d.count ≤ (stSp d zs o).d.count ∧ (stSp d zs o).d.count ≤ d.count + 1 := by
  have e0 : ∀ (d : DvR) (zs : List ZsR), zs.length = zs.length ∧ d.size = d.size ∧ d.opn = d.opn ∧ d.count ≤ d.count ∧ d.count ≤ d.count + 1 := fun d zs => ⟨rfl, rfl, rfl, Int.le_refl _, by omega⟩
  unfold stSp
  split
  · unfold apSp
    split
    · exact e0 d zs
    · split
      · exact ⟨rfl, rfl, rfl, by show d.count ≤ d.count + 1; omega, Int.le_refl _⟩
      · exact ⟨List.length_set .., rfl, rfl, by show d.count ≤ d.count + 1; omega, Int.le_refl _⟩
  split
  · unfold rdSp
    split
    · exact e0 d zs
    · exact ⟨rfl, rfl, rfl, by show d.count ≤ d.count + 1; omega, Int.le_refl _⟩
  split
  · unfold rsSp
    split
    · exact e0 d zs
    · exact ⟨List.length_set .., rfl, rfl, by show d.count ≤ d.count + 1; omega, Int.le_refl _⟩
  split
  · unfold fnSp
    split
    · exact e0 d zs
    · exact ⟨List.length_set .., rfl, rfl, by show d.count ≤ d.count + 1; omega, Int.le_refl _⟩
  split
  · unfold flSp
    split
    · exact e0 d zs
    · exact ⟨List.length_mapIdx, rfl, rfl, by show d.count ≤ d.count + 1; omega, Int.le_refl _⟩
  split
  · exact ⟨rfl, rfl, rfl, Int.le_refl _, by show d.count ≤ d.count + 1; omega⟩
  split
  · unfold rvSp
    split
    · exact ⟨List.length_mapIdx, rfl, rfl, Int.le_refl _, by show d.count ≤ d.count + 1; omega⟩
    · exact e0 d zs
  split
  · unfold faSp
    split
    · exact ⟨List.length_set .., rfl, rfl, Int.le_refl _, by show d.count ≤ d.count + 1; omega⟩
    · exact e0 d zs
  split
  · unfold spSp
    split
    · exact ⟨List.length_set .., rfl, rfl, Int.le_refl _, by show d.count ≤ d.count + 1; omega⟩
    · exact e0 d zs
  exact e0 d zs
end

def s1 : List Nat := 1 :: zeros 63
theorem s1_length : s1.length = 64 := by simp [s1, zeros_length]
theorem s1_lt : ∀ b ∈ s1, b < 256 := fun b hb => by
  rcases List.mem_cons.1 hb with rfl | hb
  · decide
  · exact zeros_lt 63 b hb
theorem anchor_1 : apSp (dv0 2 1) [zs0 2, zs0 2] 0 s1 = ⟨0, 0, ⟨2, 1, 1, false⟩, [⟨2, 0, false, 0, [s1]⟩, zs0 2]⟩ := by rfl
theorem anchor_2 : apSp ⟨2, 1, 1, false⟩ [⟨2, 0, false, 0, [s1]⟩, zs0 2] 1 s1 = ⟨0, 33, ⟨2, 1, 2, false⟩, [⟨2, 0, false, 0, [s1]⟩, zs0 2]⟩ := by rfl
set_option maxRecDepth 100000 in
set_option maxHeartbeats 2000000 in
theorem anchor7_any (w : World) : Calls Try.prog 8 #[] w fun e w' => e = .returned (.bool true) ∧ Below w.heap.size w w' := by
  go_enter Try.func8, Try.ntmps8
  go_wp2_with fail
  refine (dnew_ok (lo := w.heap.size) 2 2 1 w (by decide) (by decide) (by decide) (Nat.le_refl _)).mono ?_
  rintro e w1 ⟨rfl, ⟨vz, l, hA, hm⟩, hb⟩
  have HA := Lib.hid hA
  have Hb := Lib.hid hb
  have hm' : l.map ZcR.z = [zs0 2, zs0 2] := hm
  have Hm := Lib.hid hm'
  have hl : l.length = 2 := by have h := congrArg List.length hm'; rwa [List.length_map] at h
  clear hA hb hm hm'
  go_wp2_with (refine wpl_build (by rfl) _ _ rfl (.agg (bA s1)) (fun w => by kernel_rfl) ?_; go_frame)
  refine (cap7 0 s1 s1_length s1_lt HA.out (by decide) (by omega)).mono ?_
  rw [Hm.out, anchor_1]
  rintro e w2 ⟨rfl, hT⟩
  have Hb2 := Lib.hid (hT.bel HA.out Hb.out (Nat.le_refl _))
  obtain ⟨l2, hA2, hm2, _, _⟩ := hT
  have HA2 := Lib.hid hA2
  have Hm2 := Lib.hid hm2
  have hl2 : l2.length = 2 := by have h := congrArg List.length hm2; rwa [List.length_map] at h
  clear hA2 hm2 hl HA Hb Hm
  go_wp2_with (refine wpl_build (by rfl) _ _ rfl (.agg (bA s1)) (fun w => by kernel_rfl) ?_; go_frame)
  refine (cap7 1 s1 s1_length s1_lt HA2.out (by decide) (by omega)).mono ?_
  rw [Hm2.out, anchor_2]
  rintro e w3 ⟨rfl, hT⟩
  have Hb3 := Lib.hid (hT.bel HA2.out Hb2.out (Nat.le_refl _))
  obtain ⟨l3, hA3, hm3, _, _⟩ := hT
  have HA3 := Lib.hid hA3
  have Hm3 := Lib.hid hm3
  clear hA3 hm3 hl2 HA2 Hb2 Hm2
  go_wp2_with fail
  refine (dcount HA3.out).mono ?_
  rintro e w4 ⟨rfl, rfl⟩
  go_wp2_with fail
  refine (cst7 0 HA3.out).mono ?_
  rw [Hm3.out]
  rw [show stD [⟨2, 0, false, 0, [s1]⟩, zs0 2] 0 = 1 from rfl]
  rintro e w5 ⟨rfl, hb5⟩
  have Hb5 := Lib.hid (bthen Hb3.out hb5)
  clear hb5
  go_wp2_with fail
  go_ret
  exact ⟨rfl, Hb5.out⟩

/-- What stands while a law goes on: the device, the document's zones, its device at block X. -/
structure LvI (w : World) (D X : Nat) (vz v7 : Value) (d : DvR) (l : List ZcR) (W : World) : Prop where
  dv : DvAt w.heap.size W D vz d l
  doc : Doc w.heap.size W v7 (l.map ZcR.z)
  bX : Blk W X 31 (d7A (dd7 d) v7)
  B : Below w.heap.size w W
  loX : w.heap.size ≤ X
section
variable {w W W' W1 W2 W3 : World} {D X : Nat} {vz v7 v8 : Value} {d : DvR} {l : List ZcR} {R : OutR}
theorem LvI.below (h : LvI w D X vz v7 d l W) (hb : Below W.heap.size W W') : LvI w D X vz v7 d l W' := ⟨h.dv.below hb, h.doc.below hb, h.bX.below hb h.bX.lt, h.B.trans (hb.mono h.B.size), h.loX⟩
/-- Behind a step, and the store of what it told. -/
theorem LvI.next (h : LvI w D X vz v7 d l W) (hd : Doc w.heap.size W' v8 R.zs) (hT : DvTo w.heap.size W D vz l R.d R.zs W') (hX : Blk W3 X 31 (d7A (dd7 R.d) v8)) (hk : Kept (· = X) W' W3) : ∃ l', LvI w D X vz v8 R.d l' W3 ∧ l'.map ZcR.z = R.zs := by
  have hbX := hT.blk h.dv h.bX (by decide) (by decide) (by decide) (by decide)
  have hB := hT.bel h.dv h.B (Nat.le_refl _)
  obtain ⟨l', k1, k2, k3, k4⟩ := hT
  rw [← k2] at hd
  exact ⟨l', ⟨k1.kept hk (fun i hi e => k1.notblk hbX (by decide) (by decide) (by decide) (by decide) (e ▸ hi)), hd.keptB hbX (by decide) (by decide) hk, hX, bkept hB (Nat.le_refl _) hk (fun i hi e => by have := h.loX; omega), h.loX⟩, k2⟩
theorem LvI.slice (h : LvI w D X vz v7 d l W) : ∃ a n c, v7 = .slice a n c := by
  obtain ⟨l7, r, _⟩ := h.doc
  obtain ⟨a, c, e⟩ := own_slice r.own
  exact ⟨a, _, c, e⟩
/-- Another block stays over a step. -/
theorem LvI.other (h : LvI w D X vz v7 d l W) {g : Nat} {t : TypeId} {cs : Array Value} (hT : DvTo w.heap.size W D vz l R.d R.zs W') (hk : Kept (· = X) W' W3) (hg : Blk W g t cs) (h1 : t ≠ 61) (h2 : t ≠ 62) (h3 : t ≠ 88) (h4 : t ≠ 34) (hgX : g ≠ X) : Blk W3 g t cs := (hT.blk h.dv hg h1 h2 h3 h4).kept hk (fun e => hgX e)
end

end Go.Proofs.Ytlngdndamgopeaa

/-
  Layer 7 (zdev): the beginning of a law.
-/
namespace Go.Proofs.Ytlngdndamgopeaa
open Go.RowKit
set_option linter.unusedVariables false
set_option linter.unnecessarySimpa false
set_option linter.unusedSimpArgs false


section
variable {P : Program} {w : World} {ops : Array Oper} {rest : List Oper} {o : Oper} {a : Act} {Q : Exit → Act → World → Prop}
theorem wpl_load_op (hw : Region.wanted o (yielded ops a.tmps) = true) (ty : TypeId) (x : Operand) (ho : o.op = .load ty x) (b i : Nat) (hx : a.eval x = .pointer (some ⟨b, i, none⟩)) (it : Op7) (d : TypeDesc) (hc : w.rangeAt b i (opL it))
    (hu : P.underlying ty = some d) (hd : d.isRow = true) (hi : (P.info? ty).map (·.size) = some (opL it).length)
    (h : wpList P ops Q rest (a.put o.dst (.agg (opA it))) w) : wpList P ops Q (o :: rest) a w := by
  unfold wpList
  rw [if_pos hw]
  exact .inl (wp_load_mid ty x ho b i hx (opL it) d hc hu hd hi h)
end
theorem Try.infoOpL {it : Op7} (h : it.s.length = 64) : (Try.prog.info? 37).map (·.size) = some (opL it).length := by rw [opL_length h]; exact Try.infoOp7
theorem opA_size {it : Op7} (h : it.s.length = 64) : (opA it).size = 68 := by show (opL it).toArray.size = 68; rw [List.size_toArray, opL_length h]
theorem opA_one (it : Op7) : (opA it).all (·.oneCell') = true := by
  refine all_oneCell_toArray (fun v hv => ?_)
  unfold opL at hv
  rcases List.mem_append.1 hv with h | h
  · rcases List.mem_append.1 h with h | h
    · simp at h; rcases h with rfl | rfl | rfl <;> rfl
    · exact bvals_one _ v h
  · simp at h; subst h; rfl
theorem bvals_zeros : bvals (zeros 64) = List.replicate 64 (.int .u8 0) := by simp [bvals, zeros]
def op0 : Op7 := ⟨0, 0, 0, zeros 64, none, 0, 0, []⟩
theorem right_yes (z s o : Int) (w : World) (h1 : 1 ≤ z) (h2 : z ≤ 512) (h3 : 1 ≤ s) (h4 : s ≤ 64) (h5 : 1 ≤ o) (h6 : o ≤ 64) : Calls Try.prog 10 #[.int .i64 z, .int .i64 s, .int .i64 o] w fun e w' => e = .returned (.bool true) ∧ w = w' := by
  have d1 : decide (z ≥ 1) = true := decide_eq_true h1
  have d2 : decide (z ≤ 512) = true := decide_eq_true h2
  have d3 : decide (s ≥ 1) = true := decide_eq_true h3
  have d4 : decide (s ≤ 64) = true := decide_eq_true h4
  have d5 : decide (o ≥ 1) = true := decide_eq_true h5
  have d6 : decide (o ≤ 64) = true := decide_eq_true h6
  go_enter Try.func10, Try.ntmps10
  go_wp2_with fail
  go_ret
  exact ⟨rfl, rfl⟩
set_option maxRecDepth 100000 in
set_option maxHeartbeats 2000000 in
theorem right_n0 (z s o : Int) (w : World)  (hn : z < 1) : Calls Try.prog 10 #[.int .i64 z, .int .i64 s, .int .i64 o] w fun e w' => e = .returned (.bool false) ∧ w = w' := by
  go_enter Try.func10, Try.ntmps10
  go_wp2_with fail
  go_ret
  exact ⟨ret_bool (by first | rfl | exact decide_eq_false (by omega)), rfl⟩
set_option maxRecDepth 100000 in
set_option maxHeartbeats 2000000 in
theorem right_n1 (z s o : Int) (w : World) (h0 : 1 ≤ z) (hn : 512 < z) : Calls Try.prog 10 #[.int .i64 z, .int .i64 s, .int .i64 o] w fun e w' => e = .returned (.bool false) ∧ w = w' := by
  go_enter Try.func10, Try.ntmps10
  go_wp2_with fail
  go_ret
  exact ⟨ret_bool (by first | rfl | exact decide_eq_false (by omega)), rfl⟩
set_option maxRecDepth 100000 in
set_option maxHeartbeats 2000000 in
theorem right_n2 (z s o : Int) (w : World) (h0 : 1 ≤ z) (h1 : z ≤ 512) (hn : s < 1) : Calls Try.prog 10 #[.int .i64 z, .int .i64 s, .int .i64 o] w fun e w' => e = .returned (.bool false) ∧ w = w' := by
  go_enter Try.func10, Try.ntmps10
  go_wp2_with fail
  go_ret
  exact ⟨ret_bool (by first | rfl | exact decide_eq_false (by omega)), rfl⟩
set_option maxRecDepth 100000 in
set_option maxHeartbeats 2000000 in
theorem right_n3 (z s o : Int) (w : World) (h0 : 1 ≤ z) (h1 : z ≤ 512) (h2 : 1 ≤ s) (hn : 64 < s) : Calls Try.prog 10 #[.int .i64 z, .int .i64 s, .int .i64 o] w fun e w' => e = .returned (.bool false) ∧ w = w' := by
  go_enter Try.func10, Try.ntmps10
  go_wp2_with fail
  go_ret
  exact ⟨ret_bool (by first | rfl | exact decide_eq_false (by omega)), rfl⟩
set_option maxRecDepth 100000 in
set_option maxHeartbeats 2000000 in
theorem right_n4 (z s o : Int) (w : World) (h0 : 1 ≤ z) (h1 : z ≤ 512) (h2 : 1 ≤ s) (h3 : s ≤ 64) (hn : o < 1) : Calls Try.prog 10 #[.int .i64 z, .int .i64 s, .int .i64 o] w fun e w' => e = .returned (.bool false) ∧ w = w' := by
  go_enter Try.func10, Try.ntmps10
  go_wp2_with fail
  go_ret
  exact ⟨ret_bool (by first | rfl | exact decide_eq_false (by omega)), rfl⟩
set_option maxRecDepth 100000 in
set_option maxHeartbeats 2000000 in
theorem right_n5 (z s o : Int) (w : World) (h0 : 1 ≤ z) (h1 : z ≤ 512) (h2 : 1 ≤ s) (h3 : s ≤ 64) (h4 : 1 ≤ o) (hn : 64 < o) : Calls Try.prog 10 #[.int .i64 z, .int .i64 s, .int .i64 o] w fun e w' => e = .returned (.bool false) ∧ w = w' := by
  go_enter Try.func10, Try.ntmps10
  go_wp2_with fail
  go_ret
  exact ⟨ret_bool (by first | rfl | exact decide_eq_false (by omega)), rfl⟩
theorem right_no (z s o : Int) (w : World) (h : ¬ ((1 ≤ z ∧ z ≤ 512) ∧ (1 ≤ s ∧ s ≤ 64) ∧ 1 ≤ o ∧ o ≤ 64)) : Calls Try.prog 10 #[.int .i64 z, .int .i64 s, .int .i64 o] w fun e w' => e = .returned (.bool false) ∧ w = w' := by
  by_cases h0 : 1 ≤ z
  · by_cases h1 : z ≤ 512
    · by_cases h2 : 1 ≤ s
      · by_cases h3 : s ≤ 64
        · by_cases h4 : 1 ≤ o
          · exact right_n5 z s o w h0 h1 h2 h3 h4 (by omega)
          · exact right_n4 z s o w h0 h1 h2 h3 (by omega)
        · exact right_n3 z s o w h0 h1 h2 (by omega)
      · exact right_n2 z s o w h0 h1 (by omega)
    · exact right_n1 z s o w h0 (by omega)
  · exact right_n0 z s o w (by omega)
theorem stD_at {l : List ZcR} {q : Nat} {c : ZcR} (hc : l[q]? = some c) : stD (l.map ZcR.z) (q : Int) = stS c.z := by
  have hq : q < l.length := (List.getElem?_eq_some_iff.1 hc).1
  unfold stD
  rw [if_pos (by unfold dhB; simp; omega), zsat_of (zof hc)]
theorem doc_start {lo : Nat} {w : World} {v : Value} {n : Nat} {size : Int} (h : 1 ≤ size ∧ size ≤ 64) (hr : Row7 lo w v (l70 n)) : Doc lo w v (List.replicate n (zs0 size)) := ⟨l70 n, hr, by unfold l70; rw [List.map_replicate, List.map_replicate, rz_zero h]⟩

end Go.Proofs.Ytlngdndamgopeaa

