/-
  Layer 3 (frame), third part: Encode.
-/
import Derived.Test.YtlkghdgomfcfkaaFrameC
import Derived.Test.YtlkghdgomfcfkaaCrcG
namespace Go.Proofs.Ytlkghdgomfcfkaa
open Go.RowKit CrcM
set_option linter.unusedVariables false
set_option linter.unnecessarySimpa false
set_option linter.unusedSimpArgs false

theorem zero_sec (w : World) : (zeroValue 32).run Try.prog w = .ok (.agg (bA (zeros 64))) w := by kernel_rfl
/-- The empty frame. -/
def fr0 : FrR := ⟨0, 0, 0, 0, 0, zeros 44⟩
theorem zero_fr (w : World) : (zeroValue 24).run Try.prog w = .ok (.agg (frA fr0)) w := by kernel_rfl

/-- One operation of a region that yields in whatever world is taken first; its slot is told. -/
theorem take_one {P : Program} {md : Region.Mode} {ops : Array Oper} {Q : Exit → Act → World → Prop} {i d : Nat} {oi : Oper} {v : Value} {fuel : Nat} {listed : Array Bool} {a : Act} {w : World} (hi : ops[i]? = some oi) (hd : oi.dst = some d)
    (hs : Region.noSelect ops = true) (hf : Region.free md ops listed i = true) (hr : (Region.ready md ops listed).contains i = true)
    (hQ : ∀ c a w, Q (.panic c) (a.put oi.dst v) w → Q (.panic c) a w) (hy : Yields P ops oi v a)
    (h : wpAny P md ops Q fuel (listed.setIfInBounds i true) (a.put (some d) v) w) : wpAny P md ops Q (fuel + 1) listed a w :=
  wpAny_take hi hs hf hr hQ hy (by rw [hd]; exact h)

/-- One operation of a region that must come next. -/
theorem next_one {P : Program} {md : Region.Mode} {ops : Array Oper} {Q : Exit → Act → World → Prop} {i : Nat} {o : Oper} {fuel : Nat} {listed : Array Bool} {a : Act} {w : World} (ho : ops[i]? = some o)
    (hr : Region.ready md ops listed = [i]) (hw : Region.wanted o (yielded ops a.tmps) = true)
    (h : ∀ K' : Act → World → Prop, (∀ a w, wpAny P md ops Q fuel (listed.setIfInBounds i true) a w → K' a w) → Oper.wp P o a w K' Q) : wpAny P md ops Q (fuel + 1) listed a w :=
  wpAny_ready hr (by simp) (AllReady.cons ho (fun K' hK => by rw [if_pos hw]; exact h K' hK) AllReady.nil)

/-- What Encode tells of a frame that may not be. -/
def EncErr (w : World) (e : Ending) (w' : World) : Prop := e = .returned (.tuple #[.agg (bA (zeros 64)), .int .i64 10]) ∧ Below w.heap.size w w'
/-- .. of one that may. -/
def EncOk (f : FrR) (w : World) (e : Ending) (w' : World) : Prop := e = .returned (.tuple #[.agg (bA (sec f)), .int .i64 0]) ∧ Below w.heap.size w w'

theorem results_cell_slot {P : Program} {fn : Func} {p q : Tmp} {ty : TypeId} (h : fn.results = #[.cell p ty, .tmp q]) (tmps : Array Value) (w : World) (g : Nat) (t : TypeId) (cs : Array Value) (v : Value) (d : TypeDesc)
    (hp : tmps.getD p undef = .pointer (some ⟨g, 0, none⟩)) (hq : tmps.getD q undef = v) (hg : Blk w g t cs)
    (hu : P.underlying ty = some d) (hd : (match d with | .struct _ | .array _ _ => true | _ => false) = true) (hi : (P.info? ty).map (·.size) = some cs.size) :
    (results fn tmps).run P w = .ok (.tuple #[.agg cs, v]) w := by
  have hp' : tmps[p]?.getD undef = .pointer (some ⟨g, 0, none⟩) := by simpa using hp
  have hq' : tmps[q]?.getD undef = v := by simpa using hq
  simp [results, h, hp', hq', asAddr, run_loadVar_row w g t ty cs (0, 0) d hg hu hd hi]

set_option maxRecDepth 100000 in
set_option maxHeartbeats 1000000 in
theorem encode_bad (f : FrR) (w : World) (hl : f.b.length = 44) (hb : ∀ c ∈ f.b, c < 256) (hr : rightB f = false) :
    Calls Try.prog 11 #[.agg tbl, .agg (frA f)] w (EncErr w) := by
  have HL := Lib.hid hl
  have Hb := Lib.hid hb
  have Hr := Lib.hid hr
  clear hl hb hr
  have hz := zero_sec
  have hT0 : Blk (((w.alloc (Obj.cells tbl 28)).alloc (Obj.cells (frA f) 24)).alloc (Obj.cells (bA (zeros 64)) 32)) w.heap.size 28 tbl := Blk.alloc (Blk.alloc (Blk.new w 28 tbl) _) _
  have hF0 : Blk (((w.alloc (Obj.cells tbl 28)).alloc (Obj.cells (frA f) 24)).alloc (Obj.cells (bA (zeros 64)) 32)) (w.heap.size + 1) 24 (frA f) := by
    have h := Blk.alloc (Blk.new (w.alloc (Obj.cells tbl 28)) 24 (frA f)) (Obj.cells (bA (zeros 64)) 32)
    rwa [show (w.alloc (Obj.cells tbl 28)).heap.size = w.heap.size + 1 by simp] at h
  have hS0 : Blk (((w.alloc (Obj.cells tbl 28)).alloc (Obj.cells (frA f) 24)).alloc (Obj.cells (bA (zeros 64)) 32)) (w.heap.size + 2) 32 (bA (zeros 64)) := by
    have h := Blk.new ((w.alloc (Obj.cells tbl 28)).alloc (Obj.cells (frA f) 24)) 32 (bA (zeros 64))
    rwa [show ((w.alloc (Obj.cells tbl 28)).alloc (Obj.cells (frA f) 24)).heap.size = w.heap.size + 2 by simp] at h
  have hB0 : Below w.heap.size w (((w.alloc (Obj.cells tbl 28)).alloc (Obj.cells (frA f) 24)).alloc (Obj.cells (bA (zeros 64)) 32)) := bthen (below_alloc _ _) (bthen (below_alloc _ _) (below_alloc _ _))
  have HT0 := Lib.hid hT0
  have HF0 := Lib.hid hF0
  have HS0 := Lib.hid hS0
  have HB0 := Lib.hid hB0
  clear hT0 hF0 hS0 hB0
  go_enter Try.func11, Try.ntmps11
  go_wp2_with (first | (refine wpl_load rfl _ rfl (w.heap.size + 1) rfl _ _ _ HF0.out Try.underlying24 rfl (info_frA HL.out) ?_; go_frame))
  refine (write_any f _ HL.out Hb.out).mono ?_
  rintro e w1 ⟨v, x, rfl, hb1, hq⟩
  have HB1 := Lib.hid (bthen HB0.out hb1)
  have HT1 := Lib.hid (HT0.out.below hb1 HT0.out.lt)
  have HF1 := Lib.hid (HF0.out.below hb1 HF0.out.lt)
  have HS1 := Lib.hid (HS0.out.below hb1 HS0.out.lt)
  clear hq hz HB0 HT0 HF0 HS0 hb1
  by_cases hx : x = 0
  · subst hx
    go_wp2_with (first | (refine wpl_load_g (by kernel_rfl) _ rfl (w.heap.size + 1) rfl _ _ _ HF1.out Try.underlying24 rfl (info_frA HL.out) ?_; go_frame))
    refine (right_any f _).mono ?_
    rintro e w2 ⟨rfl, hb2⟩
    rw [Hr.out]
    have HB2 := Lib.hid (bthen HB1.out hb2)
    have HS2 := Lib.hid (HS1.out.below hb2 HS1.out.lt)
    clear HB1 HT1 HF1 HS1 hb2
    go_wp2_with (first | (refine wpl_build (by kernel_rfl) 32 _ rfl (.agg (bA (zeros 64))) (fun _ => by kernel_rfl) ?_; go_frame) | (refine wpl_store rfl _ _ rfl (w.heap.size + 2) (bA (zeros 64)) rfl rfl _ _ HS2.out (info_sec (zeros_length 64)) (by simp [bA_size, zeros_length]) (bA_one _) ?_; intro w3 hS3 hK3; have HS3 := Lib.hid hS3; have HK3 := Lib.hid hK3; clear hS3 hK3; go_frame))
    refine bodyPost_ret (v := .tuple #[.agg (bA (zeros 64)), .int .i64 10]) (results_cell_slot Try.results11 _ _ (w.heap.size + 2) _ _ _ _ rfl rfl HS3.out Try.underlying32 rfl (info_sec (zeros_length 64))) rfl ⟨rfl, ?_⟩
    exact bkept HB2.out (Nat.le_refl _) HK3.out (fun i hi h => by omega)
  · have hx0 : (x != 0) = true := by rw [bne_iff_ne]; exact hx
    clear hx
    go_wp2_with (first | (refine wpl_build (by kernel_rfl) 32 _ rfl (.agg (bA (zeros 64))) (fun _ => by kernel_rfl) ?_; go_frame) | (refine wpl_store rfl _ _ rfl (w.heap.size + 2) (bA (zeros 64)) rfl rfl _ _ HS1.out (info_sec (zeros_length 64)) (by simp [bA_size, zeros_length]) (bA_one _) ?_; intro w3 hS3 hK3; have HS3 := Lib.hid hS3; have HK3 := Lib.hid hK3; clear hS3 hK3; go_frame))
    refine bodyPost_ret (v := .tuple #[.agg (bA (zeros 64)), .int .i64 10]) (results_cell_slot Try.results11 _ _ (w.heap.size + 2) _ _ _ _ rfl rfl HS3.out Try.underlying32 rfl (info_sec (zeros_length 64))) rfl ⟨rfl, ?_⟩
    exact bkept HB1.out (Nat.le_refl _) HK3.out (fun i hi h => by omega)

theorem run_slice_64 (w : World) (g : Nat) :
    (Instr.sliceAt 32 (.pointer (some ⟨g, 0, none⟩)) none none none).run Try.prog w = .ok (.slice (some ⟨g, 0, none⟩) 64 64) w := by
  obtain ⟨i0, hi, hz0, hz1, hz2⟩ := info_parts Try.infoByte
  simp [Instr.sliceAt, Instr.sureAddr, Instr.sliceBounds, Instr.sliceBound, run_underlying Try.underlying32, asIntOf, sizeOf, typeInfo, hi, Addr.add]

theorem splice_full {xs zs : List Nat} {n : Nat} (h : xs.length = n) (hz : zs.length = n) : (splice (bvals zs) 0 (bvals (xs.take n))).toArray = bA xs := by
  unfold splice bA
  rw [List.take_of_length_le (l := xs) (by omega), List.take_zero, List.nil_append, List.drop_of_length_le (by rw [bvals_length, bvals_length]; omega), List.append_nil]

set_option maxRecDepth 100000 in
set_option maxHeartbeats 1000000 in
theorem encode_ok (f : FrR) (w : World) (hl : f.b.length = 44) (hb : ∀ c ∈ f.b, c < 256) (hr : rightB f = true) :
    Calls Try.prog 11 #[.agg tbl, .agg (frA f)] w (EncOk f w) := by
  have HL := Lib.hid hl
  have Hb := Lib.hid hb
  have Hr := Lib.hid hr
  clear hl hb hr
  have hz := zero_sec
  have hT0 : Blk (((w.alloc (Obj.cells tbl 28)).alloc (Obj.cells (frA f) 24)).alloc (Obj.cells (bA (zeros 64)) 32)) w.heap.size 28 tbl := Blk.alloc (Blk.alloc (Blk.new w 28 tbl) _) _
  have hF0 : Blk (((w.alloc (Obj.cells tbl 28)).alloc (Obj.cells (frA f) 24)).alloc (Obj.cells (bA (zeros 64)) 32)) (w.heap.size + 1) 24 (frA f) := by
    have h := Blk.alloc (Blk.new (w.alloc (Obj.cells tbl 28)) 24 (frA f)) (Obj.cells (bA (zeros 64)) 32)
    rwa [show (w.alloc (Obj.cells tbl 28)).heap.size = w.heap.size + 1 by simp] at h
  have hS0 : Blk (((w.alloc (Obj.cells tbl 28)).alloc (Obj.cells (frA f) 24)).alloc (Obj.cells (bA (zeros 64)) 32)) (w.heap.size + 2) 32 (bA (zeros 64)) := by
    have h := Blk.new ((w.alloc (Obj.cells tbl 28)).alloc (Obj.cells (frA f) 24)) 32 (bA (zeros 64))
    rwa [show ((w.alloc (Obj.cells tbl 28)).alloc (Obj.cells (frA f) 24)).heap.size = w.heap.size + 2 by simp] at h
  have hB0 : Below w.heap.size w (((w.alloc (Obj.cells tbl 28)).alloc (Obj.cells (frA f) 24)).alloc (Obj.cells (bA (zeros 64)) 32)) := bthen (below_alloc _ _) (bthen (below_alloc _ _) (below_alloc _ _))
  have HT0 := Lib.hid hT0
  have HF0 := Lib.hid hF0
  have HS0 := Lib.hid hS0
  have HB0 := Lib.hid hB0
  clear hT0 hF0 hS0 hB0
  go_enter Try.func11, Try.ntmps11
  go_wp2_with (first | (refine wpl_load rfl _ rfl (w.heap.size + 1) rfl _ _ _ HF0.out Try.underlying24 rfl (info_frA HL.out) ?_; go_frame))
  refine (write_any f _ HL.out Hb.out).mono ?_
  rintro e w1 ⟨v, x, rfl, hb1, hq⟩
  have HB1 := Lib.hid (bthen HB0.out hb1)
  have HT1 := Lib.hid (HT0.out.below hb1 HT0.out.lt)
  have HF1 := Lib.hid (HF0.out.below hb1 HF0.out.lt)
  have HS1 := Lib.hid (HS0.out.below hb1 HS0.out.lt)
  obtain ⟨rfl, g, rfl, hg1, hA1⟩ := hq (ahead f) (aheadO_right Hr.out)
  have HA := Lib.hid (row_of_blk hA1 (ahead_lt Hb.out) 60 (ahead_length HL.out) (by decide))
  rw [ahead_length HL.out]
  clear hq HB0 HT0 HF0 HS0 hb1 hg1 hA1
  go_wp2_with (first | (refine wpl_load_g (by kernel_rfl) _ rfl (w.heap.size + 1) rfl _ _ _ HF1.out Try.underlying24 rfl (info_frA HL.out) ?_; go_frame))
  refine (right_any f _).mono ?_
  rintro e w2 ⟨rfl, hb2⟩
  rw [Hr.out]
  have HB2 := Lib.hid (bthen HB1.out hb2)
  have HT2 := Lib.hid (HT1.out.below hb2 HT1.out.lt)
  have HS2 := Lib.hid (HS1.out.below hb2 HS1.out.lt)
  have HA2 := Lib.hid (HA.out.below hb2)
  clear HB1 HT1 HF1 HS1 HA hb2
  go_wp2_with fail
  clear hz
  have HZ2 := Lib.hid HB2.out.size
  have HLt : Hid (w.heap.size + 2 < w2.heap.size) := Lib.hid HS2.out.lt
  have HB3 : Hid (Below w.heap.size w (w2.alloc (Obj.cells (bA (zeros 64)) 32)).drew) := Lib.hid (bthen HB2.out (below_alloc _ _)).drew
  have HT3 : Hid (Blk (w2.alloc (Obj.cells (bA (zeros 64)) 32)).drew w.heap.size 28 tbl) := Lib.hid (HT2.out.alloc _)
  have HS3 : Hid (Blk (w2.alloc (Obj.cells (bA (zeros 64)) 32)).drew (w.heap.size + 2) 32 (bA (zeros 64))) := Lib.hid (HS2.out.alloc _)
  have HN3 : Hid (Blk (w2.alloc (Obj.cells (bA (zeros 64)) 32)).drew w2.heap.size 32 (bvals (zeros 64)).toArray) := Lib.hid (Blk.new _ _ _)
  have HA3 : Hid (RowB (w2.alloc (Obj.cells (bA (zeros 64)) 32)).drew (some ⟨g, 0, none⟩) 60 60 (ahead f)) := Lib.hid (HA2.out.below (below_alloc _ _).drew)
  refine wp_region_any (by kernel_rfl) ?_
  change wpAny _ _ _ _ _ _ _ (World.drew _)
  clear HB2 HT2 HS2 HA2
  generalize (w2.alloc (Obj.cells (bA (zeros 64)) 32)).drew = w3 at *
  refine take_one (i := 0) (d := 22) (v := .slice (some ⟨w2.heap.size, 0, none⟩) 64 64) rfl (by kernel_rfl) (by kernel_rfl) (by kernel_rfl) (by kernel_rfl) (fun _ _ _ h => h) (Or.inl ⟨by kernel_rfl, fun w => by (first | kernel_rfl | go_simp)⟩) ?_
  refine take_one (i := 2) (d := 24) (v := .slice (some ⟨g, 0, none⟩) 60 60) rfl (by kernel_rfl) (by kernel_rfl) (by kernel_rfl) (by kernel_rfl) (fun _ _ _ h => h) (Or.inl ⟨by kernel_rfl, fun w => by kernel_rfl⟩) ?_
  go_frame
  refine next_one (i := 1) rfl (by kernel_rfl) (by kernel_rfl) (fun K' hK => ?_)
  refine wp_load_row 28 _ rfl w.heap.size rfl _ _ (0, 0) _ HT3.out Try.underlying28 rfl info_tbl ?_
  refine hK _ _ ?_
  clear hK K'
  go_frame
  refine next_one (i := 3) rfl (by kernel_rfl) (by kernel_rfl) (fun K' hK => ?_)
  go_wp2_with fail
  refine (seal_any _ _ _ (ahead f) _ HA3.out (by decide)).mono ?_
  rintro e w4 ⟨gs, rfl, hgs, hSd, hb4⟩
  have HSd : Hid (RowB w4 (some ⟨gs, 0, none⟩) 64 64 (sec f)) := Lib.hid (row_of_blk hSd (sec_lt Hb.out) 64 (sec_length HL.out) (by decide))
  have HB4 := Lib.hid (bthen HB3.out hb4)
  have HS4 := Lib.hid (HS3.out.below hb4 HS3.out.lt)
  have HN4 := Lib.hid (HN3.out.below hb4 HN3.out.lt)
  clear HB3 HT3 HS3 HN3 HA3 hgs hSd hb4
  refine hK _ _ ?_
  clear hK K'
  refine next_one (i := 4) rfl (by kernel_rfl) (by kernel_rfl) (fun K' hK => ?_)
  refine wp_copy_at rfl (.tmp 22) (.tmp 25) _ _ rfl Try.underlying47 infoByteSize w2.heap.size 0 64 64 _ _ HN4.out rfl (by simp [bvals_length, zeros_length]) _ _ _ (sec f) rfl HSd.out ?_
  intro w5 hN5 hb5
  rw [splice_full (sec_length HL.out) (by rw [zeros_length])] at hN5
  have HN5 := Lib.hid hN5
  have HB5 := Lib.hid (HB4.out.trans (hb5.mono (by have := HZ2.out; exact this)))
  have HS5 := Lib.hid (HS4.out.below hb5 (show w.heap.size + 2 < w2.heap.size from HLt.out))
  clear hN5 hb5 HB4 HS4 HN4 HSd
  refine hK _ _ ?_
  clear hK K'
  refine wpAny_done (by kernel_rfl) ?_ _
  go_frame
  go_wp2_with (first | (refine wpl_load rfl _ rfl (w2.heap.size) rfl _ _ _ HN5.out Try.underlying32 rfl (info_sec (sec_length HL.out)) ?_; go_frame) | (refine wpl_store rfl _ _ rfl (w.heap.size + 2) (bA (sec f)) rfl rfl _ _ HS5.out (info_sec (sec_length HL.out)) (by rw [bA_size, bA_size, zeros_length, sec_length HL.out]) (bA_one _) ?_; intro w6 hS6 hK6; have HS6 := Lib.hid hS6; have HK6 := Lib.hid hK6; clear hS6 hK6; go_frame))
  refine bodyPost_ret (v := .tuple #[.agg (bA (sec f)), .int .i64 0]) (results_cell_slot Try.results11 _ _ (w.heap.size + 2) _ _ _ _ rfl rfl HS6.out Try.underlying32 rfl (info_sec (sec_length HL.out))) rfl ⟨rfl, ?_⟩
  exact bkept HB5.out (Nat.le_refl _) HK6.out (fun i hi h => by omega)

end Go.Proofs.Ytlkghdgomfcfkaa
